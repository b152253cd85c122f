import PyProof.Rows.All
import Wide.FinOn
import KE.KEqDict
import KE.KSortTup
import KE.KUnpack
import KE.KDictOf
import KE.KFromBytes
import KE.KIsAll
import PySem.Challenge.RW_calledroom_k91_whole_let_on_in_order
set_option Elab.async false
set_option linter.all false
set_option maxRecDepth 100000
set_option maxHeartbeats 8000000
namespace PySem.W.Fast
def tw5064805774826031055:True:=⟨⟩
def tw2261690111079368267:True:=⟨⟩
def tw14468031820916430474:True:=⟨⟩
def tw15235877381002729199:True:=⟨⟩
def tw16117579239427447527:True:=⟨⟩
def tw10651593386540087003:True:=⟨⟩
def tw5884462339137611615:True:=⟨⟩
def tw6128533721397145355:True:=⟨⟩
def tw18137813914202766982:True:=⟨⟩
def tw2549465959947790469:True:=⟨⟩
def tw16260322536524416945:True:=⟨⟩
def tw5736892757133674504:True:=⟨⟩
def tw8377405013348780874:True:=⟨⟩
def tw15268962964227579946:True:=⟨⟩
def tw11904873383808300090:True:=⟨⟩
def tw3297977658910816085:True:=⟨⟩
def tw13469313992195110934:True:=⟨⟩
def tw8067790115676389283:True:=⟨⟩
def tw4454644717069420845:True:=⟨⟩
def tw6705814864678662022:True:=⟨⟩
def tw7785033402724546639:True:=⟨⟩
def tw7977386751071572900:True:=⟨⟩
def tw17512205426357535443:True:=⟨⟩
def tw12714263663241665465:True:=⟨⟩
def tw2710256616851591775:True:=⟨⟩
def tw3112400377052792943:True:=⟨⟩
def tw142081426425917913:True:=⟨⟩
def tw16092448902362897214:True:=⟨⟩
def tw14832497851140066324:True:=⟨⟩
def tw5502273976467308510:True:=⟨⟩
def tw14952487078612317700:True:=⟨⟩
def tw5090051423784713583:True:=⟨⟩
def tw1768025316156909866:True:=⟨⟩
def tw1512022411885338027:True:=⟨⟩
def tw5547646489105967100:True:=⟨⟩
def tw17752933350197021658:True:=⟨⟩
def tw7617337572622993776:True:=⟨⟩
def tw16786005196217314743:True:=⟨⟩
def tw2350198495963342831:True:=⟨⟩
def tw13914220108223999279:True:=⟨⟩
def tw436794529338486162:True:=⟨⟩
def tw8966544982814801695:True:=⟨⟩
def tw730144981067305424:True:=⟨⟩
def tw2931287543877202810:True:=⟨⟩
def tw5415620858494325021:True:=⟨⟩
def tw11061624002361704371:True:=⟨⟩
def tw5514836272067424075:True:=⟨⟩
def tw7287597123214726292:True:=⟨⟩
def tw4601471828801536281:True:=⟨⟩
def tw18105104218208753149:True:=⟨⟩
def tw14339221072588781954:True:=⟨⟩
def tw5690190357207108379:True:=⟨⟩
def tw16301777915254689136:True:=⟨⟩
def tw7067298085010515256:True:=⟨⟩
def tw11712393609608633704:True:=⟨⟩
def tw8717130623478206211:True:=⟨⟩
def tw2867149475897956743:True:=⟨⟩
def tw12605576628145937529:True:=⟨⟩
def tw497801102895782082:True:=⟨⟩
def tw1294682019895355823:True:=⟨⟩
def tw12071030035594897274:True:=⟨⟩
def tw3619821250116957777:True:=⟨⟩
def tw6928907763325933334:True:=⟨⟩
def tw17868604454482079126:True:=⟨⟩
def tw14487585661634956785:True:=⟨⟩
def tw135460161836773890:True:=⟨⟩
def tw7149156720222485516:True:=⟨⟩
def tw12107563331492889666:True:=⟨⟩
def tw3553746978706499801:True:=⟨⟩
def tw9852766040017395837:True:=⟨⟩
def tw9048437966249326682:True:=⟨⟩
def tw9596218960479449300:True:=⟨⟩
def tw15859342064299145803:True:=⟨⟩
def tw6517940763079158764:True:=⟨⟩
def tw224039102555568200:True:=⟨⟩
def tw10840242884968220895:True:=⟨⟩
def tw9584949278406629538:True:=⟨⟩
def tw3539142228813525588:True:=⟨⟩
def tw13035340576966505795:True:=⟨⟩
def tw9580413408016410762:True:=⟨⟩
def tw3341662835914953298:True:=⟨⟩
def tw7132771023663482196:True:=⟨⟩
def tw13503222383063464307:True:=⟨⟩
def tw11078707900166963367:True:=⟨⟩
def tw17063394979579071763:True:=⟨⟩
def tw13303683551212583188:True:=⟨⟩
def tw16495072264630955418:True:=⟨⟩
def tw13623172653399871537:True:=⟨⟩
def tw6689755117942204117:True:=⟨⟩
def tw14385849102168984974:True:=⟨⟩
def tw3860867835881488334:True:=⟨⟩
def tw6911803950542196863:True:=⟨⟩
def tw1228748479704345148:True:=⟨⟩
def tw15258475796701611523:True:=⟨⟩
def tw8901304611790117972:True:=⟨⟩
def tw13295676188267101485:True:=⟨⟩
def tw16177546977485794586:True:=⟨⟩
def tw833104919126167482:True:=⟨⟩
def tw7869817371784371545:True:=⟨⟩
def tw5432844997820771188:True:=⟨⟩
def tw4595049134169223009:True:=⟨⟩
def tw3935598033385848821:True:=⟨⟩
def tw929666518797764769:True:=⟨⟩
def tw5945281689493278875:True:=⟨⟩
def tw15016635079386419409:True:=⟨⟩
def tw16226319459263525422:True:=⟨⟩
def tw9740502224223679383:True:=⟨⟩
def tw2581487170379225005:True:=⟨⟩
def tw2990196650095562340:True:=⟨⟩
def tw12771687748721589139:True:=⟨⟩
def tw14046228676841728249:True:=⟨⟩
def tw12185651770013409833:True:=⟨⟩
def tw10844873750365690192:True:=⟨⟩
def tw17334520677362013417:True:=⟨⟩
def tw13902378352846433087:True:=⟨⟩
def tw7023103106985047563:True:=⟨⟩
def tw15685470695945321629:True:=⟨⟩
def tw8442234952876483411:True:=⟨⟩
def tw8660910913167645085:True:=⟨⟩
def tw3632371729699643612:True:=⟨⟩
def tw10272102467882061213:True:=⟨⟩
def tw3152230938226586250:True:=⟨⟩
def tw10221026475417925565:True:=⟨⟩
def tw13099379047250674964:True:=⟨⟩
def tw17566266012843641632:True:=⟨⟩
def tw17830889995530503142:True:=⟨⟩
def tw12765328119600987186:True:=⟨⟩
def tw301833928175643080:True:=⟨⟩
def tw7902759278210486607:True:=⟨⟩
def tw4377097896339238715:True:=⟨⟩
def tw10874941736850359119:True:=⟨⟩
def tw16123965119922692843:True:=⟨⟩
def tw11389398710927871512:True:=⟨⟩
def tw3992941086499325087:True:=⟨⟩
def tw49974806248380178:True:=⟨⟩
def tw9586078316380111400:True:=⟨⟩
def tw9262756340888621159:True:=⟨⟩
def tw16844839831963480819:True:=⟨⟩
def tw6276819912477782457:True:=⟨⟩
def tw1415690463312504892:True:=⟨⟩
def tw2485866589263036984:True:=⟨⟩
def tw11010212066574059193:True:=⟨⟩
def tw10365782041908215671:True:=⟨⟩
def tw15497754932976919659:True:=⟨⟩
def tw17787862049269918909:True:=⟨⟩
def tw1303868058491026932:True:=⟨⟩
def tw14676619856841709720:True:=⟨⟩
def tw12423319074716541805:True:=⟨⟩
def tw1201170414987483351:True:=⟨⟩
def tw359288263510028730:True:=⟨⟩
def tw7045474109490830160:True:=⟨⟩
def tw5181017068260804036:True:=⟨⟩
def tw2251372913175303556:True:=⟨⟩
def tw11208345757787004125:True:=⟨⟩
def tw13658071704426087967:True:=⟨⟩
def tw6166919076572717585:True:=⟨⟩
def tw13378676865002544059:True:=⟨⟩
def tw17038114269114284216:True:=⟨⟩
def tw7695710916850724666:True:=⟨⟩
def tw5458767834861252345:True:=⟨⟩
def tw13537698295836373538:True:=⟨⟩
def tw10578904249330174627:True:=⟨⟩
def tw5563290284097820975:True:=⟨⟩
def tw10348060308134969595:True:=⟨⟩
def tw9912126103506999009:True:=⟨⟩
def tw5574485873163761412:True:=⟨⟩
def tw4742309795114570072:True:=⟨⟩
def tw8545675132954486490:True:=⟨⟩
def tw16915719612459391937:True:=⟨⟩
def tw10897270523210719378:True:=⟨⟩
def tw7525185623006011273:True:=⟨⟩
def tw6244460954466252010:True:=⟨⟩
def tw5117335681765739300:True:=⟨⟩
def tw3467382100324599961:True:=⟨⟩
def tw15718561987246150420:True:=⟨⟩
def tw6685085635117483406:True:=⟨⟩
def tw6835558753989697748:True:=⟨⟩
def tw10250452833381084171:True:=⟨⟩
def tw12663446060412356314:True:=⟨⟩
def tw16695216214171222037:True:=⟨⟩
def tw13426369696702090964:True:=⟨⟩
def tw12152607545115517129:True:=⟨⟩
def tw1660289098601932341:True:=⟨⟩
def tw15554005279218854472:True:=⟨⟩
def tw5142844358217803403:True:=⟨⟩
def tw11412234380289059071:True:=⟨⟩
def tw14184024449024721782:True:=⟨⟩
def tw3061654263711679575:True:=⟨⟩
def tw2877696386819039553:True:=⟨⟩
def tw11515437138255280522:True:=⟨⟩
def tw11730369846305080779:True:=⟨⟩
def tw10010714248512336813:True:=⟨⟩
def tw6886076314249652867:True:=⟨⟩
def tw15861645299397487523:True:=⟨⟩
def tw14261069888242491861:True:=⟨⟩
def tw2707177682134689138:True:=⟨⟩
def tw2080575550038123209:True:=⟨⟩
def tw14917463208751673721:True:=⟨⟩
def tw3966163507781872584:True:=⟨⟩
def tw5828031050799719742:True:=⟨⟩
def tw4826795418516172342:True:=⟨⟩
def tw943947532429331103:True:=⟨⟩
def tw10422605257606979431:True:=⟨⟩
def tw5502651041262029882:True:=⟨⟩
def tw16022651301076687258:True:=⟨⟩
def tw17551968256182444332:True:=⟨⟩
def tw10836762394524074350:True:=⟨⟩
def tw8394749957283345168:True:=⟨⟩
def tw10210046530025567033:True:=⟨⟩
def tw12810282501416208181:True:=⟨⟩
def tw4584806295042174216:True:=⟨⟩
def tw5300101223007431356:True:=⟨⟩
def tw3207201794748329120:True:=⟨⟩
def tw5088666107194632871:True:=⟨⟩
def tw7367034685127794529:True:=⟨⟩
def tw4849113031414946741:True:=⟨⟩
def tw4885684680259385874:True:=⟨⟩
def tw7023487999670832864:True:=⟨⟩
def tw6309743096087957512:True:=⟨⟩
def tw7765932692244248843:True:=⟨⟩
def tw13412387365501260668:True:=⟨⟩
def tw5379410074419109530:True:=⟨⟩
def tw13539381458713222347:True:=⟨⟩
def tw10190452177621945923:True:=⟨⟩
def tw3649375171206510890:True:=⟨⟩
def tw8619049224818777650:True:=⟨⟩
def tw7648071622983738779:True:=⟨⟩
def tw2508615127797228954:True:=⟨⟩
def tw1664030256303433982:True:=⟨⟩
def tw3779434466784761173:True:=⟨⟩
def tw2524995267192229971:True:=⟨⟩
def tw7340620448040961947:True:=⟨⟩
def tw9282989695200427124:True:=⟨⟩
def tw12106820754664653902:True:=⟨⟩
def tw13042701849995924196:True:=⟨⟩
def tw5271715717290763342:True:=⟨⟩
def tw12613162790753085624:True:=⟨⟩
def tw7163498687434320653:True:=⟨⟩
def tw3944681178639742811:True:=⟨⟩
def tw11772081308343254687:True:=⟨⟩
def tw12513699819006284794:True:=⟨⟩
def tw11028353719085106917:True:=⟨⟩
def tw10578683922513108158:True:=⟨⟩
def tw12663320946083480659:True:=⟨⟩
def tw16184071376785197114:True:=⟨⟩
def tw18192360388584868965:True:=⟨⟩
def tw16211929277772090171:True:=⟨⟩
def tw13274902538908677094:True:=⟨⟩
def tw18142211434297054127:True:=⟨⟩
def tw15533517680179041281:True:=⟨⟩
def tw8603618194581285424:True:=⟨⟩
def tw18085940283322291456:True:=⟨⟩
end PySem.W.Fast
set_option bootstrap.genMatcherCode false
set_option compiler.extract_closed false
noncomputable section
local macro_rules|`(tactic|omega)=>`(tactic|lia)
abbrev gQm:=@List.getElem?_map
abbrev lQm:=@List.length_map
abbrev mQg:=@List.mem_of_getElem?
abbrev oQm:=@Option.map_eq_some_iff
abbrev gQe:=@List.getElem?_eq_getElem
abbrev gQs:=@List.getElem?_eq_some_iff
abbrev lQa:=@List.length_append
abbrev nQl:=@Nat.le_of_lt
abbrev mQa:=@List.mem_append
abbrev Qaq:=@PySem.wpAny_bind
abbrev Qbq:=@Option.bind_some
abbrev Qcq:=@PySem.Heap.get?_push_of_some
abbrev Qdq:=@decide_eq_false
abbrev Qeq:=@decide_eq_true
abbrev Qfq:=@List.mem_singleton
abbrev Qgq:=@PySem.wpAny_pure
abbrev Qhq:=@if_pos
abbrev Qiq:=@PySem.Heap.lt_size
abbrev Qjq:=@List.size_toArray
abbrev Qkq:=@List.mem_map
abbrev Qlq:=@List.getD_eq_getElem?_getD
abbrev Qmq:=@Nat.le_refl
abbrev Qnq:=@List.length_cons
abbrev Qoq:=@List.mem_append_right
abbrev Qpq:=@List.mem_cons_of_mem
abbrev Qqq:=@Nat.lt_of_lt_of_le
abbrev Qrq:=@PySem.Heap.get?_push_size
abbrev Qsq:=@List.mem_cons
abbrev Qtq:=@Bool.false_ne_true
abbrev Quq:=@if_neg
abbrev Qvq:=@List.append_assoc
abbrev Qwq:=@Nat.ne_of_lt
abbrev Qxq:=@List.length_take
abbrev Qyq:=@List.getElem?_set_self
abbrev Qzq:=@List.map_append
abbrev QAq:=@Nat.le_trans
abbrev QBq:=@List.mem_cons_self
abbrev QCq:=@Bool.and_eq_true
abbrev QDq:=@List.map_cons
abbrev QEq:=@List.take_length
abbrev QFq:=@PySem.W.mg_none_of
abbrev QGq:=@List.length_nil
abbrev QHq:=@List.getElem?_append_left
abbrev QIq:=@List.length_replicate
abbrev QJq:=@List.Perm.append_right
abbrev QKq:=@List.getElem?_set_ne
abbrev QLq:=@PySem.wpAny_holding
abbrev QMq:=@PySem.wpAny_field
abbrev QNq:=@List.replicate_succ
abbrev QOq:=@List.mem_flatMap
abbrev QPq:=@List.map_map
abbrev QQq:=@List.getElem?_append_right
abbrev QRq:=@PySem.wpAny_mono
abbrev QSq:=@List.flatMap_cons
abbrev QTq:=@List.mem_or_eq_of_mem_set
abbrev QUq:=@List.all_eq_true
abbrev QVq:=@List.length_range
abbrev QWq:=@List.drop_eq_getElem_cons
abbrev QXq:=@List.not_mem_nil
abbrev QYq:=@List.take_add_one
abbrev QZq:=@of_decide_eq_true
abbrev QaQ:=@of_decide_eq_false
abbrev QbQ:=@List.getElem_of_mem
abbrev QcQ:=@List.mem_of_getLast?
abbrev QdQ:=@Option.some.inj
abbrev QeQ:=@List.of_mem_zip
abbrev QfQ:=@List.getLast?_map
abbrev QgQ:=@PySem.wpAny_ite_false
abbrev QhQ:=@PySem.wpAny_newObj_type
abbrev QiQ:=@PySem.wpAny_callSpecial?_slot
abbrev QjQ:=@List.Sublist.refl
abbrev QkQ:=@List.eq_of_mem_replicate
abbrev QlQ:=@List.map_replicate
namespace L2
open PySem PySem.Spec PyProof.Rows
abbrev Key:=Sum Int Str
def sf:Key->Value->Bool
 |.inl k,v=>Value.isInt k v
 |.inr x,v=>Value.isStrOf x v
def N1(w:World):Key->Int
 |.inl k=>hashInt k
 |.inr x=>hashStr w x
def du:∀{k:Key} {v:Value},sf k v=true->(∃i t,k=Sum.inl i/\v=Value.int i t)\/(∃x t,k=Sum.inr x/\v=Value.str x t)
 | .inl i,v,h=>by
   obtain⟨t,e⟩:=Value.isInt_shape (k:=i) (v:=v) h
   exact .inl ⟨i,t,rfl,e⟩
 | .inr x,v,h=>by
   obtain⟨t,e⟩:=Value.isStrOf_shape (x:=x) (v:=v) h
   exact .inr ⟨x,t,rfl,e⟩
def D8(i:Int)(t:Tok):sf (.inl i) (.int i t)=true:=by simp[sf,Value.isInt]
def qL(x:Str)(t:Tok):sf (.inr x) (.str x t)=true:=by simp[sf,Value.isStrOf]
def Ju(a b:Int):decide ((Sum.inl a:Key)=Sum.inl b)=(a==b):=by
 by_cases e:a=b
 ·subst e;simp
 ·have h:¬(Sum.inl a:Key)=Sum.inl b:=λq=>e (Sum.inl.inj q)
  rw[Qdq h]
  exact(beq_eq_false_iff_ne.mpr e).symm
def KM(a b:Str):decide ((Sum.inr a:Key)=Sum.inr b)=decide (a=b):=by
 by_cases e:a=b
 ·subst e;simp
 ·have h:¬(Sum.inr a:Key)=Sum.inr b:=λq=>e (Sum.inr.inj q)
  rw[Qdq h,Qdq e]
def Ka(a:Int)(b:Str):decide ((Sum.inl a:Key)=Sum.inr b)=false:=Qdq (λq=>nomatch q)
def Kc(a:Str)(b:Int):decide ((Sum.inr a:Key)=Sum.inl b)=false:=Qdq (λq=>nomatch q)
def bZ(prog:Program)(w:World):PySem.KeyKind prog w Key where
 is:=sf
 hash:=N1 w
 inj:=λv a b l f=>by
  rcases du l with⟨i,t,rfl,rfl⟩|⟨x,t,rfl,rfl⟩
  ·rcases du f with⟨j,u,rfl,e⟩|⟨y,u,rfl,e⟩
   ·injection e with c _;rw[c]
   ·exact nomatch e
  ·rcases du f with⟨j,u,rfl,e⟩|⟨y,u,rfl,e⟩
   ·exact nomatch e
   ·injection e with c _;rw[c]
 byValue:=λk v h=>by
  rcases du h with⟨i,t,rfl,rfl⟩|⟨x,t,rfl,rfl⟩ <;>rfl
 pyHash:=λd h=>by
  rcases du d with⟨i,t,rfl,rfl⟩|⟨x,t,rfl,rfl⟩
  ·exact wpAny_pyHash_int h
  ·exact wpAny_pyHash_str h
 eqBool:=λg d h=>by
  rcases du g with⟨i,t,rfl,rfl⟩|⟨x,t,rfl,rfl⟩
  ·rcases du d with⟨j,u,rfl,rfl⟩|⟨y,u,rfl,rfl⟩
   ·rw[Ju] at h;exact wpAny_eqBool_int h
   ·rw[Ka] at h;exact SeqAt.EqAt.int_str i t y u _ _ _ _ h
  ·rcases du d with⟨j,u,rfl,rfl⟩|⟨y,u,rfl,rfl⟩
   ·rw[Kc] at h;exact SeqAt.EqAt.str_int x t j u _ _ _ _ h
   ·rw[KM] at h;exact wpAny_eqBool_str h
 «strs»:=λk x t v h=>by
  rcases du h with⟨i,u,rfl,e⟩|⟨y,u,rfl,e⟩
  ·exact nomatch e
  ·injection e with c _
   subst c
   cases v <;>rfl
def Az(prog:Program)(w:World)(i:Int)(t:Tok):(bZ prog w).is (.inl i) (.int i t)=true:=D8 i t
def AF(prog:Program)(w:World)(x:Str)(t:Tok):(bZ prog w).is (.inr x) (.str x t)=true:=qL x t
inductive V where
 |non|bl (b:Bool)|int (i:Int)|str (x:Str)|byt (b:Array UInt8)|flt (b:UInt64)|ref (a:Addr)|ty (n:String)
 deriving DecidableEq
def RelV:V->Value->Prop
 |.non,u=>u=Value.none
 |.bl b,u=>u=Value.bool b
 |.int i,u=>∃t,u=Value.int i t
 |.str x,u=>∃t,u=Value.str x t
 |.byt b,u=>∃t,u=Value.bytes b t
 |.flt b,u=>∃t,u=Value.float b t
 |.ref a,u=>u=Value.ref a
 |.ty n,u=>u=Value.type n
abbrev bM:List V->List Value->Prop:=Paired RelV
def bM.length{xs:List V}{a:List Value}(r:bM xs a):xs.length=a.length:=Paired.length r
theorem bM.get:∀{xs:List V} {a:List Value} {i:Nat} {x:V},bM xs a->xs[i]?=some x->∃u,a[i]?=some u/\RelV x u
 |_,_,_,_,.nil,e=>by simp at e
 |_,_,0,_,.cons r _,e=>by simp at e;subst e;exact⟨_,rfl,r⟩
 | _,_,i+1,x,.cons _ t,e=>by
   obtain⟨u,c,b⟩:=bM.get (i:=i) (x:=x) t (by simpa using e)
   exact⟨u,by simpa using c,b⟩
theorem bM.set{x:V}{u:Value}(r:RelV x u):∀{xs:List V} {a:List Value} (i:Nat),bM xs a->bM (xs.set i x) (a.set i u)
 |_,_,_,.nil=>.nil
 |_,_,0,.cons _ t=>.cons r t
 |_,_,i+1,.cons q t=>.cons q (bM.set r i t)
theorem bM.append:∀{xs ys:List V} {a ws:List Value},bM xs a->bM ys ws->bM (xs++ys) (a++ws)
 |_,_,_,_,.nil,s=>s
 |_,_,_,_,.cons r t,s=>.cons r (bM.append t s)
theorem bM.take:∀{xs:List V} {a:List Value} (n:Nat),bM xs a->bM (xs.take n) (a.take n)
 |_,_,0,_=>.nil
 |_,_,_+1,.nil=>.nil
 |_,_,n+1,.cons r t=>.cons r (bM.take n t)
theorem bM.drop:∀{xs:List V} {a:List Value} (n:Nat),bM xs a->bM (xs.drop n) (a.drop n)
 |_,_,0,r=>r
 |_,_,_+1,.nil=>.nil
 |_,_,n+1,.cons _ t=>bM.drop n t
def tW:Option V->Option Value->Prop
 |some v,some u=>RelV v u
 |none,none=>True
 |_,_=>False
def KV{κ:Type}:List (κ×V)->List (κ×Value)->Prop:=Paired λ(p:κ×V) (q:κ×Value)=>p.1=q.1/\RelV p.2 q.2
def kV:Key->V
 |.inl i=>.int i
 |.inr x=>.str x
inductive HO where
 |lst (xs:List V)
 |tup (xs:List V)
 |dK (kvs:List (Key×V))|dT (kvs:List (List Key×V))
 |set (S:Int->Bool) (n:Nat)
 |ins (C dx:Addr) (fs:List (Str×V))
 |own (x:Addr)
 |xd (fs:List (Str×V))
 |met (f x:Addr)
 |rng (lo hi:Int)
 |frz (o:Obj) (u:HO)
 |tbl (ps:Array Value)
 |ext (φ:Heap->Prop)
abbrev Hp:=Addr->Option HO
def upd(H:Hp)(a:Addr)(o:HO):Hp:=λb=>if b=a then some o else H b
def bN{H:Hp}{a:Addr}{o:HO}:upd H a o a=some o:=by unfold upd;rw[Qhq rfl]
def bo{H:Hp}{a b:Addr}{o:HO}(h:b≠a):upd H a o b=H b:=by unfold upd;rw[Quq h]
def Fl{H:Hp}{a b:Addr}{o u:HO}(h:H a=some o)(h':H b=some u)(d:o≠u):a≠b:=by
 intro e;subst e;rw[h] at h';exact d (QdQ h')
def fj{H:Hp}{a b:Addr}{o:HO}(h:H a=some o)(h':H b=none):a≠b:=by
 intro e;subst e;rw[h] at h';cases h'
def A3(h:Heap)(a:Addr)(items:Array Value):Prop:=∃o,h.get? a=some o/\o.cls=.type "tuple" /\o.dict=none/\∃n,o.data=.seq items n
def A3.it{h:Heap}{a:Addr}{items:Array Value}(x:A3 h a items):IsTup h a items:=by
 obtain⟨o,e,c,_,d⟩:=x
 exact⟨o,e,c,d⟩
def A3.new(h:Heap)(items:Array Value):A3 (h.push {cls:=.type "tuple",data:=.seq items}) h.objs.size items:=⟨_,Qrq _ rfl,rfl,rfl,_,rfl⟩
section
variable(P:Program)(w:World)
def cZ(H:Hp)(h:Heap)(a:Addr):HO->Prop
 |.lst d=>d.length<=sizeLine/\∃(b:List Value) (n:Nat),bM d b/\h.get? a=some {cls:=.type "list",data:=.seq b.toArray n}
 |.tup d=>d.length<=sizeLine/\∃b:List Value,bM d b/\A3 h a b.toArray
 |.dK c=>c.length<=sizeLine/\(a==sysModules)=false/\∃k,KV c k/\h.DictOf (bZ P w) a k
 |.dT c=>c.length<=sizeLine/\(a==sysModules)=false/\∃d:List (List Key×Addr×Value),
   Paired (λ(p:List Key×V) (q:List Key×Addr×Value)=>p.1=q.1/\H q.2.1=some (.tup (p.1.map kV))/\RelV p.2 q.2.2) c d∧
   ∃o r y,h.get? a=some o/\o.ExactDict/\o.data=.dict r y/\r.toList=d.map (entryOfKey (tupleKind (bZ P w)))/\(d.map (·.1)).Nodup
 |.set S n=>h.SetOf (intKind P w) a S n
 |.ins C i g=>H i=some (.own a)/\g.length<=1000/\i≠a/\h.get? a=some (PySem.W.instObj C i)∧
   ∃e,h.Ns1 i e/\(∀f,tW (g.lookup f) (e f))/\PySem.Within e (g.map (·.1))
 |.own _=>∃o,h.get? a=some o
 |.xd g=>∃e,h.Ns1 a e/\∀f,tW (g.lookup f) (e f)
 |.rng z s=>∃t u v,h.get? a=some {cls:=.type "range",data:=.fields #[.int z t,.int s u,.int 1 v]}
 |.frz o u=>h.get? a=some o/\cZ H h a u
 |.tbl A=>h.get? a=some {cls:=.none,data:=.fields A}
 |.met f x=>h.get? a=some (PySem.W.methodObj (.ref f) (.ref x))
 |.ext j=>j h/\(∃o,h.get? a=some o)/\∀l m:Heap,j l->(∀o,l.get? a=some o->m.get? a=some o)->j m
def oz(H:Hp)(h:Heap):Prop:=∀a o,H a=some o->cZ P w H h a o
end
section
variable{P:Program}{w:World}{H H':Hp}{h h':Heap}{a:Addr}{o:HO}
theorem cZ.lt(x:cZ P w H h a o):a<h.objs.size:=by
 cases o with
 |lst d=>obtain⟨_,_,_,_,e⟩:=x;exact Qiq e
 |tup d=>obtain⟨_,_,_,p⟩:=x;exact p.it.lt
 |dK b=>obtain⟨_,_,_,_,o,_,_,e,_⟩:=x;exact Qiq e
 |dT b=>obtain⟨_,_,_,_,o,_,_,e,_⟩:=x;exact Qiq e
 |set S n=>obtain⟨o,_,_,_,e,_⟩:=x;exact Qiq e
 |ins C j c=>obtain⟨_,_,_,e,_⟩:=x;exact Qiq e
 |own y=>obtain⟨_,e⟩:=x;exact Qiq e
 |xd c=>obtain⟨_,⟨_,_,_,e,_⟩,_⟩:=x;exact Qiq e
 |rng l i=>obtain⟨_,_,_,e⟩:=x;exact Qiq e
 |frz k u=>obtain⟨e,_⟩:=x;exact Qiq e
 |tbl m=>exact Qiq (show h.get? a=some _ from x)
 |met f y=>exact Qiq (show h.get? a=some _ from x)
 |ext g=>obtain⟨_,⟨_,e⟩,_⟩:=x;exact Qiq e
theorem Paired.mapP{α c:Type}{F G:α->c->Prop}:∀{l₁:List α} {l₂:List c},Paired F l₁ l₂->(∀a b,F a b->G a b)->Paired G l₁ l₂
 |_,_,.nil,_=>.nil
 |_,_,.cons r t,f=>.cons (f _ _ r) (Paired.mapP t f)
def cZ.stay(x:cZ P w H h a o)(k:∀b u,(b=a\/H b=some (.own a))->h.get? b=some u->h'.get? b=some u)
  (J:∀b,H b=some (.own a)->H' b=some (.own a)) (ht:∀b xs,H b=some (.tup xs)->H' b=some (.tup xs)):cZ P w H' h' a o:=by
 induction o with
 |lst xs=>obtain⟨z,l,n,r,e⟩:=x;exact⟨z,l,n,r,k _ _ (.inl rfl) e⟩
 |tup xs=>obtain⟨z,l,r,g,e,c⟩:=x;exact⟨z,l,r,g,k _ _ (.inl rfl) e,c⟩
 |dK m=>obtain⟨z,y,K,r,g,j,i,e,c⟩:=x;exact⟨z,y,K,r,g,j,i,k _ _ (.inl rfl) e,c⟩
 | dT m=>
   obtain⟨z,y,xs,r,g,j,i,e,c⟩:=x
   exact⟨z,y,xs,Paired.mapP r λp q z=>⟨z.1,ht _ _ z.2.1,z.2.2⟩,g,j,i,k _ _ (.inl rfl) e,c⟩
 |set S n=>obtain⟨g,j,i,t,e,c⟩:=x;exact⟨g,j,i,t,k _ _ (.inl rfl) e,c⟩
 | ins C R G=>
   obtain⟨d,z,M,e,s,⟨A,j,i,L,c⟩,r⟩:=x
   exact⟨J _ d,z,M,k _ _ (.inl rfl) e,s,⟨A,j,i,k _ _ (.inr d) L,c⟩,r⟩
 |own y=>obtain⟨g,e⟩:=x;exact⟨g,k _ _ (.inl rfl) e⟩
 |xd G=>obtain⟨s,⟨A,j,i,e,c⟩,r⟩:=x;exact⟨s,⟨A,j,i,k _ _ (.inl rfl) e,c⟩,r⟩
 |rng U Q=>obtain⟨t,u,v,e⟩:=x;exact⟨t,u,v,k _ _ (.inl rfl) e⟩
 |frz g u I=>obtain⟨e,q⟩:=x;exact⟨k _ _ (.inl rfl) e,I q⟩
 | tbl F=>
   have e:h.get? a=some {cls:=.none,data:=.fields F}:=x
   show h'.get? a=some {cls:=.none,data:=.fields F}
   exact k a _ (.inl rfl) e
 | met f y=>
   have e:h.get? a=some (PySem.W.methodObj (.ref f) (.ref y)):=x
   show h'.get? a=some (PySem.W.methodObj (.ref f) (.ref y))
   exact k a _ (.inl rfl) e
 |ext N=>obtain⟨p,⟨o,e⟩,B⟩:=x;exact⟨B _ _ p λo q=>k _ _ (.inl rfl) q,⟨o,k _ _ (.inl rfl) e⟩,B⟩
def oz.lt(x:oz P w H h)(e:H a=some o):a<h.objs.size:=(x a o e).lt
def oz.fresh(x:oz P w H h)(e:h.objs.size<=a):H a=none:=by
 cases q:H a with
 |none=>rfl
 |some u=>exact absurd (Qqq (x.lt q) e) (Nat.lt_irrefl _)
def oz.kept(x:oz P w H h)(k:∀b u,h.get? b=some u->h'.get? b=some u):oz P w H h':=λa o e=>
 (x a o e).stay (λb u _ q=>k b u q) (λ_ q=>q) λ_ _ q=>q
def oz.laid(x:oz P w H h)(k:∀b u,h.get? b=some u->h'.get? b=some u)(g:h.objs.size<=a)(new:cZ P w (upd H a o) h' a o):oz P w (upd H a o) h':=λb u e=>by
 have f:=x.fresh g
 by_cases d:b=a
 ·subst d;rw[bN] at e;cases e;exact new
 ·rw[bo d] at e
  exact(x b u e).stay (λc v _ q=>k c v q) (λc q=>by rw[bo (fj q f)];exact q) λc i q=>by rw[bo (fj q f)];exact q
end
def Rd(H:Hp)(a:Addr)(u:HO):Prop:=H a=some u\/∃o,H a=some (.frz o u)
def Rd.ok{P:Program}{w:World}{H:Hp}{h:Heap}{a:Addr}{u:HO}(r:Rd H a u)(x:oz P w H h):cZ P w H h a u:=by
 rcases r with r|⟨o,r⟩
 ·exact x a u r
 ·obtain⟨_,q⟩:=x a _ r
  exact q
def LZ:Option HO->Prop
 |some (.lst _)=>True
 |some (.dK _)=>True
 |some (.dT _)=>True
 |some (.set _ _)=>True
 |some (.ins _ _ _)=>True
 |some (.ext _)=>True
 |_=>False
section
variable{P:Program}{w:World}{H:Hp}{h h':Heap}{x e:Addr}{o':HO}
def oz.write(ok:oz P w H h)(j:LZ (H x))(he:e=x\/H e=some (.own x))(k:∀b u,b≠e->h.get? b=some u->h'.get? b=some u)(m:∃u,h'.get? e=some u)
  (new:cZ P w (upd H x o') h' x o'):oz P w (upd H x o') h':=λb u q=>by
 have d:∀c y,H c=some (.own y)->c≠x:=λc y r z=>by subst z;rw[r] at j;exact j
 have f:∀c g,H c=some (.tup g)->c≠x:=λc g r z=>by subst z;rw[r] at j;exact j
 by_cases l:b=x
 ·subst l;rw[bN] at q;cases q;exact new
 ·rw[bo l] at q
  by_cases a:b=e
  ·have n:H b=some (.own x):=by
    rcases he with z|z
    ·exact absurd (a.trans z) l
    ·rw[a];exact z
   rw[q] at n;cases n
   obtain⟨v,o⟩:=m
   exact⟨v,by rw[a];exact o⟩
  ·refine(ok b u q).stay (λc v i r=>k c v ?_ r) (λc r=>by rw[bo (d c b r)];exact r) λc g r=>by rw[bo (f c g r)];exact r
   rcases i with rfl|i
   ·exact a
   ·rintro rfl
    rcases he with z|z
    ·exact d c b i z
    ·rw[i] at z;cases z;exact l rfl
end
structure Un(fs ex:List Addr)(H H':Hp)(h h':Heap):Prop where
 keep:∀b o,h.get? b=some o->H b=none->b∉fs->b∉ex->h'.get? b=some o
 slot:∀b o,h.get? b=some o->H b=none->b∈fs->b∉ex->∃sl,h'.get? b=some {o with slots:=sl}
 free:∀b o,h.get? b=some o->H b=none->b∉ex->H' b=none
 there:∀b o,h.get? b=some o->b∉ex->∃o',h'.get? b=some o'
 tups:∀b xs,H b=some (.tup xs)->H' b=some (.tup xs)
 frzs:∀b o u,H b=some (.frz o u)->H' b=some (.frz o u)
 tbls:∀b ps,H b=some (.tbl ps)->∃more,H' b=some (.tbl (ps++more))
section
variable{fs fs' ex ex':List Addr}{H H1 H2:Hp}{h h1 h2 h':Heap}{a x e:Addr}{o:HO}
def Un.any(u:Un fs ex H H1 h h1){b:Addr}{c:Obj}(q:h.get? b=some c)(n:H b=none)(d:b∉ex):∃g,h1.get? b=some {c with slots:=g}:=by
 by_cases f:b∈fs
 ·exact u.slot b c q n f d
 ·exact⟨c.slots,u.keep b c q n f d⟩
def Un.kept(k:∀b u,h.get? b=some u->h'.get? b=some u):Un fs ex H H h h':=
 ⟨λb c q _ _ _=>k b c q,λb c q _ _ _=>⟨c.slots,k b c q⟩,λ_ _ _ n _=>n,λb c q _=>⟨c,k b c q⟩,λ_ _ q=>q,λ_ _ _ q=>q,λ_ d q=>⟨#[],by rw[q];simp⟩⟩
def Un.refl:Un fs ex H H h h:=Un.kept λ_ _ q=>q
def Un.laid(k:∀b u,h.get? b=some u->h'.get? b=some u)(d:h.objs.size<=a)(c:H a=none):Un fs ex H (upd H a o) h h' where
 keep:=λb u q _ _ _=>k b u q
 slot:=λb u q _ _ _=>⟨u.slots,k b u q⟩
 free:=λb u q n _=>by rw[bo (Qwq (Qqq (Qiq q) d))];exact n
 there:=λb u q _=>⟨u,k b u q⟩
 tups:=λb f q=>by rw[bo (fj q c)];exact q
 frzs:=λb u f q=>by rw[bo (fj q c)];exact q
 tbls:=λb g q=>⟨#[],by rw[bo (fj q c),q];simp⟩
def Un.write(d:LZ (H x))(he:e=x\/H e=some (.own x))(k:∀b u,b≠e->h.get? b=some u->h'.get? b=some u)(g:∃u,h'.get? e=some u):Un fs ex H (upd H x o) h h':=by
 have i:∀b,H b=none->b≠x:=λb n z=>by subst z;rw[n] at d;exact d
 have j:∀b,H b=none->b≠e:=λb n z=>by
  subst z
  rcases he with r|r
  ·exact i b n r
  ·rw[n] at r;cases r
 have f:∀b u,H b=some u->¬LZ (some u)->b≠x:=λb u q nm z=>by subst z;rw[q] at d;exact nm d
 refine⟨λb u q n _ _=>k b u (j b n) q,λb u q n _ _=>⟨u.slots,k b u (j b n) q⟩,λb u q n _=>by rw[bo (i b n)];exact n,λb u q _=> ?_,
  λb l q=>by rw[bo (f b _ q λz=>z)];exact q,λb u l q=>by rw[bo (f b _ q λz=>z)];exact q,λb m q=>⟨#[],by rw[bo (f b _ q λz=>z),q];simp⟩⟩
 by_cases c:b=e
 ·subst c;exact g
 ·exact⟨u,k b u c q⟩
end
def M9(h:Heap)(H:Hp):List Addr:=(List.range h.objs.size).filter λa=>(H a).isSome
def xq(h:Heap)(H:Hp):Heap:=PySem.W.hideAll h (M9 h H)
def EI(h:Heap)(H:Hp):(xq h H).objs.size=h.objs.size:=PySem.W.hideAll_size _ _
def Gi{h:Heap}{H:Hp}{b:Addr}{o:Obj}(e:h.get? b=some o)(n:H b=none):(xq h H).get? b=some o:=
 PySem.W.hideAll_get _ e λa=>by
  have q:(H b).isSome=true:=(List.mem_filter.mp a).2
  rw[n] at q;simp at q
def HL{h:Heap}{H:Hp}{b:Addr}{o:Obj}(e:(xq h H).get? b=some o):h.get? b=some o/\H b=none:=by
 have a:h.get? b=some o:=PySem.W.of_hideAll (M9 h H) e
 refine⟨a,?_⟩
 cases q:H b with
 |none=>rfl
 | some x=>
   have c:b∈M9 h H:=List.mem_filter.mpr ⟨List.mem_range.mpr (Qiq a),by simp[q]⟩
   have z:(xq h H).get? b=none:=PySem.W.hideAll_none (M9 h H) c
   rw[z] at e;cases e
structure Mod(K:PySem.W.Frag)(mg:Str->Option Value)(base:Heap):Prop where
 kin:K.In base
 glob:base.Ns mainGlobals mg
 blt:∃mb,base.Ns builtinsNs mb/\∀x:Str,x≠"__name__" ->mb x=bootBuiltins x
 nolimit:base.NoLimit
structure Cx where
 prog:Program
 w:World
 K:PySem.W.Frag
 mg:Str->Option Value
 base:Heap
 A:Around
 N:List Str
 s₀:Shared
 H₀:Hp
 env:Env
 outer:List Env
 stack:List Env
 ex:List Addr
 fn:Str->Bool
 calm:Bool
 pn:List (Addr×Obj)
 xe:Value->Shared->Prop
def Fv(l:List Env):List Addr:=l.filterMap (·.frame)
abbrev Cx.fs(X:Cx):List Addr:=Fv X.outer
def Jr(sc:Scope)(x:Str):Prop:=sc.names.lookup x=some .local\/sc.names.lookup x=some .cell\/sc.names.lookup x=some .free
def Loc(sc:Scope)(x:Str):Prop:=sc.names.lookup x=some .local\/sc.names.lookup x=some .cell
def Look(env:Env)(h:Heap)(m:Str->Option Value)(x:Str)(u:Value):Prop:=
 (env.kindOf x=some .local/\m x=some u)\/((env.kindOf x=some .cell\/env.kindOf x=some .free)/\∃c,env.cells.lookup x=some c/\h.IsCell c (some u))
structure Cx.Ok(X:Cx):Prop where
 mod:Mod X.K X.mg X.base
 kind:X.env.scope.kind=.function
 glob:X.env.globals=mainGlobals
 blt:X.env.builtins=builtinsNs
 above:X.s₀.heap.objs.size<=X.env.locals
 inj:∀x y c,X.env.cells.lookup x=some c->X.env.cells.lookup y=some c->x=y
 has:∀x,(X.env.kindOf x=some .cell\/X.env.kindOf x=some .free)->∃c,X.env.cells.lookup x=some c
 cab:∀x c,X.fn x=true->X.env.cells.lookup x=some c->X.s₀.heap.objs.size<=c
 hd:X.calm=true->X.A.handled=none
 frames:X.A.frames=some X.stack
 stk:X.stack=X.outer\/(X.stack=X.env::X.outer/\X.env.frame=some X.env.locals)
 exf:∀b∈X.ex,b≠X.env.locals/\∀x c,X.env.cells.lookup x=some c->c≠b
 bs:∀b o,X.base.get? b=some o->X.s₀.heap.get? b=some o/\X.H₀ b=none
 bsz:X.base.objs.size<=X.s₀.heap.objs.size
 noex:∀b o,X.base.get? b=some o->b∉X.ex
 exfs:∀b∈X.ex,b∉X.fs
 funs:X.s₀.heap.FunFrames X.base X.outer
 frf:∀b∈X.fs,X.H₀ b=none
structure Inv(X:Cx)(pins:List (Addr×Obj))(σ:List (Option V))(H:Hp)(s:Shared):Prop where
 ok:X.Ok
 os:s.os=X.s₀.os
 bare:AllBare s.gens
 base:Un X.fs X.ex X.H₀ H X.s₀.heap s.heap
 loc:∃m,s.heap.Ns X.env.locals m/\∀(i:Nat) (x:Str) (v:V),X.N[i]?=some x->σ[i]?=some (some v)->Jr X.env.scope x->∃u,RelV v u/\Look X.env s.heap m x u
 cell:∀x c,X.env.cells.lookup x=some c->∃v,s.heap.IsCell c v
 free:H X.env.locals=none
 freeC:∀x c,X.env.cells.lookup x=some c->H c=none
 pin:∀p∈X.pn++pins,s.heap.get? p.1=some p.2/\H p.1=none/\p.1≠X.env.locals/\p.1∉X.fs/\∀v,p.2.data≠.cell v
 hok:oz X.prog X.w H s.heap
 len:σ.length=X.N.length
section
variable{X:Cx}{pins:List (Addr×Obj)}{σ:List (Option V)}{H H':Hp}{s:Shared}{h':Heap}
def Cx.Ok.nofr(ok:X.Ok){b:Addr}{o:Obj}(e:X.base.get? b=some o):b∉X.fs:=λa=>by
 have:=(ok.funs.mem a).1
 rw[e] at this;cases this
def Inv.bs(I:Inv X pins σ H s):∀b o,X.base.get? b=some o->s.heap.get? b=some o/\H b=none:=λb o e=>
 ⟨I.base.keep b o (I.ok.bs b o e).1 (I.ok.bs b o e).2 (I.ok.nofr e) (I.ok.noex b o e),I.base.free b o (I.ok.bs b o e).1 (I.ok.bs b o e).2 (I.ok.noex b o e)⟩
def Inv.bk(I:Inv X pins σ H s):∀b o,X.base.get? b=some o->s.heap.get? b=some o:=λb o e=>(I.bs b o e).1
def Inv.mod(I:Inv X pins σ H s):Mod X.K X.mg X.base:=I.ok.mod
def Inv.kIn(I:Inv X pins σ H s):X.K.In s.heap:=I.ok.mod.kin.keeps I.bk
def Inv.lt(I:Inv X pins σ H s):X.env.locals<s.heap.objs.size:=let ⟨_,hn,_⟩:=I.loc;hn.lt
def Inv.sz(I:Inv X pins σ H s):X.s₀.heap.objs.size<=s.heap.objs.size:=QAq I.ok.above (nQl I.lt)
def Inv.nofs(I:Inv X pins σ H s){a:Addr}(h:s.heap.objs.size<=a):a∉X.fs:=λb=>by
 obtain⟨_,o,c,_⟩:=I.ok.funs.mem b
 exact absurd (Qqq (Qiq c) (QAq I.sz h)) (Nat.lt_irrefl _)
def Inv.cne(I:Inv X pins σ H s):∀x c,X.env.cells.lookup x=some c->c≠X.env.locals:=λx c e z=>by
 obtain⟨v,o,f,d⟩:=I.cell x c e
 obtain⟨m,⟨h,i,g,b,a,_⟩,_⟩:=I.loc
 rw[z,b] at f;cases f;rw[a] at d;cases d
theorem Inv.funs(I:Inv X pins σ H s):s.heap.FunFrames X.base X.outer:=by
 have f:∀(l:List Env),(∀b∈Fv l,b∈X.fs)->X.s₀.heap.FunFrames X.base l->s.heap.FunFrames X.base l:=by
  intro l
  induction l with
  |nil=>intro _ _;trivial
  | cons p r i=>
    intro g hl
    obtain⟨n,⟨L,o,a,m,j,k⟩,h⟩:=hl
    have c:L∈X.fs:=g L (by unfold Fv;rw[List.filterMap_cons,a];exact QBq)
    obtain⟨q,e⟩:=I.base.slot L o j (I.ok.frf L c) c λz=>I.ok.exfs L z c
    exact⟨n,⟨L,_,a,m,e,k⟩,i (λb d=>g b (by unfold Fv;rw[List.filterMap_cons,a];exact Qpq _ d)) h⟩
 exact f X.outer (λ_ d=>d) I.ok.funs
def Inv.stack(I:Inv X pins σ H s):s.heap.FunFrames X.base X.stack:=by
 rcases I.ok.stk with e|⟨e,b⟩
 ·rw[e];exact I.funs
 ·rw[e]
  obtain⟨m,a,_⟩:=I.loc
  refine .cons (by rw[I.ok.kind];decide) b a ?_ I.funs
  exact Heap.get?_none_of_le (QAq I.ok.bsz I.ok.above)
def Inv.stkSub(I:Inv X pins σ H s):∀b∈Fv X.stack,b∈X.env.locals::X.fs:=λb a=>by
 rcases I.ok.stk with e|⟨e,c⟩
 ·rw[e] at a;exact Qpq _ a
 ·rw[e] at a
  unfold Fv at a
  rw[List.filterMap_cons,c] at a
  exact a
def Inv.stkFree(I:Inv X pins σ H s):∀b∈Fv X.stack,H b=none:=λb a=>by
 rcases Qsq.mp (I.stkSub b a) with e|a
 ·rw[e];exact I.free
 ·obtain⟨_,o,c,_⟩:=I.ok.funs.mem a
  exact I.base.free b o c (I.ok.frf b a) λz=>I.ok.exfs b z a
def Inv.step{g':Array GenState}{t':Nat}{d':Drawn}{ch:List Addr}(I:Inv X pins σ H s)
  (h:∀b∈ch,(b∈X.ex\/X.s₀.heap.objs.size<=b)/\b≠X.env.locals/\(∀x c,X.env.cells.lookup x=some c->c≠b)/\∀p∈X.pn++pins,p.1≠b)
  (keep:∀b o,b≠X.env.locals->b∉X.fs->b∉ch->s.heap.get? b=some o->H b=none->h'.get? b=some o)
  (slot:∀b o,b≠X.env.locals->b∈X.fs->b∉ch->s.heap.get? b=some o->H b=none->∃K,h'.get? b=some {o with slots:=K}) (free:∀b o,b∉ch->s.heap.get? b=some o->H b=none->H' b=none)
  (there:∀b o,b∉ch->s.heap.get? b=some o->∃o',h'.get? b=some o')
  (tups:∀b xs,H b=some (.tup xs)->H' b=some (.tup xs)) (frzs:∀b o u,H b=some (.frz o u)->H' b=some (.frz o u)) (tbls:∀b ps,H b=some (.tbl ps)->∃more,H' b=some (.tbl (ps++more)))
  (ns:∀m,s.heap.Ns X.env.locals m->h'.Ns X.env.locals m) (F:oz X.prog X.w H' h') (R:AllBare g'):
  Inv X pins σ H' {s with heap:=h',gens:=g',drawn:=d',toks:=t'}:=by
 have B:∀b o,X.s₀.heap.get? b=some o->b≠X.env.locals:=λb o e=>Qwq (Qqq (Qiq e) I.ok.above)
 have j:∀b o,X.s₀.heap.get? b=some o->b∉X.ex->b∉ch:=λb o e a y=>by
  rcases(h b y).1 with z|z
  ·exact a z
  ·exact absurd (Qqq (Qiq e) z) (Nat.lt_irrefl _)
 have g:∀x c,X.env.cells.lookup x=some c->∀v,s.heap.IsCell c v->h'.IsCell c v:=λx c e v Y=>by
  obtain⟨o,A,G⟩:=Y
  have f:c∉ch:=λz=>(h c z).2.2.1 x c e rfl
  by_cases L:c∈X.fs
  ·obtain⟨K,q⟩:=slot c o (I.cne x c e) L f A (I.freeC x c e)
   exact⟨_,q,G⟩
  ·exact⟨o,keep c o (I.cne x c e) L f A (I.freeC x c e),G⟩
 refine⟨I.ok,I.os,R,⟨λb o e n y a=> ?_,λb o e n y a=> ?_,λb o e n a=> ?_,λb o e a=> ?_,λb xs e=>tups b xs (I.base.tups b xs e),λb o xs e=>frzs b o xs (I.base.frzs b o xs e),λb ps e=> ?_⟩,?_,λx c e=> ?_,?_,λx c e=> ?_,λp M=> ?_,F,I.len⟩
 ·exact keep b o (B b o e) y (j b o e a) (I.base.keep b o e n y a) (I.base.free b o e n a)
 ·obtain⟨K,t⟩:=I.base.slot b o e n y a
  obtain⟨J,C⟩:=slot b _ (B b o e) y (j b o e a) t (I.base.free b o e n a)
  exact⟨J,C⟩
 ·obtain⟨o',t⟩:=I.base.there b o e a
  exact free b o' (j b o e a) t (I.base.free b o e n a)
 ·obtain⟨o',t⟩:=I.base.there b o e a
  exact there b o' (j b o e a) t
 ·obtain⟨U,t⟩:=I.base.tbls b ps e
  obtain⟨Q,C⟩:=tbls b _ t
  exact⟨U++Q,by rw[C,Array.append_assoc]⟩
 ·obtain⟨m,S,hl⟩:=I.loc
  refine⟨m,ns m S,λi x v t C W=> ?_⟩
  obtain⟨u,r,l⟩:=hl i x v t C W
  refine⟨u,r,?_⟩
  rcases l with l|⟨k,c,e,z⟩
  ·exact .inl l
  ·exact .inr ⟨k,c,e,g x c e _ z⟩
 ·obtain⟨v,z⟩:=I.cell x c e
  exact⟨v,g x c e v z⟩
 ·obtain⟨m,⟨o,_,_,A,_⟩,_⟩:=I.loc
  exact free _ o (λz=>(h _ z).2.1 rfl) A I.free
 ·obtain⟨v,o,A,G⟩:=I.cell x c e
  exact free c o (λz=>(h c z).2.2.1 x c e rfl) A (I.freeC x c e)
 ·obtain⟨e,n,N,P,d⟩:=I.pin p M
  have f:p.1∉ch:=λz=>(h p.1 z).2.2.2 p M rfl
  exact⟨keep p.1 p.2 N P f e n,free p.1 p.2 f e n,N,P,d⟩
def Inv.un{t':Nat}(I:Inv X pins σ H s)(u:Un X.fs [] H H' s.heap h')(c:oz X.prog X.w H' h'):Inv X pins σ H' {s with heap:=h',toks:=t'}:=by
 obtain⟨m,⟨o,q,p,h,r⟩,_⟩:=id I.loc
 obtain⟨v,i⟩:=u.any h I.free (by simp)
 exact I.step (g':=s.gens) (d':=s.drawn) (ch:= []) (λ_ z=>nomatch z) (λb o _ f _ e n=>u.keep b o e n f (by simp)) (λb o _ f _ e n=>u.slot b o e n f (by simp)) (λb o _ e n=>u.free b o e n (by simp)) (λb o _ e=>u.there b o e (by simp)) u.tups u.frzs u.tbls (λt j=>by
  obtain⟨l,d,g,a,k⟩:=j
  rw[h] at a;cases a
  exact⟨_,d,g,i,k⟩) c I.bare
def Inv.call{g':Array GenState}{t':Nat}{d':Drawn}{ch:List Addr}(I:Inv X pins σ H s)(u:Un (Fv X.stack) ch H H' s.heap h')(g:oz X.prog X.w H' h')(l:AllBare g')
  (d:∀b∈ch,(b∈X.ex\/X.s₀.heap.objs.size<=b)/\b≠X.env.locals/\(∀x c,X.env.cells.lookup x=some c->c≠b)/\∀p∈X.pn++pins,p.1≠b):
  Inv X pins σ H' {s with heap:=h',gens:=g',drawn:=d',toks:=t'}:=by
 obtain⟨m,⟨o,C,B,k,r⟩,_⟩:=id I.loc
 obtain⟨y,h⟩:=u.any k I.free λz=>(d _ z).2.1 rfl
 exact I.step (ch:=ch) d (λb o h q a e n=>u.keep b o e n (λz=>(Qsq.mp (I.stkSub b z)).elim h q) a) (λb o _ _ a e n=>u.any e n a) (λb o a e n=>u.free b o e n a) (λb o a e=>u.there b o e a) u.tups u.frzs u.tbls (λF t=>by
  obtain⟨A,i,j,f,v⟩:=t
  rw[k] at f;cases f
  exact⟨_,i,j,h,v⟩) g l
def Inv.turned{t':Nat}{it:Addr}(I:Inv X pins σ H s)(k:∀b o,b≠it->s.heap.get? b=some o->h'.get? b=some o)(i:H it=none)(f:it≠X.env.locals)
  (h:it∈X.ex\/X.s₀.heap.objs.size<=it) (j:∀x c,X.env.cells.lookup x=some c->c≠it) (w:∀p∈X.pn++pins,p.1≠it):Inv X pins σ H {s with heap:=h',toks:=t'}:=by
 have d:∀b u,H b=some u->b≠it:=λb u e z=>by rw[z,i] at e;cases e
 refine I.step (g':=s.gens) (d':=s.drawn) (ch:= [it]) (λb y=> ?_) (λb o _ _ a e _=>k b o (λz=>a (by simp[z])) e) (λb o _ _ a e _=>⟨o.slots,k b o (λz=>a (by simp[z])) e⟩) (λ_ _ _ _ n=>n)
  (λb o a e=>⟨o,k b o (λz=>a (by simp[z])) e⟩) (λ_ _ e=>e) (λ_ _ _ e=>e) (λb B e=>⟨#[],by rw[e];simp⟩) (λm A=> ?_) (λb u e=> ?_) I.bare
 ·have e:b=it:=by simpa using y
  subst e
  exact⟨h,f,j,w⟩
 ·obtain⟨o,t,l,g,r⟩:=A
  exact⟨o,t,l,k _ o (Ne.symm f) g,r⟩
 ·refine(I.hok b u e).stay (λc v a q=>k c v ?_ q) (λ_ q=>q) λ_ _ q=>q
  rcases a with z|z
  ·rw[z];exact d b u e
  ·exact d c _ z
def Inv.tok(I:Inv X pins σ H s)(t:Nat):Inv X pins σ H {s with toks:=t}:=I.un (h':=s.heap) (t':=t) Un.refl I.hok
def Inv.kept{t':Nat}(I:Inv X pins σ H s)(k:∀b u,s.heap.get? b=some u->h'.get? b=some u):Inv X pins σ H {s with heap:=h',toks:=t'}:=I.un (Un.kept k) (I.hok.kept k)
def Inv.laid{a:Addr}{o:HO}{t':Nat}(I:Inv X pins σ H s)(k:∀b u,s.heap.get? b=some u->h'.get? b=some u)(c:s.heap.objs.size<=a)(new:cZ X.prog X.w (upd H a o) h' a o):
  Inv X pins σ (upd H a o) {s with heap:=h',toks:=t'}:=I.un (Un.laid k c (I.hok.fresh c)) (I.hok.laid k c new)
def Inv.write{x e:Addr}{o:HO}{t':Nat}(I:Inv X pins σ H s)(c:LZ (H x))(he:e=x\/H e=some (.own x))(k:∀b u,b≠e->s.heap.get? b=some u->h'.get? b=some u)(a:∃u,h'.get? e=some u)
  (new:cZ X.prog X.w (upd H x o) h' x o):Inv X pins σ (upd H x o) {s with heap:=h',toks:=t'}:=I.un (Un.write c he k a) (I.hok.write c he k a new)
def Inv.pins_of{a:List (Addr×Obj)}(I:Inv X pins σ H s)(h:∀p∈a,s.heap.get? p.1=some p.2/\H p.1=none/\p.1≠X.env.locals/\p.1∉X.fs/\∀v,p.2.data≠.cell v):Inv X a σ H s:=
 ⟨I.ok,I.os,I.bare,I.base,I.loc,I.cell,I.free,I.freeC,λp b=>(mQa.mp b).elim (λz=>I.pin p (List.mem_append_left _ z)) (h p),I.hok,I.len⟩
def Ab{N:List Str}(d:N.Nodup){i j:Nat}{x:Str}(a:N[i]?=some x)(b:N[j]?=some x):i=j:=by
 obtain⟨g,c⟩:=gQs.mp a
 obtain⟨f,e⟩:=gQs.mp b
 exact(List.getElem_inj d).mp (c.trans e.symm)
def DY{M:Model}{A:Around}{E:Value->Shared->Prop}{i:Nat}{x:Str}{v:V}{u:Value}{Q:Unit->Shared->Prop}(I:Inv X pins σ H s)(hN:X.N.Nodup)(hi:X.N[i]?=some x)(B:Loc X.env.scope x)(r:RelV v u)
  (h:∀s',Inv X pins (σ.set i (some v)) H s'->(∃a,Heap.SameBut a s.heap s'.heap/\(a=X.env.locals\/X.env.cells.lookup x=some a))->Q () s') (hf:X.fn x=true\/X.env.scope.names.lookup x=some .local:=by first|exact .inl rfl|exact .inr rfl|assumption):wpAny M A (storeName X.env x u) Q E s:=by
 obtain⟨m,hn,hl⟩:=id I.loc
 have Y:(X.env.scope.kind==.class||(X.env.scope.kind==.module&&X.env.locals !=X.env.globals))=false:=by rw[I.ok.kind];rfl
 have G:i<σ.length:=by rw[I.len];exact(gQs.mp hi).1
 have K:=I.cne
 have g:∀{a:Addr} {h':Heap},(∃o,s.heap.get? a=some o/\H a=none)->Heap.SameBut a s.heap h'->oz X.prog X.w H h':=λ{a h'} ha f b ob e=>by
  obtain⟨_,_,C⟩:=ha
  refine(I.hok b ob e).stay (λc w' t q=>(f.2 c ?_).trans q) (λ_ q=>q) λ_ _ q=>q
  rintro rfl
  rcases t with rfl|t
  ·rw[C] at e;cases e
  ·rw[C] at t;cases t
 rcases B with J|J
 ·refine wpAny_storeName_local J hn (λh' a1 f=> ?_) Y
  obtain⟨oL,_,_,a0,_⟩:=id hn
  refine h _ ⟨I.ok,I.os,I.bare,⟨λb o e n P B=> ?_,λb o e n P B=> ?_,I.base.free,λb o e B=> ?_,I.base.tups,I.base.frzs,I.base.tbls⟩,⟨_,a1,λj y v' l F e3=> ?_⟩,λy c e=> ?_,I.free,I.freeC,λp hp=> ?_,g ⟨oL,a0,I.free⟩ f,by simpa using I.len⟩ ⟨_,f,.inl rfl⟩
  ·exact(f.2 b (Qwq (Qqq (Qiq e) I.ok.above))).trans (I.base.keep b o e n P B)
  ·obtain⟨sl,l⟩:=I.base.slot b o e n P B
   exact⟨sl,(f.2 b (Qwq (Qqq (Qiq e) I.ok.above))).trans l⟩
  ·obtain⟨o',l⟩:=I.base.there b o e B
   exact⟨o',(f.2 b (Qwq (Qqq (Qiq e) I.ok.above))).trans l⟩
  ·by_cases R:j=i
   ·subst R
    rw[hi] at l;cases l
    rw[Qyq G] at F
    cases F
    exact⟨u,r,.inl ⟨J,by simp⟩⟩
   ·rw[QKq (Ne.symm R)] at F
    obtain⟨u',r',q⟩:=hl j y v' l F e3
    refine⟨u',r',?_⟩
    rcases q with⟨k,e⟩|⟨k,c,e,z⟩
    ·refine .inl ⟨k,?_⟩
     have:y≠x:=λe=>R (Ab hN l (e▸hi))
     simp[this,e]
    ·exact .inr ⟨k,c,e,z.sameBut f (K y c e)⟩
  ·obtain⟨w',z⟩:=I.cell y c e
   exact⟨w',z.sameBut f (K y c e)⟩
  ·obtain⟨e,n,ne,nf,d⟩:=I.pin p hp
   exact⟨(f.2 p.1 ne).trans e,n,ne,nf,d⟩
 ·have L:X.fn x=true:=by
   rcases hf with z|z
   ·exact z
   ·rw[z] at J;cases J
  obtain⟨c,t⟩:=I.ok.has x (.inl J)
  obtain⟨w',z⟩:=I.cell x c t
  refine wpAny_storeName_cell I.ok.kind J t z (λh' U f=> ?_)
  obtain⟨oc,S,W⟩:=id z
  refine h {s with heap:=h'} ⟨I.ok,I.os,I.bare,⟨λb o e n P B=> ?_,λb o e n P B=> ?_,I.base.free,λb o e B=> ?_,I.base.tups,I.base.frzs,I.base.tbls⟩,⟨m,hn.sameBut f (Ne.symm (K x c t)),λj y v' l F e3=> ?_⟩,λy c' e=> ?_,I.free,I.freeC,λp hp=> ?_,g ⟨oc,S,I.freeC x c t⟩ f,by simpa using I.len⟩ ⟨c,f,.inr t⟩
  ·exact(f.2 b (Qwq (Qqq (Qiq e) (I.ok.cab x c L t)))).trans (I.base.keep b o e n P B)
  ·obtain⟨sl,l⟩:=I.base.slot b o e n P B
   exact⟨sl,(f.2 b (Qwq (Qqq (Qiq e) (I.ok.cab x c L t)))).trans l⟩
  ·obtain⟨o',l⟩:=I.base.there b o e B
   exact⟨o',(f.2 b (Qwq (Qqq (Qiq e) (I.ok.cab x c L t)))).trans l⟩
  ·by_cases R:j=i
   ·subst R
    rw[hi] at l;cases l
    rw[Qyq G] at F
    cases F
    exact⟨u,r,.inr ⟨.inl J,c,t,U⟩⟩
   ·rw[QKq (Ne.symm R)] at F
    obtain⟨u',r',q⟩:=hl j y v' l F e3
    refine⟨u',r',?_⟩
    rcases q with q|⟨k,c',e,z'⟩
    ·exact .inl q
    ·refine .inr ⟨k,c',e,z'.sameBut f ?_⟩
     rintro rfl
     exact R (Ab hN l (I.ok.inj _ _ _ e t▸hi))
  ·by_cases Z:c'=c
   ·subst Z;exact⟨_,U⟩
   ·obtain⟨w2,z2⟩:=I.cell y c' e
    exact⟨w2,z2.sameBut f Z⟩
  ·obtain⟨e,n,ne,nf,d⟩:=I.pin p hp
   refine⟨(f.2 p.1 ?_).trans e,n,ne,nf,d⟩
   intro q
   rw[q,S] at e
   have q':oc=p.2:=QdQ e
   exact d w' (by rw[←q'];exact W)
def iB{M:Model}{A:Around}{E:Value->Shared->Prop}{i:Nat}{x:Str}{v:V}{u:Value}{Q:Unit->Shared->Prop}(I:Inv X pins σ H s)(d:X.N.Nodup)(hi:X.N[i]?=some x)(c:Loc X.env.scope x)(r:RelV v u)
  (h:∀a,Inv X pins (σ.set i (some v)) H a->Q () a) (e:X.fn x=true\/X.env.scope.names.lookup x=some .local:=by first|exact .inl rfl|exact .inr rfl|assumption):wpAny M A (storeName X.env x u) Q E s:=
 DY I d hi c r (λa b _=>h a b) e
def Inv.call'{a:Shared}{ch:List Addr}(I:Inv X pins σ H s)(i:a.os=s.os)(u:Un (Fv X.stack) ch H H' s.heap a.heap)(d:oz X.prog X.w H' a.heap)(g:AllBare a.gens)
  (f:∀b∈ch,(b∈X.ex\/X.s₀.heap.objs.size<=b)/\b≠X.env.locals/\(∀x c,X.env.cells.lookup x=some c->c≠b)/\∀p∈X.pn++pins,p.1≠b):Inv X pins σ H' a:=by
 obtain⟨h',g',d',t',h⟩:=a
 have e:h=s.os:=i
 subst e
 exact I.call (g':=g') (t':=t') (d':=d') u d g f
end
abbrev XK:=Value->Option Addr->Hp->Prop
abbrev St:=List (Option V)
abbrev VK:=V->Hp->Prop
abbrev TE:=St->Hp->VK->Prop
abbrev TT:=St->Hp->(Bool->Hp->Prop)->Prop
abbrev TA:=St->Hp->(List V->Hp->Prop)->Prop
structure Ends where
 nx:St->Hp->Prop
 rt:VK
 bk:St->Hp->Prop:=λ_ _=>False
 ct:St->Hp->Prop:=λ_ _=>False
abbrev TS:=Ends->St->Hp->Prop
def EP(X:Cx)(a:List (Addr×Obj))(c:St)(Q:VK)(u:Value)(d:Shared):Prop:=∃v b,Inv X a c b d/\RelV v u/\Q v b
def TP(X:Cx)(a:List (Addr×Obj))(d:St)(Q:Bool->Hp->Prop)(b:Bool)(e:Shared):Prop:=∃c,Inv X a d c e/\Q b c
def AP(X:Cx)(a:List (Addr×Obj))(e:St)(Q:List V->Hp->Prop)(d:List Value)(f:Shared):Prop:=∃c b,Inv X a e b f/\bM c d/\Q c b
def SP(X:Cx)(b:List (Addr×Obj))(D:Ends)(f:Flow)(d:Shared):Prop:=
 match f with
 |.next=>∃a c,Inv X b a c d/\D.nx a c
 |.brk=>∃a c,Inv X b a c d/\D.bk a c
 |.cont=>∃a c,Inv X b a c d/\D.ct a c
 |.ret u=>∃v a c,Inv X b a c d/\RelV v u/\D.rt v c
def PE(X:Cx)(e:Expr)(t:TE):Prop:=
 ∀(a:List (Addr×Obj)) (s:Shared) (b:St) (H:Hp) (Q:VK),Inv X a b H s->t b H Q->wpAny (model X.prog X.w) X.A (eval e X.env) (EP X a b Q) X.xe s
def PT(X:Cx)(e:Expr)(t:TT):Prop:=
 ∀(a:List (Addr×Obj)) (s:Shared) (b:St) (H:Hp) (Q:Bool->Hp->Prop),Inv X a b H s->t b H Q->wpAny (model X.prog X.w) X.A (isTrue e X.env (eval e X.env)) (TP X a b Q) X.xe s
def PW(X:Cx)(e:Expr)(t:TT):Prop:=
 ∀(b:Sem Value) (a:List (Addr×Obj)) (s:Shared) (c:St) (H:Hp) (Q:Bool->Hp->Prop),Inv X a c H s->t c H Q->wpAny (model X.prog X.w) X.A (isTrue e X.env b) (TP X a c Q) X.xe s
def PW.pt{X:Cx}{e:Expr}{t:TT}(h:PW X e t):PT X e t:=h _
def PA(X:Cx)(d:List Expr)(t:TA):Prop:=
 ∀(b:Pos) (a:List (Addr×Obj)) (s:Shared) (c:St) (H:Hp) (Q:List V->Hp->Prop),Inv X a c H s->t c H Q->wpAny (model X.prog X.w) X.A (spliced (backTo b (starEach d X.env))) (AP X a c Q) X.xe s
def PS(X:Cx)(st:Stmt)(t:TS):Prop:=
 ∀(a:List (Addr×Obj)) (s:Shared) (b:St) (H:Hp) (D:Ends),Inv X a b H s->t D b H->wpAny (model X.prog X.w) X.A (exec st X.env) (SP X a D) X.xe s
def uc(X:Cx)(st:List Stmt)(t:TS):Prop:=
 ∀(a:List (Addr×Obj)) (s:Shared) (b:St) (H:Hp) (D:Ends),Inv X a b H s->t D b H->wpAny (model X.prog X.w) X.A (execs st X.env) (SP X a D) X.xe s
def df{α:Type}{t:Sem α}{Q b:α->Shared->Prop}{M:Model}{A:Around}{E:Value->Shared->Prop}{s:Shared}(h:wpAny M A t Q E s)(c:∀a s,Q a s->b a s):wpAny M A t b E s:=QRq h c λ_ _ x=>x
section
variable{X:Cx}
def Jv(i:Nat):TE:=λa H Q=>∃v,a[i]?=some (some v)/\Q v H
def tC(v:V):TE:=λ_ H Q=>Q v H
def F6{i:Nat}{x:Str}{pos:Pos}(o:X.N[i]?=some x)(p:Jr X.env.scope x)(hd:(x==("__debug__":Str))=false:=by decide)(g:(x==("__classdict__":Str))=false:=by decide):PE X (.Name x pos) (Jv i):=by
 intro f s n H Q I h
 obtain⟨v,e,h⟩:=h
 obtain⟨m,k,hl⟩:=I.loc
 obtain⟨u,r,l⟩:=hl i x v o e p
 have d:EP X f n Q u s:=⟨v,H,I,r,h⟩
 rcases l with⟨b,q⟩|⟨b,c,j,a⟩
 ·exact wpAny_Name (wpAny_loadName_local I.ok.kind b k q d) hd
 ·rcases b with b|b
  ·exact wpAny_Name (wpAny_loadName_cell I.ok.kind b j a d) hd
  ·exact wpAny_Name (wpAny_loadName_free I.ok.kind b j a d g) hd
def Kv{i j pos}:PE X (.Constant (.int i) j pos) (tC (.int i)):=λ_ _ _ H _ I h=>wpAny_Constant_int ⟨.int i,H,I.tok _,⟨_,rfl⟩,h⟩
def MC{b j pos}:PE X (.Constant (.bool b) j pos) (tC (.bl b)):=λ_ _ _ H _ I h=>Constant_bool ⟨.bl b,H,I,rfl,h⟩
def J7{j pos}:PE X (.Constant .none j pos) (tC .non):=λ_ _ _ H _ I h=>Constant_none ⟨.non,H,I,rfl,h⟩
def KA{x j pos}:PE X (.Constant (.str x) j pos) (tC (.str x)):=λ_ _ _ H _ I h=>Calls.Constant_str ⟨.str x,H,I.tok _,⟨_,rfl⟩,h⟩
def Gl(X:Cx)(x:Str):Prop:=X.env.kindOf x=some .globalImplicit
def yx{E:Value->Shared->Prop}{a:List (Addr×Obj)}{s:Shared}{c:St}{H:Hp}{x:Str}{u:Value}{pos:Pos}{Q:Value->Shared->Prop}(I:Inv X a c H s)(d:Gl X x)(b:X.mg x=some u)(h:Q u s)
  (hd:(x==("__debug__":Str))=false:=by decide):wpAny (model X.prog X.w) X.A (eval (.Name x pos) X.env) Q E s:=
 Calls.Name_function_global I.ok.kind d (Calls.loadGlobal_global (by rw[I.ok.glob];exact I.mod.glob.keeps I.bk) b h) hd
def kz{E:Value->Shared->Prop}{a:List (Addr×Obj)}{s:Shared}{f:St}{H:Hp}{x:Str}{u:Value}{pos:Pos}{Q:Value->Shared->Prop}(I:Inv X a f H s)(c:Gl X x)(i:X.mg x=none)(g:bootBuiltins x=some u)(h:Q u s)
  (d:x≠"__name__":=by decide) (hd:(x==("__debug__":Str))=false:=by decide):wpAny (model X.prog X.w) X.A (eval (.Name x pos) X.env) Q E s:=by
 obtain⟨j,b,e⟩:=I.mod.blt
 exact Calls.Name_function_global I.ok.kind c (Calls.loadGlobal_builtin (by rw[I.ok.glob];exact I.mod.glob.keeps I.bk) i (by rw[I.ok.blt];exact b.keeps I.bk) ((e x d).trans g) h) hd
def zd{x:Str}{v:V}{u:Value}{pos:Pos}(b:Gl X x)(a:X.mg x=some u)(r:RelV v u)(hd:(x==("__debug__":Str))=false:=by decide):PE X (.Name x pos) (tC v):=
 λ_ _ _ H _ I h=>yx I b a ⟨v,H,I,r,h⟩ hd
def GY{x:Str}{v:V}{u:Value}{pos:Pos}(b:Gl X x)(a:X.mg x=none)(c:bootBuiltins x=some u)(r:RelV v u)(d:x≠"__name__":=by decide)(hd:(x==("__debug__":Str))=false:=by decide):PE X (.Name x pos) (tC v):=
 λ_ _ _ H _ I h=>kz I b a c ⟨v,H,I,r,h⟩ d hd
variable{a b:Expr}{ta tb:TE}{pos:Pos}
variable{tA tB':TT}{rest:List Expr}
def NI(t u:TT):TT:=λd H Q=>t d H λc H1=>if c=true then u d H1 Q else Q false H1
def OW(t u:TT):TT:=λd H Q=>t d H λc H1=>if c=true then Q true H1 else u d H1 Q
def Nv(t:TT):TT:=λd H Q=>t d H λc H1=>Q (!c) H1
def Ht(g:PT X a tA):PW X (.BoolOp .And [a] pos) tA:=by
 intro i d s f H Q I h
 refine isTrue_and (df (g d s f H Q I h) λc j e=> ?_)
 cases c with
 |true=>exact isTrue_and_nil e
 |false=>exact e
def KQ(g:PT X a tA):PW X (.BoolOp .Or [a] pos) tA:=by
 intro i d s f H Q I h
 refine isTrue_or (df (g d s f H Q I h) λc j e=> ?_)
 cases c with
 |false=>exact isTrue_or_nil e
 |true=>exact e
def JY(m:PT X a tA)(l:PW X (.BoolOp .And (b::rest) pos) tB'):PW X (.BoolOp .And (a::b::rest) pos) (NI tA tB'):=by
 intro i d s e H Q I h
 refine isTrue_and (df (m d s e H _ I h) λc k j=> ?_)
 obtain⟨H1,g,f⟩:=j
 cases c with
 |true=>exact l i d k e H1 Q g f
 |false=>exact⟨H1,g,f⟩
def Lr(m:PT X a tA)(l:PW X (.BoolOp .Or (b::rest) pos) tB'):PW X (.BoolOp .Or (a::b::rest) pos) (OW tA tB'):=by
 intro i d s e H Q I h
 refine isTrue_or (df (m d s e H _ I h) λc k j=> ?_)
 obtain⟨H1,g,f⟩:=j
 cases c with
 |true=>exact⟨H1,g,f⟩
 |false=>exact l i d k e H1 Q g f
def J9(f:PT X a tA):PT X (.UnaryOp .Not a pos) (Nv tA):=by
 intro d s e H Q I h
 exact isTrue_not (f d s e H (λc H1=>Q (!c) H1) I h)
def MV(ta tb:TE):TE:=λd H Q=>ta d H λx H1=>∃c,x=.bl c/\if c=true then tb d H1 Q else Q (.bl false) H1
def NZ(ta tb:TE):TE:=λd H Q=>ta d H λx H1=>∃c,x=.bl c/\if c=true then Q (.bl true) H1 else tb d H1 Q
def KF{op}{t:TE}(h:PE X a t):PE X (.BoolOp op [a] pos) t:=λc s d H Q I e=>BoolOp_one (h c s d H Q I e)
def JE(k:PE X a ta)(l:PE X (.BoolOp .And (b::rest) pos) tb):PE X (.BoolOp .And (a::b::rest) pos) (MV ta tb):=by
 intro d s g H Q I h
 refine BoolOp_and (df (k d s g H _ I h) λv m i=> ?_)
 obtain⟨x,H1,f,j,e⟩:=i
 obtain⟨c,rfl,e⟩:=e
 cases j
 refine wpAny_truthy_bool ?_
 cases c with
 |true=>exact l d m g H1 Q f e
 |false=>exact⟨.bl false,H1,f,rfl,e⟩
def LV(k:PE X a ta)(l:PE X (.BoolOp .Or (b::rest) pos) tb):PE X (.BoolOp .Or (a::b::rest) pos) (NZ ta tb):=by
 intro d s g H Q I h
 refine BoolOp_or (df (k d s g H _ I h) λv m i=> ?_)
 obtain⟨x,H1,f,j,e⟩:=i
 obtain⟨c,rfl,e⟩:=e
 cases j
 refine wpAny_truthy_bool ?_
 cases c with
 |false=>exact l d m g H1 Q f e
 |true=>exact⟨.bl true,H1,f,rfl,e⟩
def OX(t:TT)(ta tb:TE):TE:=λd H Q=>t d H λc H1=>if c=true then ta d H1 Q else tb d H1 Q
def Gg{c:Expr}(k:PT X c tA)(n:PE X a ta)(m:PE X b tb):PE X (.IfExp c a b pos) (OX tA ta tb):=by
 intro e s f H Q I h
 refine wpAny_IfExp (df (k e s f H _ I h) λd g l=> ?_)
 obtain⟨H1,j,i⟩:=l
 cases d with
 |true=>exact n e g f H1 Q j i
 |false=>exact m e g f H1 Q j i
end
def iX(K:PySem.W.Frag)(H:Hp)(a:Addr)(xs:List V):Prop:=
 Rd H a (.lst xs)∨
  ∃(o:Obj) (b:Array Value) (n:Nat),K.lookup a=some o/\o.cls=.type "list" /\o.dict=none/\o.data=.seq b n/\b.size<=sizeLine/\bM xs b.toList
def gW(K:PySem.W.Frag)(H:Hp)(a:Addr)(xs:List V):Prop:=
 Rd H a (.tup xs)∨
  ∃(o:Obj) (b:Array Value) (n:Nat),K.lookup a=some o/\o.cls=.type "tuple" /\o.data=.seq b n/\b.size<=sizeLine/\bM xs b.toList
def NG:Value->Option V
 |.none=>some .non
 |.bool b=>some (.bl b)
 |.int i _=>some (.int i)
 |.str x _=>some (.str x)
 |.bytes b _=>some (.byt b)
 |.float b _=>some (.flt b)
 |.ref a=>some (.ref a)
 |.type n=>some (.ty n)
 |_=>none
def RelV.abs{x:V}{u:Value}(r:RelV x u):NG u=some x:=by
 cases x with
 |non=>cases r;rfl
 |bl _=>cases r;rfl
 |int _=>obtain⟨t,rfl⟩:=r;rfl
 |str _=>obtain⟨t,rfl⟩:=r;rfl
 |byt _=>obtain⟨t,rfl⟩:=r;rfl
 |flt _=>obtain⟨t,rfl⟩:=r;rfl
 |ref _=>cases r;rfl
 |ty _=>cases r;rfl
def RelV.inj{x y:V}{u:Value}(r:RelV x u)(q:RelV y u):x=y:=QdQ (r.abs.symm.trans q.abs)
theorem bM.inj:∀{xs ys:List V} {a:List Value},bM xs a->bM ys a->xs=ys
 |_,_,_,.nil,.nil=>rfl
 |_,_,_,.cons r t,.cons r' t'=>by rw[r.inj r',bM.inj t t']
section
variable{X:Cx}{pins:List (Addr×Obj)}{σ:St}{H:Hp}{s:Shared}{a:Addr}{xs ys:List V}
def iX.of{K:PySem.W.Frag}(h:H a=some (.lst xs)):iX K H a xs:=.inl (.inl h)
def gW.of{K:PySem.W.Frag}(h:H a=some (.tup xs)):gW K H a xs:=.inl (.inl h)
def Inv.list(I:Inv X pins σ H s)(h:iX X.K H a xs):∃b:List Value,bM xs b/\PlainL s.heap a b.toArray/\xs.length<=sizeLine:=by
 rcases h with h|⟨o,b,n,g,c,d,f,i,r⟩
 ·obtain⟨z,b,n,r,e⟩:=h.ok I.hok
  exact⟨b,r,⟨_,n,e,rfl,rfl,rfl⟩,z⟩
 ·refine⟨b.toList,r,⟨o,n,I.kIn a o g,c,d,by simpa using f⟩,?_⟩
  have e:=r.length
  simp only[Array.length_toList] at e
  omega
def Inv.tuple(I:Inv X pins σ H s)(h:gW X.K H a xs):∃b:List Value,bM xs b/\IsTup s.heap a b.toArray/\xs.length<=sizeLine:=by
 rcases h with h|⟨o,b,n,f,c,d,g,r⟩
 ·obtain⟨z,b,r,p⟩:=h.ok I.hok
  exact⟨b,r,p.it,z⟩
 ·refine⟨b.toList,r,⟨o,I.kIn a o f,c,n,by simpa using d⟩,?_⟩
  have e:=r.length
  simp only[Array.length_toList] at e
  omega
def Inv.list_inj(I:Inv X pins σ H s)(h:iX X.K H a xs)(h':iX X.K H a ys):xs=ys:=by
 obtain⟨c,r,⟨o,n,e,_,_,d⟩,_⟩:=I.list h
 obtain⟨b,j,⟨k,l,f,_,_,g⟩,_⟩:=I.list h'
 rw[e] at f;cases f
 rw[d] at g
 injection g with i _
 have:c=b:=by simpa using congrArg Array.toList i
 subst this
 exact r.inj j
def Inv.tuple_inj(I:Inv X pins σ H s)(h:gW X.K H a xs)(h':gW X.K H a ys):xs=ys:=by
 obtain⟨c,r,⟨o,e,_,n,d⟩,_⟩:=I.tuple h
 obtain⟨b,j,⟨k,f,_,l,g⟩,_⟩:=I.tuple h'
 rw[e] at f;cases f
 rw[d] at g
 injection g with i _
 have:c=b:=by simpa using congrArg Array.toList i
 subst this
 exact r.inj j
end
abbrev Cx.wish(X:Cx)(E:Value->Shared->Prop):Cx:={X with xe:=E}
abbrev Cx.nox(X:Cx):Cx:=X.wish λ_ _=>False
def Cx.Ok.wish{X:Cx}(ok:X.Ok)(E:Value->Shared->Prop):(X.wish E).Ok:=
 ⟨ok.mod,ok.kind,ok.glob,ok.blt,ok.above,ok.inj,ok.has,ok.cab,ok.hd,ok.frames,ok.stk,ok.exf,ok.bs,ok.bsz,ok.noex,ok.exfs,ok.funs,ok.frf⟩
def Cx.Ok.unwish{X:Cx}{E:Value->Shared->Prop}(ok:(X.wish E).Ok):X.Ok:=
 ⟨ok.mod,ok.kind,ok.glob,ok.blt,ok.above,ok.inj,ok.has,ok.cab,ok.hd,ok.frames,ok.stk,ok.exf,ok.bs,ok.bsz,ok.noex,ok.exfs,ok.funs,ok.frf⟩
section
variable{X:Cx}{pins:List (Addr×Obj)}{σ:St}{H:Hp}{s:Shared}{E:Value->Shared->Prop}
def Inv.wish(I:Inv X pins σ H s)(E:Value->Shared->Prop):Inv (X.wish E) pins σ H s:=⟨I.ok.wish E,I.os,I.bare,I.base,I.loc,I.cell,I.free,I.freeC,I.pin,I.hok,I.len⟩
def Inv.unwish(I:Inv (X.wish E) pins σ H s):Inv X pins σ H s:=⟨I.ok.unwish,I.os,I.bare,I.base,I.loc,I.cell,I.free,I.freeC,I.pin,I.hok,I.len⟩
theorem SP.unwish{D:Ends}{f:Flow}{c:Shared}(h:SP (X.wish E) pins D f c):SP X pins D f c:=by
 cases f with
 |next=>obtain⟨a,b,I,q⟩:=h;exact⟨a,b,I.unwish,q⟩
 |brk=>obtain⟨a,b,I,q⟩:=h;exact⟨a,b,I.unwish,q⟩
 |cont=>obtain⟨a,b,I,q⟩:=h;exact⟨a,b,I.unwish,q⟩
 |ret u=>obtain⟨v,a,b,I,r,q⟩:=h;exact⟨v,a,b,I.unwish,r,q⟩
def uc.nox{st:List Stmt}{t:TS}(h:uc X.nox st t):uc X st t:=λpins s σ H D I a=>
 QRq (h pins s σ H D (I.wish _) a) (λ_ _ q=>q.unwish) λ_ _ z=>False.elim z
end
section
variable{X:Cx}{st:Stmt}{rest:List Stmt}{t u:TS}{e:Expr}{te:TE}{pos:Pos}
def Mc:TS:=λD a H=>D.nx a H
def NB(t u:TS):TS:=λD a H=>t {D with nx:=u D} a H
def G8:uc X [] Mc:=λ_ _ a H _ I h=>wpAny_execs_nil ⟨a,H,I,h⟩
def Gr(i:PS X st t)(c:uc X rest u):uc X (st::rest) (NB t u):=by
 intro a s g H D I h
 refine wpAny_execs_cons (df (i a s g H {D with nx:=u D} I h) λf j q=> ?_)
 cases f with
 | next=>
   obtain⟨b,d,k,q⟩:=q
   exact c a j b d D k q
 |ret v=>exact q
 |brk=>exact q
 |cont=>exact q
def IC(c:PS X st t):uc X [st] t:=by
 intro a s b H D I h
 refine wpAny_execs_cons (df (c a s b H D I h) λf d q=> ?_)
 cases f with
 |next=>exact wpAny_execs_nil q
 |ret v=>exact q
 |brk=>exact q
 |cont=>exact q
def Inv.quiet{a:List (Addr×Obj)}{b:St}{H:Hp}{s:Shared}(I:Inv X a b H s):interactive X.env=false:=by simp[interactive,I.ok.kind]
def MG(te:TE):TS:=λD a H=>te a H λ_ H1=>D.nx a H1
def Hw(he:PE X e te)(d:swapsWith e none pos.line X.env=pure false:=by rfl):PS X (.Expr e pos) (MG te):=by
 intro a s b H D I h
 exact wpAny_Expr_any (df (he a s b H _ I h) λv i ⟨x,H1,f,g,c⟩=>⟨b,H1,f,c⟩) I.quiet d
def Nj(te:TE):TS:=λD a H=>te a H D.rt
def FJ(he:PE X e te):PS X (.Return (some e) pos) (Nj te):=by
 intro a s b H D I h
 exact wpAny_Return_some (df (he a s b H _ I h) λv g ⟨x,H1,f,c,d⟩=>⟨x,b,H1,f,c,d⟩)
def N7(c:TT)(t u:TS):TS:=λD a H=>c a H λb H1=>if b=true then t D a H1 else u D a H1
def Mh{c:Expr}{a b:List Stmt}{j:TT}(n:PT X c j)(o:uc X a t)(p:uc X b u):PS X (.If c a b pos) (N7 j t u):=by
 intro f s g H D I h
 refine wpAny_If (df (n f s g H _ I h) λd l m=> ?_)
 obtain⟨H1,i,k⟩:=m
 cases d with
 |true=>exact o f l g H1 D i k
 |false=>exact p f l g H1 D i k
def KU:TS:=λ_ _ _=>False
def GM:PS X st KU:=λ_ _ _ _ _ _ h=>h.elim
end
abbrev TG:=V->St->Hp->(St->Hp->Prop)->Prop
abbrev HA:=List V->St->Hp->(St->Hp->Prop)->Prop
def PG(X:Cx)(a:Expr)(t:TG):Prop:=
 ∀ (b:List (Addr×Obj)) (s:Shared) (e:St) (H:Hp) (v:V) (u:Value) (Q:St->Hp->Prop),Inv X b e H s->RelV v u->t v e H Q→
   wpAny (model X.prog X.w) X.A (assign a X.env u) (λ_ f=>∃c d,Inv X b c d f/\Q c d) X.xe s
def GR(X:Cx)(ts:List Expr)(t:HA):Prop:=
 ∀ (a:List (Addr×Obj)) (s:Shared) (e:St) (H:Hp) (f:List V) (c:List Value) (Q:St->Hp->Prop),Inv X a e H s->bM f c->t f e H Q→
   wpAny (model X.prog X.w) X.A (assignInOrder ((assignEach ts X.env).map (·.2)) c) (λ_ g=>∃b d,Inv X a b d g/\Q b d) X.xe s
abbrev Kd:=V->V->V->Hp->(Hp->Prop)->Prop
def MW(X:Cx)(t:Kd):Prop:=
 ∀ (a:List (Addr×Obj)) (s:Shared) (c:St) (H:Hp) (o i v:V) (e d u:Value) (Q:Hp->Prop),Inv X a c H s->RelV o e->RelV i d->RelV v u->t o i v H Q→
   wpAny (model X.prog X.w) X.A (setItem e d u) (λ_ f=>∃b,Inv X a c b f/\Q b) X.xe s
section
variable{X:Cx}{pos:Pos}
def pV(i:Nat):TG:=λv a H Q=>Q (a.set i (some v)) H
def yB{i:Nat}{x:Str}(d:X.N.Nodup)(hi:X.N[i]?=some x)(c:Loc X.env.scope x)(e:X.fn x=true\/X.env.scope.names.lookup x=some .local:=by first|exact .inl rfl|exact .inr rfl|assumption):PG X (.Name x pos) (pV i):=by
 intro a s f H v u Q I r h
 exact wpAny_assign_Name (iB I d hi c r (λg b=>⟨_,H,b,h⟩) e)
def Nz:HA:=λb a H Q=>b= []/\Q a H
def Mu(t:TG)(u:HA):HA:=λd c H Q=>∃v r,d=v::r/\t v c H λa b=>u r a b Q
def Hq:GR X [] Nz:=by
 intro a s b H d c Q I r h
 obtain⟨e,h⟩:=h
 subst e
 cases r
 exact assignInOrder_nil ⟨b,H,I,h⟩
def FC{e:Expr}{b:List Expr}{t:TG}{u:HA}(i:PG X e t)(l:GR X b u)
  (k:(assignEach (e::b) X.env).map (·.2)=assign e X.env::(assignEach b X.env).map (·.2):=by rfl):GR X (e::b) (Mu t u):=by
 intro a s m H p w Q I r h
 obtain⟨v,q,d,h⟩:=h
 subst d
 cases r with
 | cons r o=>
   rw[k]
   refine assignInOrder_cons (df (i a s m H _ _ _ I r h) λ_ n f=> ?_)
   obtain⟨c,H1,g,j⟩:=f
   exact l a n c H1 _ _ Q g o j
def NF(K:PySem.W.Frag)(n:Nat)(t:HA):TG:=λv c H Q=>∃a b,v=.ref a/\gW K H a b/\b.length=n/\t b c H Q
def JQ{d:List Expr}{k:Nat}{t:HA}{n:Nat}(x:X.calm=true)(h:GR X d t)
  (z:(assignEach d X.env).length=n:=by rfl) (f:(assignEach d X.env).findIdx? (·.1)=none:=by rfl):PG X (.Tuple d k pos) (NF X.K n t):=by
 intro c s i H v u Q I r g
 obtain⟨a,q,m,B,hl,g⟩:=g
 subst m
 cases r
 obtain⟨p,j,l,C⟩:=I.tuple B
 refine assign_Tuple_tuple (I.ok.hd x) l (by simp[z,←hl,j.length]) f λy A=> ?_
 have w:Inv X c i H {s with heap:=y}:=I.kept (t':=s.toks) λb o e=>A b o (Qwq (Qiq e)) e
 exact h c _ i H q _ Q w (by simpa using j) g
def LL(c b:TE)(t:Kd):TG:=λv a H Q=>c a H λo H1=>b a H1 λi H2=>t o i v H2 λH3=>Q a H3
def Kg{o i:Expr}{g f:TE}{t:Kd}(k:PE X o g)(hi:PE X i f)(p:MW X t)
  (q:∀v,assign (.Subscript o i pos) X.env v=(do
   let b←holding [v] (eval o X.env)
   let d←holding [v,b] (eval i X.env)
   standAt pos
   holding [v,b,d] (setItem b d v)
   release [v,b,d] []):=by intro _;rfl):PG X (.Subscript o i pos) (LL g f t):=by
 intro a s e H v u Q I r h
 rw[q]
 refine Qaq (QLq (df (k a s e H _ I h) λb A c=> ?_))
 obtain⟨x,H1,l,m,n⟩:=c
 refine Qaq (QLq (df (hi a A e H1 _ l n) λd w c=> ?_))
 obtain⟨y,H2,C,B,F⟩:=c
 refine Qaq (wpAny_standAt (Qaq (QLq (df (p a w e H2 x y v b d u _ C m B r F) λ_ G c=> ?_))))
 obtain⟨H3,j,z⟩:=c
 exact wpAny_release ⟨e,H3,j,z⟩
def EA(b:TE)(g:TG):TS:=λD a H=>b a H λx H1=>g x a H1 D.nx
def Kl{b e:Expr}{d:TE}{g:TG}(he:PE X e d)(k:PG X b g)(m:swapsWithSole [b] e pos.line X.env=pure false:=by rfl)(o:swappedStores [b] e X.env=pure none:=by rfl)
  (j:(assignEach [b] X.env).map (·.2)= [assign b X.env]:=by rfl):PS X (.Assign [b] e pos) (EA d g):=by
 intro a s c H D I h
 refine wpAny_Assign_stores (df (he a s c H _ I h) λv n ⟨x,H1,f,i,l⟩=> ?_) m o
 rw[j]
 exact df (k a n c H1 x v _ f i l) λ_ p q=>q
def J2{i:Nat}{x:Str}{e:Expr}{c:TE}{a:Pos}(n:X.N.Nodup)(hi:X.N[i]?=some x)(l:Loc X.env.scope x)(he:PE X e c)(k:swapsWith e (some (.Name x a)) pos.line X.env=pure false:=by rfl)(d:X.fn x=true\/X.env.scope.names.lookup x=some .local:=by first|exact .inl rfl|exact .inr rfl|assumption):
  PS X (.Assign [.Name x a] e pos) (EA c (pV i)):=by
 intro b s m H D I h
 refine wpAny_Assign_Name (df (he b s m H _ I h) λv q ⟨y,H1,f,g,j⟩=> ?_) k
 exact iB f n hi l g (λp o=>⟨_,H1,o,j⟩) d
def Ly(i j:Nat)(b:TA):TS:=λD a H=>b a H λc H1=>∃v w,c= [v,w]/\D.nx ((a.set i (some v)).set j (some w)) H1
def B6{i j:Nat}{x y:Str}{a b:Expr}{G:TA}{r k l:Pos}{kt k2 pt2}(R:X.calm=true)(F:X.N.Nodup)(hi:X.N[i]?=some x)(hj:X.N[j]?=some y)(m:i≠j)
  (B:X.env.scope.names.lookup x=some .local) (z:X.env.scope.names.lookup y=some .local) (U:PA X [a,b] G)
  (Z:swappedStores [.Tuple [.Name x r,.Name y k] kt l] (.Tuple [a,b] k2 pt2) X.env=pure (some [x,y]))
  (S:swapsWithSole [.Tuple [.Name x r,.Name y k] kt l] (.Tuple [a,b] k2 pt2) pos.line X.env=pure false:=by rfl):
  PS X (.Assign [.Tuple [.Name x r,.Name y k] kt l] (.Tuple [a,b] k2 pt2) pos) (Ly i j G):=by
 intro c s C H D I h
 rw[exec_Assign_arm]
 refine Qaq (wpAny_standAt ?_)
 rw[S]
 refine Qaq (Qgq ?_)
 rw[Quq (by decide)]
 refine Qaq (Tuple_ (df (U _ c s C H _ I h) λW f K=> ?_))
 obtain⟨vs,H1,M,P,n⟩:=K
 obtain⟨v,w,L,n⟩:=n
 subst L
 obtain⟨g,d,rfl,rv,rw'⟩:∃g d,W= [g,d]/\RelV v g/\RelV w d:=by
  cases P with
  | cons p q=>
    cases q with
    | cons p' Y=>
      cases Y
      exact⟨_,_,rfl,p,p'⟩
 refine QhQ ?_ (by show 2<=_;decide)
 have I2:Inv X c C H1 {f with heap:=f.heap.push {cls:=.type "tuple",data:=.seq [g,d].toArray}}:=M.kept (t':=f.toks) λb o e=>Qcq _ e
 rw[Z]
 refine Qaq (Qgq ?_)
 show wpAny (model X.prog X.w) X.A (do rule "assign.swapped-stores";let items←unpackItems (.ref f.heap.objs.size) 2 none;assignInOrder [λv=>bindName X.env y v,λv=>bindName X.env x v] items.reverse;pure Flow.next) _ _ _
 refine Qaq (wpAny_rule (Qaq (unpackItems_tuple (items:= #[g,d]) (I.ok.hd R) (IsTup.new f.heap _) λh' t=> ?_)))
 have J:=I2.kept (h':=h') (t':=f.toks) λb o e=>t b o (Qwq (Qiq e)) e
 show wpAny _ _ (assignInOrder [λv=>bindName X.env y v,λv=>bindName X.env x v] [d,g] >>= λ_=>pure Flow.next) _ _ _
 refine Qaq (assignInOrder_cons (wpAny_bindName (iB J F hj (.inl z) rw' (λs2 Q=> ?_) (.inr z))))
 refine assignInOrder_cons (wpAny_bindName (iB Q F hi (.inl B) rv (λs3 u=>assignInOrder_nil (Qgq ?_)) (.inr B)))
 rw[List.set_comm _ _ (Ne.symm m)] at u
 exact⟨_,H1,u,n⟩
end
structure It where
 go:Nat->Hp->Prop
 yld:Nat->Hp->V->Hp->Prop
 stop:Nat->Hp->Prop
def qU(X:Cx)(a:List (Addr×Obj))(H:Hp)(b:Addr):Prop:=
 H b=none/\b≠X.env.locals/\b∉X.fs/\(b∈X.ex\/X.s₀.heap.objs.size<=b)/\(∀x c,X.env.cells.lookup x=some c->c≠b)/\∀p∈X.pn++a,p.1≠b
def Inv.fpOk{X:Cx}{a:List (Addr×Obj)}{g:St}{H f:Hp}{s:Shared}{b:Addr}(I:Inv X a g H s)(d:s.heap.objs.size<=b)(i:f b=none):qU X a f b:=by
 refine⟨i,Nat.ne_of_gt (Qqq I.lt d),I.nofs d,.inr (QAq I.sz d),λx c e z=> ?_,λp h z=> ?_⟩
 ·obtain⟨v,q⟩:=I.cell x c e
  exact absurd (Qqq q.lt (by rw[z];exact d)) (Nat.lt_irrefl _)
 ·exact absurd (Qqq (Qiq (I.pin p h).1) (by rw[z];exact d)) (Nat.lt_irrefl _)
structure Turn(P:Program)(w:World)(K:PySem.W.Frag)(tg:Expr)(J:It)(fp:List Addr)(it:Addr)(tn:Nat->Heap->Prop):Prop where
 mem:it∈fp
 obj:∀i h,tn i h->∀b∈fp,∃o,h.get? b=some o/\∀v,o.data≠.cell v
 keep:∀i h h',tn i h->(∀b∈fp,∀o,h.get? b=some o->h'.get? b=some o)->tn i h'
 item:∀(X:Cx),X.prog=P->X.w=w->X.K=K->X.calm=true->∀(i:Nat) (pins:List (Addr×Obj)) (s:Shared) (σ:St) (H:Hp) (E:Value->Shared->Prop),Inv X pins σ H s->(∀b∈fp,qU X pins H b)->tn i s.heap->J.go i H→
  wpAny (model P w) X.A (pyNext (.ref it)) (λr s1=>∃u,r=some u∧
   wpAny (model P w) X.A (letOwnedTupleGo tg (.ref it) u) (λ_ s2=>∃x H',Inv X pins σ H' s2/\RelV x u/\J.yld i H x H'/\tn (i+1) s2.heap/\∀b∈fp,H' b=none) E s1) E s
 done:∀(X:Cx),X.prog=P->X.w=w->X.K=K->X.calm=true->∀(i:Nat) (pins:List (Addr×Obj)) (s:Shared) (σ:St) (H:Hp) (E:Value->Shared->Prop),Inv X pins σ H s->(∀b∈fp,qU X pins H b)->tn i s.heap->J.stop i H→
  wpAny (model P w) X.A (pyNext (.ref it)) (λr s1=>r=none/\Inv X pins σ H s1) E s
 self:∀(A:Around) (i:Nat) (s:Shared) (Q:Value->Shared->Prop) (E:Value->Shared->Prop),tn i s.heap->Q (.ref it) s->wpAny (model P w) A (pyIter (.ref it)) Q E s
abbrev TI:=St->Hp->(It->Hp->Prop)->Prop
def Ow(X:Cx)(a:List (Addr×Obj))(i:St)(j:Expr)(R:It->Hp->Prop)(d:Value)(g:Shared):Prop:=
 ∃(f:Addr) (h:List Addr) (e:Nat->Heap->Prop) (J:It) (c:Hp),d=.ref f/\Inv X a i c g/\Turn X.prog X.w X.K j J h f e/\e 0 g.heap/\(∀b∈h,qU X a c b)/\R J c
def PI(X:Cx)(e b:Expr)(d:TI):Prop:=
 ∀ (a:List (Addr×Obj)) (s:Shared) (c:St) (H:Hp) (R:It->Hp->Prop),Inv X a c H s->d c H R→
   wpAny (model X.prog X.w) X.A (eval b X.env) (λv f=>wpAny (model X.prog X.w) X.A (pyIter v) (Ow X a c e R) X.xe f) X.xe s
def GL{M:Model}{A:Around}{E:Value->Shared->Prop}{s:Shared}{b:Expr}{it:Addr}{u:Value}{o:Obj}{n:String}{vs:Array Value}{Q:Unit->Shared->Prop}(e:s.heap.get? it=some o)(d:o.cls=.type n)(hd:o.data=.fields vs)
    (c: ["enumerate","zip","dict_itemiterator","dict_reverseitemiterator","odict_iterator","itertools.zip_longest","itertools.pairwise"].contains n=false) (a:Q () s):wpAny M A (letOwnedTupleGo b (.ref it) u) Q E s:=by
  unfold letOwnedTupleGo
  cases b <;>first
    |exact Qgq a
    |(cases u <;>first
        |exact Qgq a
        |(refine Qaq (wpAny_load e ?_)
          rw[d,hd]
          show wpAny M A (if (["enumerate","zip","dict_itemiterator","dict_reverseitemiterator","odict_iterator","itertools.zip_longest","itertools.pairwise"].contains n&&vs[0]? ==some (rawInt _))=true then _ else _) Q E s
          rw[Quq (by intro h;rw[c,Bool.false_and] at h;cases h)]
          exact Qgq a))
def OO(K:PySem.W.Frag)(a:Addr):It:=
 ⟨λi H=>∃b x,iX K H a b/\b[i]?=some x,λi H x c=>c=H/\∀b,iX K H a b->b[i]?=some x,λi H=>∃b,iX K H a b/\b.length<=i⟩
def Ot(K:PySem.W.Frag)(a:Addr):It:=
 ⟨λi H=>∃b x,gW K H a b/\b[i]?=some x,λi H x c=>c=H/\∀b,gW K H a b->b[i]?=some x,λi H=>∃b,gW K H a b/\b.length<=i⟩
def MZ(lo:Int)(n:Nat):It:=⟨λi _=>i<n,λi H x a=>a=H/\x=.int (lo+i),λi _=>n<=i⟩
def DZ{P:Program}{w:World}{K:PySem.W.Frag}{tg:Expr}(a it:Addr):Turn P w K tg (OO K a) [it] it (λi h=>h.IsListIter it a i) where
 mem:=by simp
 obj:=λi h f b j=>by
  have e:b=it:=by simpa using j
  subst e
  obtain⟨o,e,c,d⟩:=f
  exact⟨o,e,λv z=>by rw[d] at z;cases z⟩
 keep:=λi h q f k=>f.at λo e=>k it (by simp) o e
 item:=by
  intro X F L y Q i g s R H E I n f C
  subst F L y
  obtain⟨Y,x,m,J⟩:=C
  obtain⟨t,M,p,hz⟩:=I.list m
  obtain⟨u,hu,S⟩:=M.get J
  obtain⟨A,G,f2,r,N,B⟩:=n it (by simp)
  refine wpAny_pyNext_list_item f p.isList (x:=u) (by simpa using hu) λq l sb=> ?_
  have Z:Inv X g R H {s with heap:=q}:=I.turned (t':=s.toks) (λb o j e=>(sb.2 b j).trans e) A G r N B
  obtain⟨o,e,c,d⟩:=id l
  exact⟨u,rfl,GL (s:={s with heap:=q}) e c d (by decide) ⟨x,H,Z,S,⟨rfl,λys hy=>by rw[I.list_inj hy m];exact J⟩,l,λb j=>(n b j).1⟩⟩
 done:=by
  intro X F L y Q i g s R H E I n f C
  subst F L y
  obtain⟨Y,m,J⟩:=C
  obtain⟨t,M,p,hz⟩:=I.list m
  obtain⟨A,G,f2,r,N,B⟩:=n it (by simp)
  have hl:=M.length
  exact wpAny_pyNext_list_end (I.ok.hd Q) f p.isList (by simp;omega) λq U=>⟨rfl,I.turned (t':=s.toks) (λb o j e=>U b o j e) A G r N B⟩
 self:=λ_ _ _ _ _ f h=>wpAny_pyIter_listiter f h
def B0{P:Program}{w:World}{K:PySem.W.Frag}{tg:Expr}(a it:Addr):Turn P w K tg (Ot K a) [it] it (λi h=>h.IsTupleIter it a i) where
 mem:=by simp
 obj:=λi h f b l=>by
  have e:b=it:=by simpa using l
  subst e
  obtain⟨o,e,c,d⟩:=f
  exact⟨o,e,λv z=>by rw[d] at z;cases z⟩
 keep:=λi h r f k=>f.at λo e=>k it (by simp) o e
 item:=by
  intro X F L y Q i g s R H E I q f C
  subst F L y
  obtain⟨Y,x,n,J⟩:=C
  obtain⟨j,M,p,hz⟩:=I.tuple n
  obtain⟨u,hu,S⟩:=M.get J
  obtain⟨A,G,f2,t,N,B⟩:=q it (by simp)
  refine wpAny_pyNext_tuple_item f (show s.heap.IsTuple a j.toArray from p) (x:=u) (by simpa using hu) λr m sb=> ?_
  have Z:Inv X g R H {s with heap:=r}:=I.turned (t':=s.toks) (λb o l e=>(sb.2 b l).trans e) A G t N B
  obtain⟨o,e,c,d⟩:=id m
  exact⟨u,rfl,GL (s:={s with heap:=r}) e c d (by decide) ⟨x,H,Z,S,⟨rfl,λys hy=>by rw[I.tuple_inj hy n];exact J⟩,m,λb l=>(q b l).1⟩⟩
 done:=by
  intro X F L y Q i g s R H E I q f C
  subst F L y
  obtain⟨Y,n,J⟩:=C
  obtain⟨j,M,p,hz⟩:=I.tuple n
  obtain⟨A,G,f2,t,N,B⟩:=q it (by simp)
  have hl:=M.length
  exact wpAny_pyNext_tuple_end (I.ok.hd Q) f (show s.heap.IsTuple a j.toArray from p) (by simp;omega) λr U=>⟨rfl,I.turned (t':=s.toks) (λb o l e=>U b o l e) A G t N B⟩
 self:=λ_ _ _ _ _ f h=>wpAny_pyIter_tupleiter f h
def Bm{P:Program}{w:World}{K:PySem.W.Frag}{Q:Expr}(it:Addr)(lo:Int)(n:Nat):Turn P w K Q (MZ lo n) [it] it (λi h=>IsRangeIter h it (lo+(i:Nat)*1) ((n:Int)-(i:Nat)) 1) where
 mem:=by simp
 obj:=λi h a b d=>by
  have e:b=it:=by simpa using d
  subst e
  exact⟨_,a,λv z=>by
   have N:Data.fields _=Data.cell v:=z
   cases N⟩
 keep:=λi h j a k=>k it (by simp) _ a
 item:=by
  intro X x A m u i c s F H E I g a r
  subst x A m
  obtain⟨p,y,M,l,B,q⟩:=g it (by simp)
  have W:=Walks.range (prog:=X.prog) (w:=X.w) (I.ok.hd u) it lo 1 n
  refine W.item i s _ _ r a λv j C R f G=> ?_
  obtain⟨t,rfl⟩:=R
  have L:Inv X c F H {s with heap:=j,toks:=C}:=I.turned (λb o d e=>G b o (by simpa using d) e) p y l B q
  refine⟨_,rfl,GL (s:={s with heap:=j,toks:=C}) (n:="range_iterator") f rfl rfl (by decide) ⟨.int (lo+i),H,L,⟨t,?_⟩,⟨rfl,rfl⟩,f,λb d=>(g b d).1⟩⟩
  rw[Int.mul_one]
 done:=by
  intro X x A m u i c s F H E I g a r
  subst x A m
  obtain⟨p,y,M,l,B,q⟩:=g it (by simp)
  exact wpAny_pyNext_range_end (I.ok.hd u) a (by have:n<=i:=r;omega) λj J=>⟨rfl,I.turned (t':=s.toks) (λb o d e=>J b o d e) p y l B q⟩
 self:=λ_ _ _ _ _ a h=>wpAny_pyIter_rangeiter a h
section
variable{X:Cx}{tg:Expr}
def Gk{a:List (Addr×Obj)}{f:St}{H:Hp}{s:Shared}{R:It->Hp->Prop}{E:Value->Shared->Prop}{lo hi:Int}{t u v:Tok}{c:Nat}(I:Inv X a f H s)(i: -(2^62)<=lo)(k:lo<2^62)(l: -(2^62)<=hi)(h:hi<2^62)
  (q:R (MZ lo (hi-lo).toNat) H):wpAny (model X.prog X.w) X.A (pyIter (.ref s.heap.objs.size)) (Ow X a f tg R) E {s with heap:=s.heap.push {cls:=.type "range",data:=.fields #[.int lo t,.int hi u,.int 1 v]},toks:=c}:=by
 refine wpAny_pyIter_range (IsRange.new ..) (small_one i k l h) ?_
 have d:Inv X a f H {s with heap:=s.heap.push {cls:=.type "range",data:=.fields #[.int lo t,.int hi u,.int 1 v]},toks:=c}:=I.kept λb o e=>Qcq _ e
 refine⟨(s.heap.push {cls:=.type "range",data:=.fields #[.int lo t,.int hi u,.int 1 v]}).objs.size,[(s.heap.push {cls:=.type "range",data:=.fields #[.int lo t,.int hi u,.int 1 v]}).objs.size],_,_,H,rfl,
  d.kept (t':=c) λb o e=>Qcq _ e,Bm _ lo (hi-lo).toNat,?_,λb m=> ?_,q⟩
 ·have g:lo+((0:Nat):Int)*1=lo:=by simp
  have j:(((hi-lo).toNat:Nat):Int)-((0:Nat):Int)=Builtin.Range.rangeSize lo hi 1:=by rw[rangeSize_one];split <;>omega
  show IsRangeIter _ _ (lo+((0:Nat):Int)*1) ((((hi-lo).toNat:Nat):Int)-((0:Nat):Int)) 1
  rw[g,j]
  exact Qrq _ rfl
 ·have e:b=(s.heap.push {cls:=.type "range",data:=.fields #[.int lo t,.int hi u,.int 1 v]}).objs.size:=by simpa using m
  subst e
  exact d.fpOk (Qmq _) (d.hok.fresh (Qmq _))
def LD(b:TA):TI:=λa H R=>b a H λc H1=>∃j:Int,c= [.int j]/\ -(2^62)<=j/\j<2^62/\R (MZ 0 j.toNat) H1
def D2{a:Expr}{d:TA}{p pos:Pos}(i:Gl X "range")(o:X.mg "range"=none)(l:PA X [a] d)(k:starEach [a] X.env= [(false,eval a X.env)]:=by rfl):PI X tg (.Call (.Name "range" p) [a] [] pos) (LD d):=by
 intro b s m H R I h
 refine Call_ (kz I i o boot_range (PyProof.Rows.callWith_type1 (df (l pos b s m H _ I h) λw x ⟨v,H1,f,g,c⟩=> ?_) k rfl))
 obtain⟨j,e,c,u,q⟩:=c
 subst e
 cases g with
 | cons r n=>
   cases n
   obtain⟨t,rfl⟩:=r
   exact call_range_1 (Gk f (by omega) (by omega) c u (by simpa using q))
def NN(f:TI)(g:TG)(h:TS):TS:=λD a H=>f a H λJ H1=>∃W:Nat->Nat->St->Hp->Prop,(∃m,W 0 m a H1)/\∀i m a H,W i m a H→
 (J.stop i H/\D.nx a H)\/(J.go i H/\∃N:St->Hp->Prop,(∀c b,N c b->∃e,e<m/\W (i+1) e c b)/\∀x b,J.yld i H x b->g x a b λd H2=>h {D with nx:=N,ct:=N,bk:=D.nx} d H2)
def nO(fp:List Addr)(h:Heap):List (Addr×Obj):=fp.filterMap λb=>(h.get? b).map λo=>(b,o)
def dw{fp:List Addr}{h:Heap}{b:Addr}{o:Obj}(a:b∈fp)(e:h.get? b=some o):(b,o)∈nO fp h:=List.mem_filterMap.mpr ⟨b,a,by rw[e];rfl⟩
def Ep{fp:List Addr}{h:Heap}{p:Addr×Obj}(a:p∈nO fp h):p.1∈fp/\h.get? p.1=some p.2:=by
 obtain⟨b,d,e⟩:=List.mem_filterMap.mp a
 cases q:h.get? b with
 |none=>rw[q] at e;cases e
 | some o=>
   rw[q] at e
   have c:(b,o)=p:=QdQ e
   subst c
   exact⟨d,q⟩
def Inv.pinned{a:List (Addr×Obj)}{f:St}{H:Hp}{s:Shared}{fp:List Addr}(I:Inv X a f H s)(j:∀b∈fp,qU X a H b)(h:∀b∈fp,∃o,s.heap.get? b=some o/\∀v,o.data≠.cell v):Inv X (a++nO fp s.heap) f H s:=
 I.pins_of λp k=>(mQa.mp k).elim (λz=>I.pin p (Qoq _ z)) λz=>by
  obtain⟨g,e⟩:=Ep z
  obtain⟨i,m,l,_⟩:=j p.1 g
  obtain⟨o,c,d⟩:=h p.1 g
  rw[e] at c;cases c
  exact⟨e,i,m,l,d⟩
def Inv.unpinned{a d:List (Addr×Obj)}{b:St}{H:Hp}{s:Shared}(I:Inv X (a++d) b H s):Inv X a b H s:=I.pins_of λp c=>I.pin p (Qoq _ (List.mem_append_left _ c))
def JS{j:Expr}{B:List Stmt}{wi:TI}{g:TG}{tb:TS}{pos:Pos}(K:PassesOwn (model X.prog X.w) X.A X.env X.xe)(hc:X.calm=true)(hi:PI X tg j wi)(hg:PG X tg g)(p:uc X B tb)
  (hs:∀x,foldedSetIterable j X.env x=pure x:=by intro _;rfl):PS X (.For tg j B [] pos) (NN wi g tb):=by
 intro c s σ H D I h
 refine wpAny_For (df (hi c s σ H _ I h) λv s1 h1=>df h1 λa2 s2 h2=> ?_) hs
 obtain⟨it,S,tn,J,H2,e,I2,T,U,f2,W,⟨m0,w0⟩,L⟩:=h2
 subst e
 have t:∀{z:Hp},(∀b∈S,z b=none)->∀b∈S,qU X c z b:=λhn b p=>⟨hn b p,(f2 b p).2⟩
 refine codeAny_forLoop_any (λn s'=>∃i k z,Inv X c k z s'/\tn i s'.heap/\(∀b∈S,z b=none)/\W i n k z) ?_ m0 ⟨0,σ,H2,I2,U,λb p=>(f2 b p).1,w0⟩
 rintro n s3 ⟨i,y,H3,I3,R,M,w3⟩
 rcases L i n y H3 w3 with⟨stop,qn⟩|⟨go,N,hN,P⟩
 ·refine wpAny_passesOwn K (df (T.done X rfl rfl rfl hc i c s3 y H3 X.xe I3 (t M) R stop) λr s4 F=> ?_)
  obtain⟨Y,I4⟩:=F
  subst Y
  exact wpAny_execs_nil ⟨y,H3,I4,qn⟩
 ·refine wpAny_passesOwn K (df (T.item X rfl rfl rfl hc i c s3 y H3 X.xe I3 (t M) R go) λr s4 F=> ?_)
  obtain⟨u,Y,h4⟩:=F
  subst Y
  refine wpAny_passesOwn K (df h4 λ_ s5 F=> ?_)
  obtain⟨x,H5,I5,r5,y5,G,a0⟩:=F
  have Z:=I5.pinned (t a0) (T.obj _ _ G)
  refine wpAny_passesOwn K (df (hg _ s5 y H5 x u _ Z r5 (P x H5 y5)) λ_ s6 F=> ?_)
  obtain⟨a1,H6,I6,q6⟩:=F
  refine wpAny_passesOwn K (df (p _ s6 a1 H6 _ I6 q6) λf s7 C=> ?_)
  have again:∀{a:St} {l:Hp},Inv X (c++nO S s5.heap) a l s7->N a l->∃m,m<n/\∃i k z,Inv X c k z s7/\tn i s7.heap/\(∀b∈S,z b=none)/\W i m k z:=λ{a l} q Q=>by
   obtain⟨m',hm,w7⟩:=hN a l Q
   refine⟨m',hm,i+1,a,l,q.unpinned,T.keep _ _ _ G λb p o e=>(q.pin (b,o) (Qoq _ (Qoq _ (dw p e)))).1,λb p=> ?_,w7⟩
   obtain⟨o,e,d⟩:=T.obj _ _ G b p
   exact(q.pin (b,o) (Qoq _ (Qoq _ (dw p e)))).2.1
  cases f with
  |next=>obtain⟨a,l,q,Q⟩:=C;exact again q Q
  |cont=>obtain⟨a,l,q,Q⟩:=C;exact again q Q
  |brk=>obtain⟨a,l,q,C⟩:=C;exact⟨a,l,q.unpinned,C⟩
  |ret v=>obtain⟨x7,a,l,q,r7,C⟩:=C;exact⟨x7,a,l,q.unpinned,r7,C⟩
end
abbrev R2:=V->V->Hp->VK->Prop
def jF(X:Cx)(f:Value->Value->Sem Value)(r:R2):Prop:=
 ∀ (a:List (Addr×Obj)) (s:Shared) (b:St) (H:Hp) (x y:V) (v u:Value) (Q:VK),Inv X a b H s->RelV x v->RelV y u->r x y H Q→
   wpAny (model X.prog X.w) X.A (f v u) (EP X a b Q) X.xe s
def Of(X:Cx)(f:Value->Sem Value)(r:V->Hp->VK->Prop):Prop:=
 ∀ (a:List (Addr×Obj)) (s:Shared) (b:St) (H:Hp) (x:V) (v:Value) (Q:VK),Inv X a b H s->RelV x v->r x H Q→
   wpAny (model X.prog X.w) X.A (f v) (EP X a b Q) X.xe s
def gP(X:Cx)(f:Value)(r:List V->Hp->VK->Prop):Prop:=
 ∀ (a:List (Addr×Obj)) (s:Shared) (d:St) (H:Hp) (c:List V) (b:List Value) (Q:VK),Inv X a d H s->bM c b->r c H Q→
   wpAny (model X.prog X.w) X.A (call f b) (EP X a d Q) X.xe s
def Ob(X:Cx)(r:V->Hp->(Bool->Hp->Prop)->Prop):Prop:=
 ∀ (a:List (Addr×Obj)) (s:Shared) (b:St) (H:Hp) (x:V) (v:Value) (Q:Bool->Hp->Prop),Inv X a b H s->RelV x v->r x H Q→
   wpAny (model X.prog X.w) X.A (truthy v) (TP X a b Q) X.xe s
def Gx(r:R2)(c b:TE):TE:=λa H Q=>c a H λx H1=>b a H1 λy H2=>r x y H2 Q
def OZ(r:V->Hp->VK->Prop)(b:TE):TE:=λa H Q=>b a H λx H1=>r x H1 Q
def rI(C:Int->Int->Prop)(g:Int->Int->V):R2:=λx y H Q=>∃i j,x=.int i/\y=.int j/\C i j/\Q (g i j) H
def Er(g:Int->Int->V):R2:=λx y H Q=>∃i j,x=.int i/\y=.int j/\Q (g i j) H
def rU(g:Int->V):V->Hp->VK->Prop:=λx H Q=>∃i,x=.int i/\Q (g i) H
section
variable{X:Cx}{a b c:Expr}{ta tb tc:TE}{pos:Pos}
def Kp(p:PE X a ta)(q:PE X b tb){d:List (Addr×Obj)}{s:Shared}{e:St}{H:Hp}{R:V->V->Hp->Prop}(I:Inv X d e H s)
  (h:ta e H λx H1=>tb e H1 λy H2=>R x y H2) {Q:Value->Shared->Prop} {f:Value->Value->Sem Value}
  (l:∀v u j x y H2,Inv X d e H2 j->RelV x v->RelV y u->R x y H2->wpAny (model X.prog X.w) X.A (f v u) Q X.xe j):
  wpAny (model X.prog X.w) X.A (eval a X.env) (λv g=>wpAny (model X.prog X.w) X.A (eval b X.env) (λu i=>wpAny (model X.prog X.w) X.A (f v u) Q X.xe i) X.xe g) X.xe s:=by
 refine df (p d s e H _ I h) λv r k=> ?_
 obtain⟨x,H1,m,n,o⟩:=k
 refine df (q d r e H1 _ m o) λu j k=> ?_
 obtain⟨y,H2,z,t,B⟩:=k
 exact l v u j x y H2 z n t B
def rE{e:Operator}{r:R2}(f:jF X (binaryOp e) r)(i:PE X a ta)(l:PE X b tb):PE X (.BinOp a e b pos) (Gx r ta tb):=by
 intro d s k H Q I h
 exact wpAny_BinOp (Kp i l I h λv u j x y H2 m g n q=>f d j k H2 x y v u Q m g n q)
def L3{f:UnaryOp}{r:V->Hp->VK->Prop}(k:Of X (unaryOp f) r)(l:PE X a ta):PE X (.UnaryOp f a pos) (OZ r ta):=by
 intro d s e H Q I h
 exact UnaryOp_ (df (l d s e H _ I h) λv j ⟨x,H1,m,g,i⟩=>k d j e H1 x v Q m g i)
def M4{f:Value->Value->Sem Value}{C:Int->Int->Prop}{g:Int->Int->Int}
  (d:∀(i j:Int) (t u:Tok) (s:Shared) (Q:Value->Shared->Prop) (E:Value->Shared->Prop),C i j->Q (.int (g i j) s.toks) {s with toks:=s.toks+1}->wpAny (model X.prog X.w) X.A (f (.int i t) (.int j u)) Q E s):
  jF X f (rI C λi j=>.int (g i j)):=by
 intro e s n H x y v u Q I k m h
 obtain⟨i,j,rfl,rfl,hc,q⟩:=h
 obtain⟨t,rfl⟩:=k
 obtain⟨l,rfl⟩:=m
 exact d i j t l s _ _ hc ⟨.int (g i j),H,I.tok _,⟨_,rfl⟩,q⟩
def Mw{f:Value->Value->Sem Value}{g:Int->Int->Int}
  (d:∀(i j:Int) (t u:Tok) (s:Shared) (Q:Value->Shared->Prop) (E:Value->Shared->Prop),Q (.int (g i j) s.toks) {s with toks:=s.toks+1}->wpAny (model X.prog X.w) X.A (f (.int i t) (.int j u)) Q E s):
  jF X f (Er λi j=>.int (g i j)):=by
 intro e s n H x y v u Q I k m h
 obtain⟨i,j,rfl,rfl,q⟩:=h
 obtain⟨t,rfl⟩:=k
 obtain⟨l,rfl⟩:=m
 exact d i j t l s _ _ ⟨.int (g i j),H,I.tok _,⟨_,rfl⟩,q⟩
def Hh{f:Value->Value->Sem Value}{g:Int->Int->Bool}
  (d:∀(i j:Int) (t u:Tok) (s:Shared) (Q:Value->Shared->Prop) (E:Value->Shared->Prop),Q (.bool (g i j)) s->wpAny (model X.prog X.w) X.A (f (.int i t) (.int j u)) Q E s):
  jF X f (Er λi j=>.bl (g i j)):=by
 intro e s n H x y v u Q I k m h
 obtain⟨i,j,rfl,rfl,q⟩:=h
 obtain⟨t,rfl⟩:=k
 obtain⟨l,rfl⟩:=m
 exact d i j t l s _ _ ⟨.bl (g i j),H,I,rfl,q⟩
def Fg(i j:Int):Prop:=0<j/\j<1073741824
def GQ(i j:Int):Prop:=0<=j/\j<=1000000/\i.natAbs<2^64
def Ik(i j:Int):Prop:=(-(2^64)<i/\i<2^64)\/(-(2^64)<j/\j<2^64)
def Ik.ok{i j:Int}(h:Ik i j):IntMulOk i j:=by
 rcases h with⟨e,d⟩|⟨e,d⟩
 ·exact .of_left (intBits_le_64 e d)
 ·exact .of_right (intBits_le_64 e d)
def K3:jF X (binaryOp .Add) (Er λi j=>.int (i+j)):=Mw λ_ _ _ _ _ _ _ q=>add_int q
def Kz:jF X (binaryOp .Sub) (Er λi j=>.int (i-j)):=Mw λ_ _ _ _ _ _ _ q=>sub_int q
def Ic:jF X (binaryOp .FloorDiv) (rI Fg λi j=>.int (i/j)):=M4 λi j _ _ _ _ _ d q=>by
 have f:(0:Int)<j:=d.1
 have e:j<1073741824:=d.2
 exact floordiv_int (by omega) (by rw[Int.fdiv_eq_ediv_of_nonneg i (by omega)];exact q) (.inl (PyProof.noPylong_small (by omega)))
def J1:jF X (binaryOp .Mod) (rI (λ_ j=>0<j) λi j=>.int (i%j)):=M4 λi j _ _ _ _ _ d q=>by
 have e:(0:Int)<j:=d
 exact mod_int' (by omega) (by rw[Int.fmod_eq_emod_of_nonneg i (by omega)];exact q)
def JZ:jF X (binaryOp .Pow) (rI GQ λi j=>.int (i^j.toNat)):=M4 λ_ _ _ _ _ _ _ d q=>pow_int_small d.1 d.2.1 d.2.2 q
def O_{f:Value->Sem Value}{g:Int->Int}
  (d:∀(i:Int) (t:Tok) (s:Shared) (Q:Value->Shared->Prop) (E:Value->Shared->Prop),Q (.int (g i) s.toks) {s with toks:=s.toks+1}->wpAny (model X.prog X.w) X.A (f (.int i t)) Q E s):
  Of X f (rU λi=>.int (g i)):=by
 intro e s k H x v Q I j h
 obtain⟨i,rfl,q⟩:=h
 obtain⟨t,rfl⟩:=j
 exact d i t s _ _ ⟨.int (g i),H,I.tok _,⟨_,rfl⟩,q⟩
def KY:Of X (unaryOp .USub) (rU λi=>.int (-i)):=O_ λ_ _ _ _ _ q=>neg_int q
end
def Be:V->V->Bool
 |.non,.non=>true|.non,.int _=>true|.int _,.non=>true|.non,.bl _=>true|.bl _,.non=>true|.non,.str _=>true|.str _,.non=>true
 |.int _,.int _=>true|.bl _,.bl _=>true|.str _,.str _=>true|.byt _,.byt _=>true
 |.int _,.str _=>true|.str _,.int _=>true|.bl _,.str _=>true|.str _,.bl _=>true
 |_,_=>false
def Os:R2:=λx y H Q=>Be x y=true/\Q (.bl (decide (x=y))) H
def Ou:R2:=λx y H Q=>Be x y=true/\Q (.bl (!decide (x=y))) H
def CJ{i j:Int}:decide (V.int i=V.int j)=(i==j):=by
 rw[Bool.eq_iff_iff]
 simp
def Fz{i j:Bool}:decide (V.bl i=V.bl j)=(i==j):=by
 rw[Bool.eq_iff_iff]
 simp
def Dy{i j:Str}:decide (V.str i=V.str j)=(i==j):=by
 rw[Bool.eq_iff_iff]
 simp
def C9{i j:Array UInt8}:decide (V.byt i=V.byt j)=(i.toList==j.toList):=by
 rw[Bool.eq_iff_iff]
 cases i
 cases j
 simp
section
variable{X:Cx}{a b c:Expr}{ta tb tc:TE}{pos:Pos}
def cm{d:List (Addr×Obj)}{f:St}{H:Hp}{s:Shared}{Q:VK}{k g:Bool}(I:Inv X d f H s)(q:Q (.bl k) H)(e:k=g):EP X d f Q (.bool g) s:=by
 subst e
 exact⟨.bl k,H,I,rfl,q⟩
def AW:jF X (compareOp .Eq) Os:=by
 intro k s l H x y v u Q I g d h
 obtain⟨f,q⟩:=h
 cases x with
 | non=>
   cases g
   cases y with
   |non=>cases d;exact PySem.EqNone.eq_none_none (cm I q (by simp))
   |bl j=>cases d;exact PySem.EqNone.eq_none_bool (cm I q (by simp))
   |int j=>obtain⟨e,rfl⟩:=d;exact PySem.EqNone.eq_none_int (cm I q (by simp))
   |str j=>obtain⟨e,rfl⟩:=d;exact PySem.EqNone.eq_none_str (cm I q (by simp))
   |_=>exact absurd (show false=true from f) Qtq
 | bl i=>
   cases g
   cases y with
   |non=>cases d;exact PySem.EqNone.eq_bool_none (cm I q (by simp))
   |bl j=>cases d;exact eq_bool (cm I q Fz)
   |str j=>obtain⟨e,rfl⟩:=d;exact PySem.EqMixed.eq_bool_str (cm I q (by simp))
   |_=>exact absurd (show false=true from f) Qtq
 | int i=>
   obtain⟨t,rfl⟩:=g
   cases y with
   |non=>cases d;exact PySem.EqNone.eq_int_none (cm I q (by simp))
   |int j=>obtain⟨e,rfl⟩:=d;exact eq_int (cm I q CJ)
   |str j=>obtain⟨e,rfl⟩:=d;exact PySem.EqMixed.eq_int_str (cm I q (by simp))
   |_=>exact absurd (show false=true from f) Qtq
 | str i=>
   obtain⟨t,rfl⟩:=g
   cases y with
   |non=>cases d;exact PySem.EqNone.eq_str_none (cm I q (by simp))
   |bl j=>cases d;exact PySem.EqMixed.eq_str_bool (cm I q (by simp))
   |int j=>obtain⟨e,rfl⟩:=d;exact PySem.EqMixed.eq_str_int (cm I q (by simp))
   |str j=>obtain⟨e,rfl⟩:=d;exact eq_str (cm I q Dy)
   |_=>exact absurd (show false=true from f) Qtq
 | byt i=>
   obtain⟨t,rfl⟩:=g
   cases y with
   |byt j=>obtain⟨e,rfl⟩:=d;exact PySem.W.eq_bytes (cm I q C9)
   |_=>exact absurd (show false=true from f) Qtq
 |_=>cases y <;>exact absurd (show false=true from f) Qtq
def OB:jF X (compareOp .NotEq) Ou:=by
 intro k s l H x y v u Q I g d h
 obtain⟨f,q⟩:=h
 cases x with
 | non=>
   cases g
   cases y with
   |non=>cases d;exact PySem.EqNone.ne_none_none (cm I q (by simp))
   |bl j=>cases d;exact PySem.EqNone.ne_none_bool (cm I q (by simp))
   |int j=>obtain⟨e,rfl⟩:=d;exact PySem.EqNone.ne_none_int (cm I q (by simp))
   |str j=>obtain⟨e,rfl⟩:=d;exact PySem.EqNone.ne_none_str (cm I q (by simp))
   |_=>exact absurd (show false=true from f) Qtq
 | bl i=>
   cases g
   cases y with
   |non=>cases d;exact PySem.EqNone.ne_bool_none (cm I q (by simp))
   |bl j=>cases d;exact ne_bool (cm I q (congrArg not Fz))
   |str j=>obtain⟨e,rfl⟩:=d;exact PySem.EqMixed.ne_bool_str (cm I q (by simp))
   |_=>exact absurd (show false=true from f) Qtq
 | int i=>
   obtain⟨t,rfl⟩:=g
   cases y with
   |non=>cases d;exact PySem.EqNone.ne_int_none (cm I q (by simp))
   |int j=>obtain⟨e,rfl⟩:=d;exact ne_int (cm I q (congrArg not CJ))
   |str j=>obtain⟨e,rfl⟩:=d;exact PySem.EqMixed.ne_int_str (cm I q (by simp))
   |_=>exact absurd (show false=true from f) Qtq
 | str i=>
   obtain⟨t,rfl⟩:=g
   cases y with
   |non=>cases d;exact PySem.EqNone.ne_str_none (cm I q (by simp))
   |bl j=>cases d;exact PySem.EqMixed.ne_str_bool (cm I q (by simp))
   |int j=>obtain⟨e,rfl⟩:=d;exact PySem.EqMixed.ne_str_int (cm I q (by simp))
   |str j=>obtain⟨e,rfl⟩:=d;exact ne_str (cm I q (congrArg not Dy))
   |_=>exact absurd (show false=true from f) Qtq
 | byt i=>
   obtain⟨t,rfl⟩:=g
   cases y with
   |byt j=>obtain⟨e,rfl⟩:=d;exact PySem.W.ne_bytes (cm I q (congrArg not C9))
   |_=>exact absurd (show false=true from f) Qtq
 |_=>cases y <;>exact absurd (show false=true from f) Qtq
def GA:jF X (compareOp .Lt) (Er λi j=>.bl (decide (i<j))):=Hh λ_ _ _ _ _ _ _ q=>lt_int q
def Jo:jF X (compareOp .LtE) (Er λi j=>.bl (decide (i<=j))):=Hh λ_ _ _ _ _ _ _ q=>le_int q
def Lm:jF X (compareOp .Gt) (Er λi j=>.bl (decide (j<i))):=Hh λ_ _ _ _ _ _ _ q=>gt_int q
def OJ:jF X (compareOp .GtE) (Er λi j=>.bl (decide (j<=i))):=Hh λ_ _ _ _ _ _ _ q=>ge_int q
def NO:jF X (compareOp .Is) (λx y H Q=>y=.non/\Q (.bl (decide (x=.non))) H):=by
 intro e s g H x y v u Q I d f h
 obtain⟨rfl,q⟩:=h
 cases f
 refine is_none_gen (cm I q ?_)
 cases x <;>first
  |(cases d;rfl)
  |(obtain⟨t,rfl⟩:=d;rfl)
def jF.or{f:Value->Value->Sem Value}{r j:R2}(h:jF X f r)(h':jF X f j):jF X f (λx y H Q=>r x y H Q\/j x y H Q):=by
 intro d s g H x y v u Q I e i q
 rcases q with q|q
 ·exact h d s g H x y v u Q I e i q
 ·exact h' d s g H x y v u Q I e i q
def dQ(b:Expr){d:CmpOp}(h:d≠.In:=by decide)(e:d≠.NotIn:=by decide):behindInMarks d b=false:=by
 have f:(d==CmpOp.In)=false:=by cases d <;>first|rfl|exact absurd rfl h
 have g:(d==CmpOp.NotIn)=false:=by cases d <;>first|rfl|exact absurd rfl e
 cases b <;>simp[behindInMarks,f,g]
def yh{e:CmpOp}{r:R2}(f:jF X (compareOp e) r)(i:PE X a ta)(l:PE X b tb)(n:behindInMarks e b=false):PE X (.Compare a [e] [b] pos) (Gx r ta tb):=by
 intro d s k H Q I h
 exact wpAny_Compare1 (Kp i l I h λv u j x y H2 m g o q=>f d j k H2 x y v u Q m g o q) n
def FQ(t:TE):TT:=λe H Q=>t e H λx d=>∃k,x=.bl k/\Q k d
def kC{f:CmpOp}{r:R2}(j:jF X (compareOp f) r)(p:PE X a ta)(w:PE X b tb)(F:behindInMarks f b=false):PT X (.Compare a [f] [b] pos) (FQ (Gx r ta tb)):=by
 intro d s g H Q I h
 refine wpAny_isTrue_Compare1 (df (p d s g H _ I h) λv A ⟨x,H1,l,m,o⟩=>df (w d A g H1 _ l o) λu q ⟨y,H2,C,B,G⟩=>
  df (j d q g H2 x y v u _ C m B G) λc J ⟨z,H3,i,n,k,e,t⟩=> ?_) F
 subst e
 cases n
 exact wpAny_truthy_bool ⟨H3,i,t⟩
def K0(K:PySem.W.Frag)(x:V)(H:Hp)(k:Bool):Prop:=
 match x with
 |.non=>k=false
 |.bl b=>k=b
 |.int i=>k=(i !=0)
 |.str y=>y.length<=sizeLine/\k=((y.length:Int) !=0)
 |.byt y=>y.size<=sizeLine/\k=((y.size:Int) !=0)
 |.ref p=>(∃e,iX K H p e/\k= !e.isEmpty)\/(∃e,gW K H p e/\k= !e.isEmpty)\/∃d,H p=some (.dK d)/\k= !d.isEmpty
 |_=>False
def Bs{κ:Type}{kvs:List (κ×V)}{vs:List (κ×Value)}(r:KV kvs vs):(!vs.isEmpty)= !kvs.isEmpty:=by
 cases r <;>rfl
def uM{xs:List V}{d:List Value}(r:bM xs d):(!d.toArray.isEmpty)= !xs.isEmpty:=by
 cases r <;>simp
def lj:(sizeLine:Nat)<2^63:=by rw[sizeLine_eq];decide
def K2:Ob X (λx H Q=>∃k,K0 X.K x H k/\Q k H):=by
 intro A s J H x v Q I l h
 obtain⟨k,e,q⟩:=h
 have hl:=lj
 have G:sizeLine=16777216:=sizeLine_eq
 cases x with
 | non=>
   cases l
   have d:k=false:=e
   subst d
   exact truthy_none ⟨H,I,q⟩
 | bl b=>
   cases l
   have d:k=b:=e
   subst d
   exact wpAny_truthy_bool ⟨H,I,q⟩
 | int i=>
   obtain⟨t,rfl⟩:=l
   have d:k=(i !=0):=e
   subst d
   exact PySem.P.truthy_int ⟨H,I,q⟩
 | str y=>
   obtain⟨t,rfl⟩:=l
   obtain⟨C,d⟩:y.length<=sizeLine/\k=((y.length:Int) !=0):=e
   subst d
   exact PySem.P.truthy_str (by omega) ⟨H,I.tok _,q⟩
 | byt y=>
   obtain⟨t,rfl⟩:=l
   obtain⟨C,d⟩:y.size<=sizeLine/\k=((y.size:Int) !=0):=e
   subst d
   exact PySem.W.truthy_bytes (by omega) ⟨H,I.tok _,q⟩
 | ref p=>
   cases l
   have d:(∃j,iX X.K H p j/\k= !j.isEmpty)\/(∃j,gW X.K H p j/\k= !j.isEmpty)\/∃f,H p=some (.dK f)/\k= !f.isEmpty:=e
   rcases d with⟨j,n,d⟩|⟨j,n,d⟩|⟨f,n,d⟩
   · subst d
     obtain⟨u,r,z,B⟩:=I.list n
     have g:=r.length
     exact wpAny_truthy_list z.isList (by simp only[Qjq];omega) ⟨H,I.tok _,by rw[uM r];exact q⟩
   · subst d
     obtain⟨u,r,z,B⟩:=I.tuple n
     have g:=r.length
     exact truthy_tuple z (by simp only[Qjq];omega) ⟨H,I.tok _,by rw[uM r];exact q⟩
   · subst d
     obtain⟨B,F,o,r,m⟩:f.length<=sizeLine/\(p==sysModules)=false/\∃o,KV f o/\s.heap.DictOf (bZ X.prog X.w) p o:=I.hok p _ n
     have g:f.length=o.length:=Paired.length r
     exact wpAny_truthy_dict F m (by omega) ⟨H,I.tok _,by rw[Bs r];exact q⟩
 |_=>exact(show False from e).elim
def GH(m:PE X a ta)(he:∀d,isTrue a X.env d=(do let v←d;standAt a.pos;holding [v] (truthy v))):
  PT X a (λf H Q=>ta f H λx g=>∃k,K0 X.K x g k/\Q k g):=by
 intro e s f H Q I h
 exact isTrue_plain (df (m e s f H _ I h) λv n ⟨x,H1,i,j,l⟩=>K2 e n f H1 x v Q i j l) (he _)
def BA:jF X (binaryOp .Add) (λx y H Q=>∃i j,x=.str i/\y=.str j/\i.length+j.length<=sizeLine/\Q (.str (i++j)) H):=by
 intro d s l H x y v u Q I e g h
 obtain⟨i,j,rfl,rfl,hz,q⟩:=h
 obtain⟨t,rfl⟩:=e
 obtain⟨f,rfl⟩:=g
 exact add_str (λf k=>⟨.str (i++j),H,I.tok _,⟨_,rfl⟩,q⟩) hz
def vals1{x:V}{d:List Value}(r:bM [x] d):∃u,d= [u]/\RelV x u:=by
 cases r with
 |cons e f=>cases f;exact⟨_,rfl,e⟩
def vals2{x y:V}{d:List Value}(r:bM [x,y] d):∃u e,d= [u,e]/\RelV x u/\RelV y e:=by
 cases r with
 | cons f g=>
   cases g with
   |cons h i=>cases i;exact⟨_,_,rfl,f,h⟩
def La(f:X.calm=true):gP X (.builtin "max") (λxs H Q=>∃i j,xs= [.int i,.int j]/\Q (.int (if j>i then j else i)) H):=by
 intro e s o H xs n Q I r h
 obtain⟨i,j,rfl,q⟩:=h
 obtain⟨u,l,rfl,⟨t,rfl⟩,⟨t',rfl⟩⟩:=vals2 r
 refine max_two_ints (I.ok.hd f) λm g k=>⟨_,H,I.kept k,?_,q⟩
 by_cases d:j>i
 ·rw[Qhq d,Qhq d];exact⟨_,rfl⟩
 ·rw[Quq d,Quq d];exact⟨_,rfl⟩
def Lh(f:X.calm=true):gP X (.builtin "min") (λxs H Q=>∃i j,xs= [.int i,.int j]/\Q (.int (if j<i then j else i)) H):=by
 intro e s o H xs n Q I r h
 obtain⟨i,j,rfl,q⟩:=h
 obtain⟨u,l,rfl,⟨t,rfl⟩,⟨t',rfl⟩⟩:=vals2 r
 refine min_two_ints (I.ok.hd f) λm g k=>⟨_,H,I.kept k,?_,q⟩
 by_cases d:j<i
 ·rw[Qhq d,Qhq d];exact⟨_,rfl⟩
 ·rw[Quq d,Quq d];exact⟨_,rfl⟩
def K7:gP X (.type "int") (λxs H Q=>(∃i,xs= [.int i]/\Q (.int i) H)\/∃k,xs= [.bl k]/\Q (.int (if k then 1 else 0)) H):=by
 intro d s f H xs e Q I r h
 rcases h with⟨i,rfl,q⟩|⟨k,rfl,q⟩
 ·obtain⟨u,rfl,t,rfl⟩:=vals1 r
  exact call_int_int ⟨.int i,H,I,⟨_,rfl⟩,q⟩
 ·obtain⟨u,rfl,r1⟩:=vals1 r
  cases r1
  exact call_int_bool ⟨.int (if k then 1 else 0),H,I.tok _,⟨_,rfl⟩,q⟩
end
structure Jt(h:Heap)(x dx C:Addr)(mA:Str->Option Value):Prop where
 obj:h.get? x=some (PySem.W.instObj C dx)
 ns:h.Ns1 dx mA
 ne:dx≠x
def EH{h:Heap}{f:Addr}{c:Str->Option Value}(n:h.Ns1 f c):∃d,h.get? f=some d/\∀name,PySem.W.lookIn name d=some (c name):=by
 obtain⟨o,g,r,j,k,m,_,p⟩:=n
 refine⟨o,j,λname=> ?_⟩
 have e:=p name
 unfold nsFind findBy at e
 rw[←Array.find?_toList] at e
 unfold PySem.W.lookIn
 rw[k]
 dsimp only
 split
 ·rename_i y q
  rw[q] at e
  exact congrArg some e
 ·rename_i q
  rw[q] at e
  have a:g.toList.any (·.refKey)=false:=by
   rw[List.any_eq_false]
   intro y l
   obtain⟨z,t,b⟩:=m y (Array.mem_toList_iff.mp l)
   simp[DictEntry.refKey,b]
  have i:¬g.toList.any (·.refKey)=true:=by rw[a];exact Qtq
  rw[Quq i]
  exact congrArg some e
def Jt.look{h:Heap}{x c C:Addr}{b:Str->Option Value}(I:Jt h x c C b):∃a,PySem.W.InstAt h x (PySem.W.instObj C c) C (some a)/\∀name,PySem.W.lookIn name a=some (b name):=
 let ⟨a,ho,hl⟩:=EH I.ns
 ⟨a,⟨I.obj,rfl,rfl,ho⟩,hl⟩
def tW.some_of{v:V}{o:Option Value}(r:tW (some v) o):∃u,o=some u/\RelV v u:=by
 cases o with
 |none=>exact(show False from r).elim
 |some u=>exact⟨u,rfl,r⟩
section
variable{P:Program}{w:World}{H H':Hp}{h h':Heap}{a C dx:Addr}{fs fs':List (Str×V)}
def HU(c:oz P w H h)(e:H a=some (.ins C dx fs)):∃b,Jt h a dx C b/\(∀f,tW (fs.lookup f) (b f))/\PySem.Within b (fs.map (·.1))/\fs.length<=1000/\H dx=some (.own a):=by
 obtain⟨d,z,g,i,b,n,r,q⟩:=(show cZ P w H h a (.ins C dx fs) from c a _ e)
 exact⟨b,⟨i,n,g⟩,r,q,z,d⟩
end
structure N2(K:PySem.W.Frag)(C:Addr):Prop where
 pg:PySem.W.plainGet K C Str.empty=true
 hd:PySem.W.hasDictIn K C=true
 po:PySem.W.plainOver K C=true
 sa:PySem.W.findIn K (.ref C) "__setattr__"=some (some (.builtin "object.__setattr__"))
def N2.get{K:PySem.W.Frag}{C:Addr}(c:N2 K C)(f:Str):PySem.W.plainGet K C f=true:=c.pg
section
variable{X:Cx}{pins:List (Addr×Obj)}{σ:St}{H:Hp}{s:Shared}{A:Around}{E:Value->Shared->Prop}{Q:Value->Shared->Prop}{c:Value}{b:Bool}
inductive qw(K:PySem.W.Frag)(H:Hp):V->Value->Prop where
 |non:qw K H .non (.type "NoneType")
 |bl (x:Bool):qw K H (.bl x) (.type "bool")
 |int (i:Int):qw K H (.int i) (.type "int")
 |str (x:Str):qw K H (.str x) (.type "str")
 |flt (x:UInt64):qw K H (.flt x) (.type "float")
 |lst {a:Addr} {xs:List V} (e:H a=some (.lst xs)):qw K H (.ref a) (.type "list")
 |frz {a:Addr} {o:Obj} {xs:List V} (e:H a=some (.frz o (.lst xs))):qw K H (.ref a) (.type "list")
 |tup {a:Addr} {xs:List V} (e:H a=some (.tup xs)):qw K H (.ref a) (.type "tuple")
 |dK {a:Addr} {kvs:List (Key×V)} (e:H a=some (.dK kvs)):qw K H (.ref a) (.type "dict")
 |dT {a:Addr} {kvs:List (List Key×V)} (e:H a=some (.dT kvs)):qw K H (.ref a) (.type "dict")
 |ins {a C dx:Addr} {fs:List (Str×V)} (e:H a=some (.ins C dx fs)) (cl:N2 K C) (ha:PySem.W.findIn K (.ref C) "__class__"=some (some (.builtin "object.__class__")))
   (hn:PySem.W.specialIn K (.builtin "object.__class__") "__get__"=some (some (.builtin "getset_descriptor.__get__"))) (htk:PySem.W.takesIn K (.builtin "object.__class__")=some true)
   (hm:PySem.W.mroIn K C (.type "object")=some true):qw K H (.ref a) (.ref C)
def ED{x:V}{u t:Value}(I:Inv X pins σ H s)(d:RelV x u)(l:qw X.K H x t)(e:PySem.W.kitOne X.K t c=some b)(h:∀k,Q (.bool b) {s with toks:=k}):
  wpAny (model X.prog X.w) A (call (.builtin "isinstance") [u,c]) Q E s:=by
 cases l with
 |non=>cases (show u=Value.none from d);exact PySem.W.kia_one PySem.W.kitx_none I.kIn True.intro e (λz=>nomatch z) h
 |bl y=>cases (show u=Value.bool y from d);exact PySem.W.kia_one PySem.W.kitx_bool I.kIn True.intro e (λz=>nomatch z) h
 |int i=>obtain⟨t,q⟩:=(show∃t,u=Value.int i t from d);cases q;exact PySem.W.kia_one PySem.W.kitx_int I.kIn True.intro e (λz=>nomatch z) h
 |str y=>obtain⟨t,q⟩:=(show∃t,u=Value.str y t from d);cases q;exact PySem.W.kia_one PySem.W.kitx_str I.kIn True.intro e (λz=>nomatch z) h
 |flt y=>obtain⟨t,q⟩:=(show∃t,u=Value.float y t from d);cases q;exact PySem.W.kia_one PySem.W.kitx_float I.kIn True.intro e (λz=>nomatch z) h
 | @lst a g ea=>
   cases (show u=Value.ref a from d)
   obtain⟨_,_,n,_,f⟩:=(show cZ X.prog X.w H s.heap a (.lst g) from I.hok a _ ea)
   exact PySem.W.kia_one PySem.W.kitx_list I.kIn ⟨_,f,rfl⟩ e (λz=>nomatch z) h
 | @frz a ob g ea=>
   cases (show u=Value.ref a from d)
   obtain⟨_,_,_,n,_,f⟩:=(show cZ X.prog X.w H s.heap a (.frz ob (.lst g)) from I.hok a _ ea)
   exact PySem.W.kia_one PySem.W.kitx_list I.kIn ⟨_,f,rfl⟩ e (λz=>nomatch z) h
 | @tup a g ea=>
   cases (show u=Value.ref a from d)
   obtain⟨_,_,_,p⟩:=(show cZ X.prog X.w H s.heap a (.tup g) from I.hok a _ ea)
   obtain⟨o,f,j,_⟩:=p
   exact PySem.W.kia_one PySem.W.kitx_tuple I.kIn ⟨o,f,j⟩ e (λz=>nomatch z) h
 | @dK a kvs ea=>
   cases (show u=Value.ref a from d)
   obtain⟨_,_,v,_,p⟩:=(show cZ X.prog X.w H s.heap a (.dK kvs) from I.hok a _ ea)
   obtain⟨o,r,m,f,j,_⟩:=p
   exact PySem.W.kia_one PySem.W.kitx_dict I.kIn ⟨o,f,j.1⟩ e (λz=>nomatch z) h
 | @dT a kvs ea=>
   cases (show u=Value.ref a from d)
   obtain⟨_,_,g,_,o,r,m,f,j,_⟩:=(show cZ X.prog X.w H s.heap a (.dT kvs) from I.hok a _ ea)
   exact PySem.W.kia_one PySem.W.kitx_dict I.kIn ⟨o,f,j.1⟩ e (λz=>nomatch z) h
 | @ins a C dx fs ea cl ha hn htk hm=>
   cases (show u=Value.ref a from d)
   obtain⟨B,O,_⟩:=HU I.hok ea
   obtain⟨F,J,_⟩:=O.look
   exact PySem.W.kia_one (PySem.W.kitx_own (cl.get _) cl.hd ha hn htk hm) I.kIn J e (λz=>nomatch z) h
end
structure er(k:Nat)(A:Around):Prop where
 hd:A.handled=none
 dp:A.depth+3*k+5<recursionLimit
 un:A.units+16*k+200<cLine
def er.mono{j k:Nat}{A:Around}(r:er k A)(h:j<=k):er j A:=⟨r.hd,by have:=r.dp;omega,by have:=r.un;omega⟩
def er.deeper{k:Nat}{A:Around}(r:er (k+1) A)(env:Env):er k (A.deeper env):=
 ⟨r.hd,by have:=r.dp;show A.depth+1+3*k+5<_;omega,by have:=r.un;show A.units+3+16*k+200<_;omega⟩
def er.depth{k:Nat}{A:Around}(r:er k A):A.depth<recursionLimit:=by have:=r.dp;omega
def er.units{k:Nat}{A:Around}(r:er k A):A.units+64<cLine:=by have:=r.un;omega
def er.units0{k:Nat}{A:Around}(r:er k A):A.units<cLine:=by have:=r.un;omega
def Ky:TA:=λ_ H Q=>Q [] H
def EX(d:TE)(b:TA):TA:=λa H Q=>d a H λx H1=>b a H1 λc H2=>Q (x::c) H2
section
variable{X:Cx}{e:Expr}{es:List Expr}{te:TE}{t:TA}{pos:Pos}
def fq:PA X [] Ky:=λ_ _ _ _ H Q I h=>Calls.spliced_nil ⟨[],H,I,.nil,h⟩
def cP(l:PE X e te)(c:PA X es t)(k:starEach (e::es) X.env=(false,eval e X.env)::starEach es X.env:=by rfl):PA X (e::es) (EX te t):=by
 intro pos a s b H Q I h
 rw[k]
 show wpAny _ _ (spliced ((false,eval e X.env)::backTo pos (starEach es X.env))) _ _ s
 refine Calls.spliced_cons (df (l a s b H _ I h) λu m d=> ?_)
 obtain⟨x,H1,g,i,j⟩:=d
 exact df (c pos a m b H1 _ g j) λr q ⟨f,H2,o,n,p⟩=>⟨x::f,H2,o,.cons i n,p⟩
def N3(t:TA):TE:=λb H Q=>t b H λa H1=>a.length<=sizeLine/\∀p,H1 p=none->Q (.ref p) (upd H1 p (.tup a))
def N4(t:TA):TE:=λb H Q=>t b H λa H1=>a.length<=sizeLine/\∀p,H1 p=none->Q (.ref p) (upd H1 p (.lst a))
def Ku{x1}(h:PA X es t):PE X (.Tuple es x1 pos) (N3 t):=by
 intro a s j H Q I k
 refine wpAny_Tuple_spliced (df (h pos a s j H _ I k) λi c ⟨f,H1,d,r,z,q⟩=>⟨by rw[←r.length];exact z,?_⟩)
 have g:H1 c.heap.objs.size=none:=d.hok.fresh (Qmq _)
 refine⟨.ref c.heap.objs.size,upd H1 c.heap.objs.size (.tup f),d.laid (t':=c.toks) (λb u e=>Qcq _ e) (Qmq _) ?_,rfl,q _ g⟩
 exact⟨z,i,r,⟨_,Qrq _ rfl,rfl,rfl,_,rfl⟩⟩
def JN(h:PA X es t):PE X (.List es pos) (N4 t):=by
 intro a s j H Q I k
 refine wpAny_List_spliced (df (h pos a s j H _ I k) λi c ⟨f,H1,d,r,z,q⟩=>⟨by rw[←r.length];exact z,?_⟩)
 have g:H1 c.heap.objs.size=none:=d.hok.fresh (Qmq _)
 refine⟨.ref c.heap.objs.size,upd H1 c.heap.objs.size (.lst f),d.laid (t':=c.toks) (λb u e=>Qcq _ e) (Qmq _) ?_,rfl,q _ g⟩
 exact⟨z,i,0,r,Qrq _ rfl⟩
end
abbrev Sp:=List V->Hp->VK->XK->Prop
abbrev EU:=List Env->Hp->Shared->XK->Value->Shared->Prop
structure HB(P:Program)(w:World)(K:PySem.W.Frag)(mg:Str->Option Value)(base:Heap)(A:Around)(outer:List Env)(s:Shared)(H:Hp):Prop where
 frames:A.frames=some outer
 mod:Mod K mg base
 bs:∀b o,base.get? b=some o->s.heap.get? b=some o/\H b=none
 bsz:base.objs.size<=s.heap.objs.size
 funs:s.heap.FunFrames base outer
 frf:∀b∈Fv outer,H b=none
 hok:oz P w H s.heap
 bare:AllBare s.gens
def CE(outer:List Env)(P:Program)(w:World)(H:Hp)(s:Shared)(Q:VK)(u:Value)(a:Shared):Prop:=
 ∃v b,a.os=s.os/\AllBare a.gens/\Un (Fv outer) [] H b s.heap a.heap/\oz P w b a.heap/\RelV v u/\Q v b
def CR(CX:EU)(outer:List Env)(P:Program)(w:World)(H:Hp)(s:Shared)(Q:VK)(E:XK)(r:Result)(a:Shared):Prop:=
 match r with
 |.ok (.ret u)=>CE outer P w H s Q u a
 |.ok _=>False
 |.error e=>CX outer H s E e a
structure bF(P:Program)(w:World)(K:PySem.W.Frag)(mg:Str->Option Value)(base:Heap)(CX:EU)(k:Nat)(f:Addr)(fd:FuncData)(ps:List Str)(sp:Sp):Prop where
 len:∀vs H Q E,sp vs H Q E->vs.length=ps.length
 run:∀(A:Around) (outer:List Env) (s:Shared) (H:Hp) (args:Args) (us:List Value) (vs:List V) (Q:VK) (E:XK),er k A->HB P w K mg base A outer s H->BindsTo s fd args (ps.zip us)->bM vs us->sp vs H Q E→
  codeAny (model P w) A (.call (.ref f) args) (CR CX outer P w H s Q E) s
def bF.mono{P:Program}{w:World}{K:PySem.W.Frag}{mg:Str->Option Value}{base:Heap}{CX:EU}{j k:Nat}{f:Addr}{c:FuncData}{ps:List Str}{sp:Sp}(F:bF P w K mg base CX j f c ps sp)(h:j<=k):
  bF P w K mg base CX k f c ps sp:=⟨F.len,λA a s H b g e Q E d=>F.run A a s H b g e Q E (d.mono h)⟩
def bF.imp{P:Program}{w:World}{K:PySem.W.Frag}{mg:Str->Option Value}{base:Heap}{CX:EU}{k:Nat}{f:Addr}{d:FuncData}{ps:List Str}{sp c:Sp}(F:bF P w K mg base CX k f d ps sp)
  (h:∀vs H Q E,c vs H Q E->sp vs H Q E):bF P w K mg base CX k f d ps c:=
 ⟨λvs H Q E q=>F.len vs H Q E (h _ _ _ _ q),λA a s H b i vs Q E e j l m g=>F.run A a s H b i vs Q E e j l m (h _ _ _ _ g)⟩
section
variable{X:Cx}{pins:List (Addr×Obj)}{σ:St}{H:Hp}{s s':Shared}
def Inv.env0(I:Inv X pins σ H s):HB X.prog X.w X.K X.mg X.base X.A X.stack s H:=
 ⟨I.ok.frames,I.ok.mod,I.bs,QAq I.ok.bsz I.sz,I.stack,I.stkFree,I.hok,I.bare⟩
def Inv.after{Q:VK}{u:Value}(I:Inv X pins σ H s)(h:CE X.stack X.prog X.w H s Q u s'):EP X pins σ Q u s':=by
 obtain⟨v,f,i,a,j,e,r,q⟩:=h
 obtain⟨k,g,d,t,c⟩:=s'
 obtain rfl:c=s.os:=i
 exact⟨v,f,I.call (h':=k) (g':=g) (d':=d) (t':=t) (ch:= []) j e a (λb z=>absurd z (by simp)),r,q⟩
end
def Gw(sp:Sp)(a:List V)(E:XK)(t:TA):TE:=λb H Q=>t b H λc H1=>sp (c++a) H1 Q E
def Binds(K:PySem.W.Frag)(b:FuncData)(ps:List Str)(ds:List Value):Prop:=
 ∀(s:Shared) (a:List Value),K.In s.heap->(a++ds).length=ps.length->BindsTo s b ⟨a,[]⟩ (ps.zip (a++ds))
def Binds.all{K:PySem.W.Frag}{b:FuncData}{ps:List Str}(h:∀a:List Value,a.length=ps.length->bindArgs b ⟨a,[]⟩=pure (ps.zip a)):Binds K b ps []:=λs a _ hl=>by
 rw[List.append_nil] at hl⊢
 exact .of_eq (h a hl)
def Bz(CX:EU)(X:Cx)(E:XK):Prop:=∀(a:List (Addr×Obj)) (c:St) (H:Hp) (s:Shared) (e:Value) (b:Shared),Inv X a c H s->CX X.stack H s E e b->X.xe e b
section
variable{X:Cx}{CX:EU}{k:Nat}{f C:Addr}{fd:FuncData}{ps:List Str}{sp:Sp}{dvs:List V}{ds:List Value}{E:XK}{x m:Str}{p pos apos:Pos}{e o:Expr}{es:List Expr}{ta:TE}{t:TA}
def FB{a:List (Addr×Obj)}{d:St}{H:Hp}{s:Shared}{Q:VK}{b:List Value}{vs:List V}(F:bF X.prog X.w X.K X.mg X.base CX k f fd ps sp)(j:er k X.A)(q:Binds X.K fd ps ds)(hd:bM dvs ds)(n:Bz CX X E)
  (I:Inv X a d H s) (r:bM vs b) (h:sp (vs++dvs) H Q E):wpAny (model X.prog X.w) X.A (call (.ref f) b) (EP X a d Q) X.xe s:=by
 have g:bM (vs++dvs) (b++ds):=r.append hd
 have hl:(b++ds).length=ps.length:=by rw[←g.length];exact F.len _ _ _ _ h
 refine wpAny_call (codeAny_mono (F.run X.A X.stack s H ⟨b,[]⟩ (b++ds) (vs++dvs) Q E j I.env0 (q s b I.kIn hl) g h) λr l c=> ?_)
 cases r with
 |error e=>exact n a d H s e l I c
 | ok i=>
   cases i with
   |ret u=>exact I.after c
   |next=>exact False.elim c
   |brk=>exact False.elim c
   |cont=>exact False.elim c
def Dq(F:bF X.prog X.w X.K X.mg X.base CX k f fd ps sp)(d:er k X.A)(g:Gl X x)(v:X.mg x=some (.ref f))(j:PySem.W.keepIn X.K (.ref f)=true)(u:Binds X.K fd ps ds)(hd:bM dvs ds)(l:Bz CX X E)
  (i:PA X (e::es) t) (b:(x==("__debug__":Str))=false:=by decide) (he:starEach (e::es) X.env=(false,eval e X.env)::starEach es X.env:=by rfl) (hpl:(backTo pos (starEach es X.env)).any (·.1)=false:=by rfl):
  PE X (.Call (.Name x p) (e::es) [] pos) (Gw sp dvs E t):=by
 intro a s n H Q I h
 refine wpAny_Call_Name_kw (yx I g v ?_ b)
 refine PySem.W.callWith_K (h₀:=X.base) I.ok.mod.kin j (df (i pos a s n H _ I h) λz B ⟨y,H1,c,r,q⟩=>⟨c.kIn,?_⟩) he hpl
 exact FB F d u hd l c r q
end
structure aJ(N P:List Str)(sc:Scope):Prop where
 kind:sc.kind=.function
 co:sc.isCoroutine=false
 gen:sc.isGenerator=false
 nd:N.Nodup
 pre:N.take P.length=P
 par:∀x∈P,sc.names.lookup x=some .local\/sc.names.lookup x=some .cell
 nofree:∀y∈sc.names,y.2≠.free
theorem wq{b:Str->Option NameKind}{x:Str}:∀{a:List (Str×Value)} {m:Str->Option Value},(∀v,(x,v)∉a)->bindL b a m x=m x
 | [],_,_=>rfl
 | (n,v)::r,m,h=>by
   unfold bindL
   rw[wq λw c=>h w (Qpq _ c)]
   split
   · have:x≠n:=by rintro rfl;exact h v QBq
     simp[this]
   · rfl
theorem wV{b:Str->Option NameKind}{x:Str}:∀{a:List (Str×Value)} {m:Str->Option Value},(∀v,(x,v)∉a)->bindC b a m x=m x
 | [],_,_=>rfl
 | (n,v)::r,m,h=>by
   unfold bindC
   rw[wV λw c=>h w (Qpq _ c)]
   split
   · rfl
   · have:x≠n:=by rintro rfl;exact h v QBq
     simp[this]
theorem wJ{a:Str->Option NameKind}{x:Str}{v:Value}:∀{P:List Str} {vs:List Value} {i:Nat} {m:Str->Option Value},P.Nodup->P[i]?=some x->vs[i]?=some v->a x=some .local→
  bindL a (P.zip vs) m x=some v
 | [],_,_,_,_,h,_,_=>by simp at h
 |_::_,[],_,_,_,_,h,_=>by simp at h
 | p::P,w::vs,0,m,nd,h1,h2,hk=>by
   simp at h1 h2;subst h1;subst h2
   show bindL a ((p,w)::P.zip vs) m p=_
   unfold bindL
   rw[wq λv b=>(List.nodup_cons.mp nd).1 (QeQ b).1,Qhq hk]
   simp
 | p::P,w::vs,i+1,m,nd,h1,h2,hk=>by
   show bindL a ((p,w)::P.zip vs) m x=_
   unfold bindL
   exact wJ (i:=i) (List.nodup_cons.mp nd).2 (by simpa using h1) (by simpa using h2) hk
theorem wa{a:Str->Option NameKind}{x:Str}{v:Value}:∀{P:List Str} {vs:List Value} {i:Nat} {m:Str->Option Value},P.Nodup->P[i]?=some x->vs[i]?=some v->a x≠some .local→
  bindC a (P.zip vs) m x=some v
 | [],_,_,_,_,h,_,_=>by simp at h
 |_::_,[],_,_,_,_,h,_=>by simp at h
 | p::P,w::vs,0,m,nd,h1,h2,hk=>by
   simp at h1 h2;subst h1;subst h2
   show bindC a ((p,w)::P.zip vs) m p=_
   unfold bindC
   rw[wV λv b=>(List.nodup_cons.mp nd).1 (QeQ b).1,Quq hk]
   simp
 | p::P,w::vs,i+1,m,nd,h1,h2,hk=>by
   show bindC a ((p,w)::P.zip vs) m x=_
   unfold bindC
   exact wa (i:=i) (List.nodup_cons.mp nd).2 (by simpa using h1) (by simpa using h2) hk
def start(N:List Str)(vs:List V):St:=vs.map some++List.replicate (N.length-vs.length) none
def Af(CX:EU)(P:Program)(w:World)(K:PySem.W.Frag)(mg:Str->Option Value)(base:Heap)(N:List Str)(b:Str)(a:Scope)(f:Addr)(d:Value)(A:Around)(outer:List Env)(s:Shared)(H:Hp)(E:XK):Cx where
 prog:=P
 w:=w
 K:=K
 mg:=mg
 base:=base
 A:=A.deeper (envOfC b a s.heap.objs.size f d)
 N:=N
 s₀:=s
 H₀:=H
 env:=envOfC b a s.heap.objs.size f d
 outer:=outer
 stack:=envOfC b a s.heap.objs.size f d::outer
 ex:= []
 calm:=true
 fn:=λ_=>true
 pn:= []
 xe:=λe g=>wpAny (model P w) (A.deeper (envOfC b a s.heap.objs.size f d)) (leaving (envOfC b a s.heap.objs.size f d) e) (λ_ c=>CX outer H s E e c) (λh c=>CX outer H s E h c) g
def zA{sc:Scope}{n:Nat}{x:Str}(h:sc.names.lookup x=some .cell):∃c,(cellsFrom n sc.names []).lookup x=some c:=by
 have q:=PySem.W.cellsFrom_some sc.names n [] (.inl h)
 exact Option.isSome_iff_exists.mp q
def EE{CX:EU}{P:Program}{w:World}{K:PySem.W.Frag}{mg:Str->Option Value}{base:Heap}{N ps:List Str}{g:Str}{d:Scope}{f:Addr}{G:Value}{A:Around}{outer:List Env}{s J:Shared}{H:Hp}{E:XK}{I:List Value}{vs:List V}
  (S:aJ N ps d) (hd:A.handled=none) (l:HB P w K mg base A outer s H) (hl:vs.length=ps.length) (r:bM vs I)
  (x:InCallC s s.heap.objs.size (bindL (envOfC g d s.heap.objs.size f G).kindOf (ps.zip I) λ_=>none) (cellsFrom (s.heap.objs.size+1) d.names []) (bindC (envOfC g d s.heap.objs.size f G).kindOf (ps.zip I) λ_=>none) J):
  Inv (Af CX P w K mg base N g d f G A outer s H E) [] (start N vs) H J:=by
 have M:ps.length<=N.length:=by have:=congrArg List.length S.pre;rw[Qxq] at this;omega
 obtain⟨C,U,rfl,hk⟩:=x.done
 have o:∀b:Addr,b∉(Af CX P w K mg base N g d f G A outer s H E).ex:=λb z=>absurd (show b∈([]:List Addr) from z) (by simp)
 refine⟨⟨l.mod,S.kind,rfl,rfl,Qmq _,λy z c C j=> ?_,λy m=> ?_,λy c _ h=> ?_,λ_=>hd,Around.frames_deeper l.frames,.inr ⟨rfl,rfl⟩,λb z=>absurd z (o b),l.bs,l.bsz,λb _ _=>o b,λb z=>absurd z (o b),l.funs,l.frf⟩,
  rfl,l.bare,Un.kept hk,⟨_,x.toInCall.ns,λi y v C j X=> ?_⟩,λy c h=>⟨_,x.cell y c h⟩,l.hok.fresh (Qmq _),λy c h=> ?_,λp t=>absurd (show p∈([]:List (Addr×Obj)) from t) (by simp),l.hok.kept hk,?_⟩
 ·exact name_of_addr x.apart (PySem.mem_of_lookup C) (PySem.mem_of_lookup j)
 ·have m:d.names.lookup y=some .cell\/d.names.lookup y=some .free:=m
  rcases m with m|m
  ·exact zA m
  ·exact absurd rfl (S.nofree _ (PySem.mem_of_lookup m))
 ·exact nQl (x.above y c (PySem.mem_of_lookup h))
 ·have F:i<vs.length:=by
   unfold start at j
   by_cases F:i<vs.length
   ·exact F
   ·rw[QQq (by simpa using F)] at j
    rw[List.getElem?_replicate] at j
    split at j <;>cases j
  have Q:vs[i]?=some v:=by
   unfold start at j
   rw[QHq (by simpa using F),gQm] at j
   cases e:vs[i]? with
   |none=>rw[e] at j;cases j
   |some a=>rw[e] at j;cases j;rfl
  obtain⟨u,L,R⟩:=r.get Q
  have t:ps[i]?=some y:=by
   rw[←S.pre,List.getElem?_take_of_lt (by omega)];exact C
  have B:ps.Nodup:=by rw[←S.pre];exact S.nd.sublist (List.take_sublist _ _)
  refine⟨u,R,?_⟩
  rcases S.par y (mQg t) with k|k
  ·exact .inl ⟨k,wJ B t L k⟩
  ·obtain⟨c,e⟩:=zA (n:=s.heap.objs.size+1) k
   refine .inr ⟨.inl k,c,e,?_⟩
   have q:=x.cell y c e
   rw[wa B t L (by show d.names.lookup y≠_;rw[k];decide)] at q
   exact q
 ·exact l.hok.fresh (nQl (x.above y c (PySem.mem_of_lookup h)))
 ·unfold start
  show _=N.length
  rw[lQa,lQm,QIq]
  omega
def Lx{CX:EU}{P:Program}{w:World}{K:PySem.W.Frag}{mg:Str->Option Value}{base:Heap}{k:Nat}{f:Addr}{name c:Str}{g:Arguments}{h:List Stmt}{a:Scope}{dV kV z pm d ct oc:Value}{Y od:Option Addr}
  {M:Array (Option Value)} {N ps:List Str} {sp:Sp} (lk:K.lookup f=some ⟨oc,od,.func (PySem.W.fnOf name c g h a dV kV z pm Y d ct),M⟩) (R:PySem.W.codeIn K d c=true) (S:aJ N ps a)
  (len:∀vs H Q E,sp vs H Q E->vs.length=ps.length)
  (l:∀(A:Around) (outer:List Env) (s:Shared) (H:Hp) (vs:List V) (Q:VK) (E:XK),er k (A.deeper (envOfC c a s.heap.objs.size f d))->sp vs H Q E→
   ∃t,uc (Af CX P w K mg base N c a f d A outer s H E) h t/\t {nx:=λ_ j=>Q .non j,rt:=Q} (start N vs) H):
  bF P w K mg base CX (k+1) f (PySem.W.fnOf name c g h a dV kV z pm Y d ct) ps sp:=by
 refine⟨len,λA outer s H Z us vs Q E G B hb r F=> ?_⟩
 have hl:=len _ _ _ _ F
 have KX:K.In s.heap:=B.mod.kin.keeps λb o e=>(B.bs b o e).1
 have U:s.heap.NoLimit:=B.mod.nolimit.keeps λb o e=>(B.bs b o e).1
 have m:∀y∈ps.zip us,a.names.lookup y.1=some .local\/(a.names.lookup y.1=some .cell/\((cellsFrom (s.heap.objs.size+1) a.names []).lookup y.1).isSome=true):=λ⟨n,v⟩ hy=>by
  rcases S.par n (QeQ hy).1 with q|q
  ·exact .inl q
  ·exact .inr ⟨q,PySem.W.cellsFrom_some _ _ _ (.inl q)⟩
 refine codeAny_call_function G.depth (KX _ _ lk) rfl S.co S.gen rfl (PySem.W.codeRec_of KX R) (hb _ _ _ _ ?_)
 refine wpAny_newFunctionEnv_cells S.kind m λa0 he s1 x=> ?_
 subst he
 refine⟨U.keeps x.toInCall.keep,codeAny_func ?_⟩
 obtain⟨t,ht,hq⟩:=l A outer s H vs Q E (G.deeper _) F
 have I:Inv (Af CX P w K mg base N c a f d A outer s H E) [] (start N vs) H s1:=EE S G.hd B hl r x
 refine QRq (ht [] s1 (start N vs) H _ I hq) (λfl L p=> ?_) λe L p=>p
 have C:∀{i:St} {j:Hp} {v:V} {u:Value},Inv (Af CX P w K mg base N c a f d A outer s H E) [] i j L->RelV v u->Q v j->CE outer P w H s Q u L:=
  λ{i j v u} J X q=>⟨v,j,J.os,J.bare,J.base,J.hok,X,q⟩
 cases fl with
 | ret u=>
   obtain⟨v,i,j,J,X,q⟩:=p
   exact C J X q
 | next=>
   obtain⟨i,j,J,q⟩:=p
   exact C (v:=V.non) (u:=Value.none) J rfl q
 | brk=>
   obtain⟨_,_,_,q⟩:=p
   exact False.elim q
 | cont=>
   obtain⟨_,_,_,q⟩:=p
   exact False.elim q
section
variable{X:Cx}{x:Str}{p pos:Pos}{e:Expr}{es:List Expr}{t:TA}{id T:String}{r:List V->Hp->VK->Prop}
def M8(r:List V->Hp->VK->Prop)(t:TA):TE:=λa H Q=>t a H λb H1=>r b H1 Q
def jQ(j:gP X (.builtin id) r)(i:Gl X x)(u:X.mg x=none)(q:bootBuiltins x=some (.builtin id))(m:PA X (e::es) t)(l:x≠"__name__":=by decide)(b:(x==("__debug__":Str))=false:=by decide)
  (he:starEach (e::es) X.env=(false,eval e X.env)::starEach es X.env:=by rfl) (hpl:(backTo pos (starEach es X.env)).any (·.1)=false:=by rfl):PE X (.Call (.Name x p) (e::es) [] pos) (M8 r t):=by
 intro a s c H Q I h
 refine wpAny_Call_Name_kw (kz I i u q ?_ l b)
 exact PyProof.Rows.callWith_builtin1 (df (m pos a s c H _ I h) λn o ⟨d,H1,f,g,k⟩=>j a o c H1 d n Q f g k) he hpl
def wA(j:gP X (.type T) r)(i:Gl X x)(u:X.mg x=none)(q:bootBuiltins x=some (.type T))(m:PA X (e::es) t)(l:x≠"__name__":=by decide)(b:(x==("__debug__":Str))=false:=by decide)
  (he:starEach (e::es) X.env=(false,eval e X.env)::starEach es X.env:=by rfl) (hpl:(backTo pos (starEach es X.env)).any (·.1)=false:=by rfl):PE X (.Call (.Name x p) (e::es) [] pos) (M8 r t):=by
 intro a s c H Q I h
 refine wpAny_Call_Name_kw (kz I i u q ?_ l b)
 exact PyProof.Rows.callWith_type1 (df (m pos a s c H _ I h) λn o ⟨d,H1,f,g,k⟩=>j a o c H1 d n Q f g k) he hpl
end
section
variable{κ:Type}[DecidableEq κ]
def qD(kvs:List (κ×V))(k:κ):Option V:=(kvs.find? λa=>decide (a.1=k)).map (·.2)
def putK(kvs:List (κ×V))(k:κ)(v:V):List (κ×V):=
 if (kvs.any λa=>decide (a.1=k))=true then kvs.map (λa=>if a.1=k then(a.1,v) else a) else kvs++ [(k,v)]
def uL{p:κ×V}{r:List (κ×V)}{k:κ}(e:p.1=k):qD (p::r) k=some p.2:=by simp[qD,List.find?_cons,e]
def uI{p:κ×V}{r:List (κ×V)}{k:κ}(e:¬p.1=k):qD (p::r) k=qD r k:=by simp[qD,List.find?_cons,e]
theorem zD(k:κ):∀kvs:List (κ×V),(kvs.any λkv=>decide (kv.1=k))=(qD kvs k).isSome
 | []=>rfl
 | p::r=>by
   rw[List.any_cons]
   by_cases e:p.1=k
   · simp only[uL e,Qeq e,Bool.true_or,Option.isSome_some]
   · rw[uI e,Qdq e,Bool.false_or];exact zD k r
def jd(kvs:List (κ×V))(k:κ)(v:V):(putK kvs k v).length<=kvs.length+1:=by
 unfold putK
 split
 ·rw[lQm];omega
 ·rw[lQa,Qnq,QGq];omega
def tW.isSome_eq{o:Option V}{u:Option Value}(r:tW o u):o.isSome=u.isSome:=by
 cases o with
 | none=>cases u with
   |none=>rfl
   |some _=>exact(show False from r).elim
 | some _=>cases u with
   |none=>exact(show False from r).elim
   |some _=>rfl
def KV.val{kvs:List (κ×V)}{vs:List (κ×Value)}(r:KV kvs vs)(k:κ):tW (qD kvs k) (valueAt vs k):=by
 unfold KV at r
 induction r with
 |nil=>exact True.intro
 | @cons p q ps qs h t ih=>
   obtain⟨c,d⟩:=h
   by_cases e:p.1=k
   · have a:q.1=k:=c.symm.trans e
     have b:valueAt (q::qs) k=some q.2:=by simp[valueAt,List.find?_cons,a]
     rw[uL e,b];exact d
   · have a:¬q.1=k:=λz=>e (c.trans z)
     have b:valueAt (q::qs) k=valueAt qs k:=by simp[valueAt,List.find?_cons,a]
     rw[uI e,b];exact ih
theorem KV.any{kvs:List (κ×V)}{vs:List (κ×Value)}(r:KV kvs vs)(k:κ):(kvs.any λkv=>decide (kv.1=k))=vs.any λkv=>decide (kv.1=k):=by
 unfold KV at r
 induction r with
 |nil=>rfl
 |cons h t a=>rw[List.any_cons,List.any_cons,a,h.1]
def KV.repl{kvs:List (κ×V)}{vs:List (κ×Value)}(r:KV kvs vs)(k:κ){y:V}{u:Value}(c:RelV y u):
  KV (kvs.map λkv=>if kv.1=k then(kv.1,y) else kv) (vs.map λkv=>if kv.1=k then(kv.1,u) else kv):=by
 unfold KV at r⊢
 induction r with
 |nil=>exact .nil
 | @cons p q ps qs h t ih=>
   rw[QDq,QDq]
   refine .cons ?_ ih
   obtain⟨a,b⟩:=h
   by_cases e:p.1=k
   · rw[Qhq e,Qhq (a.symm.trans e)];exact⟨a,c⟩
   · rw[Quq e,Quq (λz=>e (a.trans z))];exact⟨a,b⟩
def KV.put{kvs:List (κ×V)}{vs:List (κ×Value)}(r:KV kvs vs)(k:κ){y:V}{u:Value}(a:RelV y u):KV (putK kvs k y) (stored vs k u):=by
 unfold putK stored
 rw[r.any k]
 by_cases e:(vs.any λb=>decide (b.1=k))=true
 ·rw[Qhq e,Qhq e];exact r.repl k a
 ·rw[Quq e,Quq e];exact Paired.snoc r ⟨rfl,a⟩
def KV.length{kvs:List (κ×V)}{vs:List (κ×Value)}(r:KV kvs vs):kvs.length=vs.length:=Paired.length r
end
def zM{P:Program}{w:World}{k:Key}{u:Value}(r:RelV (kV k) u):(bZ P w).is k u=true:=by
 cases k with
 |inl i=>obtain⟨t,e⟩:=(show∃t,u=Value.int i t from r);subst e;exact Az P w i t
 |inr x=>obtain⟨t,e⟩:=(show∃t,u=Value.str x t from r);subst e;exact AF P w x t
theorem wm{P:Program}{w:World}:∀{a:List Key} {b:List Value},bM (a.map kV) b->ItemsAre (bZ P w) a b
 | [],_,r=>by rw[List.map_nil] at r;cases r;exact .nil
 | k::a,_,r=>by
   rw[QDq] at r
   cases r with
   |cons h t=>exact .cons (zM h) (wm t)
abbrev KT(H:Hp):List (List Key×V)->List (List Key×Addr×Value)->Prop:=Paired λp q=>p.1=q.1/\H q.2.1=some (.tup (p.1.map kV))/\RelV p.2 q.2.2
def KT.val{H:Hp}{kvs:List (List Key×V)}{xs:List (List Key×Addr×Value)}(r:KT H kvs xs)(k:List Key):tW (qD kvs k) ((atKey xs k).map (·.2)):=by
 induction r with
 |nil=>exact True.intro
 | @cons p q ps qs h t ih=>
   obtain⟨c,_,d⟩:=h
   by_cases e:p.1=k
   · have a:q.1=k:=c.symm.trans e
     have b:atKey (q::qs) k=some q.2:=by simp[atKey,List.find?_cons,a]
     rw[uL e,b];exact d
   · have a:¬q.1=k:=λz=>e (c.trans z)
     have b:atKey (q::qs) k=atKey qs k:=by simp[atKey,List.find?_cons,a]
     rw[uI e,b];exact ih
def KT.repl{H:Hp}{kvs:List (List Key×V)}{xs:List (List Key×Addr×Value)}(r:KT H kvs xs)(k:List Key){y:V}{u:Value}(d:RelV y u):
  KT H (kvs.map λkv=>if kv.1=k then(kv.1,y) else kv) (xs.map (putAt k u)):=by
 induction r with
 |nil=>exact .nil
 | @cons p q ps qs h t ih=>
   rw[QDq,QDq]
   refine .cons ?_ ih
   obtain⟨a,b,c⟩:=h
   unfold putAt
   by_cases e:p.1=k
   · rw[Qhq e,Qhq (a.symm.trans e)];exact⟨a,b,d⟩
   · rw[Quq e,Quq (λz=>e (a.trans z))];exact⟨a,b,c⟩
def KT.put{H:Hp}{kvs:List (List Key×V)}{xs:List (List Key×Addr×Value)}(r:KT H kvs xs)(k:List Key){b:Addr}{y:V}{u:Value}(d:H b=some (.tup (k.map kV)))(a:RelV y u):
  KT H (putK kvs k y) (storedH xs k b u):=by
 have e:(kvs.any λc=>decide (c.1=k))=(atKey xs k).isSome:=by
  rw[zD,(r.val k).isSome_eq,Option.isSome_map]
 unfold putK storedH
 rw[e]
 by_cases q:(atKey xs k).isSome=true
 ·rw[Qhq q,Qhq q];exact r.repl k a
 ·rw[Quq q,Quq q];exact Paired.snoc r ⟨rfl,d,a⟩
def KT.keeps{H a:Hp}{kvs:List (List Key×V)}{xs:List (List Key×Addr×Value)}(r:KT H kvs xs)(ht:∀b ys,H b=some (.tup ys)->a b=some (.tup ys)):KT a kvs xs:=
 Paired.mapP r λ_ _ z=>⟨z.1,ht _ _ z.2.1,z.2.2⟩
section
variable{P:Program}{w:World}{H:Hp}{h:Heap}{a:Addr}
def IZ{u:HO}(ok:oz P w H h)(e:Rd H a u):cZ P w H h a u:=e.ok ok
def Fx{kvs:List (Key×V)}(ok:oz P w H h)(e:Rd H a (.dK kvs)):kvs.length<=sizeLine/\(a==sysModules)=false/\∃vs,KV kvs vs/\h.DictOf (bZ P w) a vs:=
 show cZ P w H h a (.dK kvs) from IZ ok e
def AG{kvs:List (Key×V)}(ok:oz P w H h)(e:H a=some (.dK kvs)):kvs.length<=sizeLine/\(a==sysModules)=false/\∃vs,KV kvs vs/\h.DictOf (bZ P w) a vs:=Fx ok (.inl e)
def Cc{b:List Key}(ok:oz P w H h)(e:H a=some (.tup (b.map kV))):(tupleKind (bZ P w)).is h b a:=by
 obtain⟨_,c,r,o,f,d,_,n,g⟩:=(show cZ P w H h a (.tup (b.map kV)) from ok a _ e)
 exact⟨o,c.toArray,n,f,d,g,by simpa using wm r⟩
def EY{kvs:List (List Key×V)}(ok:oz P w H h)(e:Rd H a (.dT kvs)):kvs.length<=sizeLine/\(a==sysModules)=false∧
  ∃xs,KT H kvs xs/\h.DictOfH (tupleKind (bZ P w)) a xs:=by
 obtain⟨z,y,xs,r,o,k,j,g,i,n,d,f⟩:=(show cZ P w H h a (.dT kvs) from IZ ok e)
 refine⟨z,y,xs,r,o,k,j,g,i,n,d,λx b=> ?_,f⟩
 have c:∀{l:List (List Key×V)} {m:List (List Key×Addr×Value)},KT H l m->∀x∈m,(tupleKind (bZ P w)).is h x.1 x.2.1:=by
  intro l m q
  induction q with
  |nil=>intro x b;exact nomatch b
  | @cons p q ps qs hq t ih=>
    intro x b
    rcases Qsq.mp b with e|b
    · subst e
      exact Cc ok (by rw[←hq.1];exact hq.2.1)
    · exact ih x b
 exact c r x b
def MJ{kvs:List (List Key×V)}(ok:oz P w H h)(e:H a=some (.dT kvs)):kvs.length<=sizeLine/\(a==sysModules)=false∧
  ∃xs,KT H kvs xs/\h.DictOfH (tupleKind (bZ P w)) a xs:=EY ok (.inl e)
end
def DV(H:Hp)(a:Addr)(y:V)(r:Option V):Prop:=
 (∃c k,Rd H a (.dK c)/\y=kV k/\r=qD c k)\/∃c k b,Rd H a (.dT c)/\y=.ref b/\H b=some (.tup (k.map kV))/\r=qD c k
def GG(H:Hp)(a:Addr)(y v:V)(d:Hp):Prop:=
 (∃c k,H a=some (.dK c)/\y=kV k/\c.length<sizeLine/\d=upd H a (.dK (putK c k v)))∨
 ∃c k b,H a=some (.dT c)/\y=.ref b/\H b=some (.tup (k.map kV))/\c.length<sizeLine/\d=upd H a (.dT (putK c k v))
def DV.k{H:Hp}{a:Addr}{kvs:List (Key×V)}{k:Key}(e:H a=some (.dK kvs)):DV H a (kV k) (qD kvs k):=.inl ⟨kvs,k,.inl e,rfl,rfl⟩
def GG.k{H:Hp}{a:Addr}{kvs:List (Key×V)}{k:Key}{v:V}(e:H a=some (.dK kvs))(hl:kvs.length<sizeLine):GG H a (kV k) v (upd H a (.dK (putK kvs k v))):=.inl ⟨kvs,k,e,rfl,hl,rfl⟩
section
variable{X:Cx}{pins:List (Addr×Obj)}{σ:St}{H:Hp}{s:Shared}{a:Addr}{y v:V}{u r:Value}{o:Option V}{A:Around}{E:Value->Shared->Prop}
def Inv.big(I:Inv X pins σ H s):sysModules<s.heap.objs.size:=by
 have h:mainGlobals<s.heap.objs.size:=(I.mod.glob.keeps I.bk).lt
 exact Nat.lt_trans (by decide) h
def DI{Q:Value->Shared->Prop}(K:A.units+1<cLine)(I:Inv X pins σ H s)(g:DV H a y (some v))(x:RelV y u)(h:∀f t,Inv X pins σ H t->RelV v f->Q f t):
  wpAny (model X.prog X.w) A (getItem (.ref a) u) Q E s:=by
 rcases g with⟨j,k,e,i,l⟩|⟨j,k,b,e,i,B,l⟩
 ·subst i
  obtain⟨z,G,F,d,n⟩:=Fx I.hok e
  obtain⟨f,q,c⟩:=tW.some_of (v:=v) (o:=valueAt F k) (by rw[l];exact d.val k)
  exact wpAny_getItem_of (zM x) n.mapOf q (h f _ (I.tok _) c)
 ·subst i
  cases (show u=Value.ref b from x)
  obtain⟨z,G,C,d,n⟩:=EY I.hok e
  obtain⟨f,q,c⟩:=tW.some_of (v:=v) (o:=(atKey C k).map (·.2)) (by rw[l];exact d.val k)
  obtain⟨p,J,m⟩:=oQm.mp q
  refine wpAny_getItem_heap (tupleKind_room_in1 K) (Cc I.hok B) n J ?_
  rw[m]
  exact h f _ (I.tok _) c
def tj{h':Heap}{t':Nat}{c:HO}(I:Inv X pins σ H s)(d:LZ (H a))(g:Heap.SameBut a s.heap h')(he:∃q,h'.get? a=some q)(new:cZ X.prog X.w (upd H a c) h' a c):
  Inv X pins σ (upd H a c) {s with heap:=h',toks:=t'}:=
 I.write (x:=a) (e:=a) d (.inl rfl) (λb q f z=>(g.2 b f).trans z) he new
def uX{P:Program}{w:World}{c:Hp}{h':Heap}{kvs:List (Key×V)}{vs:List (Key×Value)}(z:kvs.length<=sizeLine)(hd:(a==sysModules)=false)(b:KV kvs vs)(d:h'.DictOf (bZ P w) a vs):
  cZ P w c h' a (.dK kvs):=⟨z,hd,vs,b,d⟩
def D1{C:Hp}{Q:Unit->Shared->Prop}(hu:A.units+1<cLine)(I:Inv X pins σ H s)(g:GG H a y v C)(M:RelV y u)(L:RelV v r)(h:∀G,Inv X pins σ C G->Q () G):
  wpAny (model X.prog X.w) A (setItem (.ref a) u r) Q E s:=by
 rcases g with⟨d,k,e,n,l,m⟩|⟨d,k,b,e,n,F,l,m⟩
 ·subst n m
  obtain⟨z,p,R,f,x⟩:=AG I.hok e
  have B:R.length<=sizeLine:=by rw[←f.length];exact z
  have hl:(putK d k v).length<=sizeLine:=by have:=jd d k v;omega
  refine wpAny_setItem_pairs (hsz:=B) (zM M) x λJ i t=>h _ ?_
  have W:∃q,J.get? a=some q:=let ⟨q,_,_,j,_⟩:=i;⟨q,j⟩
  exact tj I (by rw[e];exact True.intro) t W (uX hl p (f.put k L) i)
 ·subst n m
  cases (show u=Value.ref b from M)
  obtain⟨z,p,N,f,x⟩:=MJ I.hok e
  have B:N.length<=sizeLine:=by rw[←Paired.length f];exact z
  have hl:(putK d k v).length<=sizeLine:=by have:=jd d k v;omega
  refine wpAny_setItem_heap (hsz:=B) (tupleKind_room_in1 hu) (Cc I.hok F) x λJ i t=>h _ ?_
  obtain⟨q,Z,Y,j,U,h3,P,_,S⟩:=i
  refine tj I (by rw[e];exact True.intro) t ⟨q,j⟩ ⟨hl,p,_,(f.put k F L).keeps λc ys K=> ?_,q,Z,Y,j,U,h3,P,S⟩
  rw[bo (Fl K e (λz=>nomatch z))]
  exact K
end
def Iq(i:Expr):Prop:=∀a b,subscripted i false a b=operate [a,b] (getItem a b)
def C8{prog:Program}{w:World}{A:Around}{E:Value->Shared->Prop}{s:Shared}{env:Env}{b a:Expr}{pos:Pos}{T id:String}{Q:Value->Shared->Prop}
  (hl:typeLookup (.type T) "__getitem__"=pure (some (.builtin id))) (m:Iq a)
  (h:wpAny (model prog w) A (eval b env) (λo f=>wpAny (model prog w) A (eval a env) (λi c=>c.TypeIs o T/\wpAny (model prog w) A (getItem o i) Q E c) E f) E s):
  wpAny (model prog w) A (eval (.Subscript b a pos) env) Q E s:=by
 refine Subscript_ (QRq h (λo f j=>QRq j (λi c d=> ?_) λ_ _ x=>x) λ_ _ x=>x)
 obtain⟨l,d⟩:=d
 unfold subscriptTail
 refine Qaq ?_
 rw[getitemInPython_of_ne l.not_modules]
 refine Qaq (wpAny_specialOf l hl ?_)
 have g:wpAny (model prog w) A (subscripted a false o i) (λr e=>wpAny (model prog w) A (letTemporaryGo b o r >>= λ_=>pure r) Q E e) E c:=by
  rw[m o i]
  exact wpAny_operating (QRq d (λr e k=>Qaq (wpAny_letTemporaryGo (Qgq k))) λ_ _ x=>x)
 first
  |exact Qgq (Qaq g)
  |exact Qaq (Qgq (Qaq g))
  |exact Qaq g
def zU{X:Cx}{c:List (Addr×Obj)}{h:St}{H:Hp}{s:Shared}{a:Addr}{y:V}{o:Option V}(I:Inv X c h H s)(g:DV H a y o):s.TypeIs (.ref a) "dict":=by
 rcases g with⟨f,k,e,_,_⟩|⟨f,k,b,e,_,_,_⟩
 ·obtain⟨_,_,j,_,d⟩:=Fx I.hok e
  exact d.typeIs
 ·obtain⟨_,_,i,_,d⟩:=EY I.hok e
  exact d.typeIs
def LX(c d:TE):TE:=λb H Q=>c b H λx H1=>d b H1 λy H2=>∃a v,x=.ref a/\DV H2 a y (some v)/\Q v H2
def Mb(c e d:TE):TS:=λD b H=>d b H λv H1=>c b H1 λx H2=>e b H2 λy H3=>∃a H4,x=.ref a/\GG H3 a y v H4/\D.nx b H4
section
variable{X:Cx}{o i e value:Expr}{pos pos' tpos:Pos}{td ty tv:TE}
def HS(w:X.A.units+1<cLine)(m:PE X o td)(hi:PE X i ty)(r:Iq i):PE X (.Subscript o i pos) (LX td ty):=by
 intro b s d H Q I h
 refine C8 PySem.F.slot_dict_getitem.lookup r (df (m b s d H _ I h) λu t ⟨x,H1,n,p,q⟩=>df (hi b t d H1 _ n q) λJ K k=> ?_)
 obtain⟨y,H2,f,B,a,v,l,g,z⟩:=k
 subst l
 obtain rfl:u=Value.ref a:=p
 exact⟨zU f g,DI w f g B λG C j c=>⟨v,H2,j,c,z⟩⟩
def IL(B:X.A.units+1<cLine)(j:PE X o td)(hi:PE X i ty)(z:PE X value tv)(p:swapsWith value (some (.Subscript o i pos')) pos.line X.env=pure false):
  PS X (.Assign [.Subscript o i pos'] value pos) (Mb td ty tv):=by
 intro b s c H D I h
 refine wpAny_Assign_Subscript (df (z b s c H _ I h) λr w ⟨v,H1,k,F,n⟩=>df (j b w c H1 _ k n) λu q ⟨x,H2,C,m,G⟩=>df (hi b q c H2 _ C G) λL K ⟨y,H3,d,J,a,H4,f,g,t⟩=> ?_) p
 subst f
 obtain rfl:u=Value.ref a:=m
 exact D1 B d g J F λM l=>⟨c,H4,l,t⟩
end
def Gu{P:Program}{w:World}{H:Hp}(h:Heap)(a:sysModules<h.objs.size):cZ P w H (h.push {cls:=.type "dict",data:=.dict #[]}) h.objs.size (.dK []):=
 ⟨Nat.zero_le _,beq_eq_false_iff_ne.mpr (Ne.symm (Qwq a)),[],.nil,Heap.DictOf.new h⟩
def Kw:TE:=λ_ H Q=>∀p,H p=none->Q (.ref p) (upd H p (.dK []))
section
variable{X:Cx}{pos:Pos}
def E3:PE X (.Dict [] [] pos) Kw:=λb s c H Q I h=>
 wpAny_Dict_empty ⟨.ref s.heap.objs.size,_,I.laid (a:=s.heap.objs.size) (o:=.dK []) (t':=s.toks) (λ_ _ q=>Qcq _ q) (Qmq _) (Gu s.heap I.big),rfl,h _ (I.hok.fresh (Qmq _))⟩
end
def j6(kvs more:List (Key×V)):List (Key×V):=more.foldl (λa b=>putK a b.1 b.2) kvs
def KV.merge:∀{more:List (Key×V)} {rs:List (Key×Value)} {kvs:List (Key×V)} {vs:List (Key×Value)},KV more rs->KV kvs vs->KV (j6 kvs more) (merged vs rs):=by
 intro more rs kvs vs r
 unfold KV at r
 induction r generalizing kvs vs with
 |nil=>intro q;exact q
 | @cons p q ps qs h t ih=>
   intro a
   have e:KV (putK kvs p.1 p.2) (stored vs q.1 q.2):=by
     have:=a.put p.1 h.2
     rw[←h.1];exact this
   exact ih e
theorem jo:∀(more kvs:List (Key×V)),(j6 kvs more).length<=kvs.length+more.length
 | [],kvs=>by show kvs.length<=kvs.length+0;omega
 | p::r,kvs=>by
   have b:=jo r (putK kvs p.1 p.2)
   have a:=jd kvs p.1 p.2
   show(j6 (putK kvs p.1 p.2) r).length<=_
   rw[Qnq];omega
end L2
namespace HT
open PySem PyProof.Rows
section
open PySem.SeqAt
open PySem.AutoSeq1 (wpAny_loadPart')
open PySem.MeetsSeq PySem.MeetsSeq2 PySem.MeetsSeq3
end
section
variable{prog:Program}{w:World}{A:Around}{E:Value->Shared->Prop}{s:Shared}
def Hc{t b:Addr}{vs ws:List Value}{Q:Value->Shared->Prop}(ht:IsTup s.heap t vs.toArray)(x:IsTup s.heap b ws.toArray)(q:vs≠[])
  (u:ws= []->Q (.ref t) s) (v:ws≠[]->Q (.ref s.heap.objs.size) {s with heap:=s.heap.push {cls:=.type "tuple",data:=.seq (vs++ws).toArray}})
  (hsz:vs.length+ws.length<=sizeLine):wpAny (model prog w) A (binaryOp .Add (.ref t) (.ref b)) Q E s:=by
 obtain⟨⟨cls,o,data,r⟩,h,k,n,l⟩:=id ht
 obtain⟨⟨p,d,j,c⟩,a,g,m,f⟩:=id x
 simp only at k l g f
 subst k l g f
 have e:vs.toArray++ws.toArray=(vs++ws).toArray:=by simp
 by_cases i:ws= []
 ·exact concat_meets ⟨_,h,rfl⟩ ⟨_,a,rfl⟩ noFill_tuple_add seq_tuple_add PySem.F.slot_tuple_add PySem.F.entry_tuple_add (PySem.F.args_tuple_add_2 _ _)
   (tuple_addW1 t b vs.toArray ws.toArray n m o d r c (by simpa using q) (by simp[i])) ⟨h,a,u i⟩
 ·refine concat_meets ⟨_,h,rfl⟩ ⟨_,a,rfl⟩ noFill_tuple_add seq_tuple_add PySem.F.slot_tuple_add PySem.F.entry_tuple_add (PySem.F.args_tuple_add_2 _ _)
   (tuple_addW2 t b vs.toArray ws.toArray n m o d r c (by simpa using q) (by simpa using i) (by rw[Qjq,Qjq];exact hsz)) ⟨h,a,?_⟩
  rw[e]
  exact v i
def eX(n d:Nat):Option Int->Nat
 |none=>d
 |some v=>if v<0 then(v+(n:Int)).toNat else min v.toNat n
def lP(n d:Nat):eX n d none=d:=rfl
def xU(n d k:Nat):eX n d (some (k:Int))=min k n:=by
 show(if (k:Int)<0 then((k:Int)+(n:Int)).toNat else min (k:Int).toNat n)=min k n
 rw[Quq (by omega),Int.toNat_natCast]
def Kk(n d:Nat)(hd:d<=n)(o:Option Int):eX n d o<=n:=by
 cases o with
 |none=>exact hd
 | some v=>
   show(if v<0 then(v+(n:Int)).toNat else min v.toNat n)<=n
   by_cases a:v<0
   · rw[Qhq a];omega
   · rw[Quq a];exact Nat.min_le_right _ _
def Cq(v:Int)(n d:Nat):(if v<0 then max (v+(n:Int)) 0 else min v (n:Int))=((eX n d (some v):Nat):Int):=by
 show(if v<0 then max (v+(n:Int)) 0 else min v (n:Int))=(((if v<0 then(v+(n:Int)).toNat else min v.toNat n):Nat):Int)
 by_cases a:v<0
 ·simp only[Qhq a];omega
 ·simp only[Quq a];omega
def Cd(lo hi:Option Int)(n:Nat):Builtin.Slice.sliceAdjust lo hi 1 (n:Int)=(((eX n 0 lo:Nat):Int),((eX n n hi:Nat):Int)):=by
 have a:¬((1:Int)<0):=by omega
 unfold Builtin.Slice.sliceAdjust
 simp only[a,if_false]
 refine Prod.ext ?_ ?_
 ·cases lo with
  |none=>rfl
  |some v=>exact Cq v n 0
 ·cases hi with
  |none=>rfl
  |some v=>exact Cq v n n
def BE(i j:Nat):Builtin.Slice.slicePlaces (i:Int) (j:Int) 1=j-i:=by
 unfold Builtin.Slice.slicePlaces
 have a:(1:Int)>0:=by omega
 simp only[a,if_true,Int.ediv_one]
 split <;>omega
def u6{v:Value}{o:Option Int}{Q:Option Int->Shared->Prop}(p:IsPart v o)(h:Q o s):wpAny (model prog w) A (Builtin.Slice.slicePartIndex v) Q E s:=by
 cases p with
 |none=>exact slicePart_none h
 |int i t=>exact slicePart_int h
def jG{e:Addr}{d c:Value}{lo hi:Option Int}{n:Nat}{Q:Int×Int×Nat->Shared->Prop}(j:s.heap.IsSliceOf e d c .none)(f:IsPart d lo)(i:IsPart c hi)
  (h:Q (((eX n 0 lo:Nat):Int),1,eX n n hi-eX n 0 lo) s):wpAny (model prog w) A (Builtin.Slice.sliceApplied (.ref e) (pure (n:Int))) Q E s:=by
 obtain⟨k,b,g,a⟩:=id j
 unfold Builtin.Slice.sliceApplied Builtin.Slice.sliceFields
 refine Qaq (Qaq (QMq b a (x:=d) rfl (Qaq (QMq b a (x:=c) rfl (Qaq (QMq b a (x:=.none) rfl (Qgq ?_)))))))
 refine Qaq (slicePart_none ?_)
 show wpAny _ _ (if ((1:Int)==0)=true then _ else _) _ _ s
 rw[Quq (by decide)]
 refine Qaq (u6 f (Qaq (u6 i (Qaq (Qgq ?_)))))
 show wpAny _ _ (match Builtin.Slice.sliceAdjust lo hi 1 (n:Int) with|(lo,hi)=>pure (lo,(1:Int),Builtin.Slice.slicePlaces lo hi 1)) _ _ s
 rw[Cd lo hi n]
 show wpAny _ _ (pure (((eX n 0 lo:Nat):Int),(1:Int),Builtin.Slice.slicePlaces ((eX n 0 lo:Nat):Int) ((eX n n hi:Nat):Int) 1)) _ _ s
 rw[BE]
 exact Qgq h
def Ff(xs:Array Value)(i k:Nat):((List.range k).filterMap λ(m:Nat)=>xs[((i:Int)+(m:Int)*1).toNat]?).toArray=((xs.toList.drop i).take k).toArray:=by
 have e:(λ(m:Nat)=>xs[((i:Int)+(m:Int)*1).toNat]?)=λm=>xs[i+m]? :=by
  funext m
  have:((i:Int)+(m:Int)*1).toNat=i+m:=by omega
  rw[this]
 rw[e]
 have:=pick_run xs i k
 rw[List.filterMap_map] at this
 have a:((λx=>xs[x]?)∘λx=>i+x)=λm=>xs[i+m]? :=rfl
 rw[a] at this
 rw[this]
def oI{t e:Addr}{items:Array Value}{g i:Value}{lo hi:Option Int}{Q:Value->Shared->Prop}(ht:IsTup s.heap t items)(j:s.heap.IsSliceOf e g i .none)(l:IsPart g lo)(n:IsPart i hi)
  (o:¬(eX items.size 0 lo=0/\eX items.size items.size hi=items.size))
  (h:Q (.ref s.heap.objs.size) {s with heap:=s.heap.push {cls:=.type "tuple",data:=.seq ((items.toList.drop (eX items.size 0 lo)).take (eX items.size items.size hi-eX items.size 0 lo)).toArray}})
  (hsz:items.size<=sizeLine):wpAny (model prog w) A (getItem (.ref t) (.ref e)) Q E s:=by
 have a:sizeOk (.seq ((items.toList.drop (eX items.size 0 lo)).take (eX items.size items.size hi-eX items.size 0 lo)).toArray):=by
  show((items.toList.drop (eX items.size 0 lo)).take (eX items.size items.size hi-eX items.size 0 lo)).toArray.size<=sizeLine
  rw[Qjq,Qxq,List.length_drop,Array.length_toList]
  omega
 have u:eX items.size items.size hi<=items.size:=Kk _ _ (Qmq _) hi
 obtain⟨k,b,d,p⟩:=id j
 have c:s.TypeIs (.ref e) "slice":=⟨k,b,d⟩
 unfold getItem
 try with_reducible refine QLq ?_
 first|refine Qaq (Qgq ?_)|skip
 refine Qaq (wpAny_sequenceKey ht.typeIs (by decide) ?_)
 refine Qaq (QiQ (name:=Str.ofString "__getitem__") ht.typeIs PyProof.Rows.slot_tuple_getitem
  (wpAny_call_entry PyProof.Rows.slot_tuple_getitem ht.typeIs entry_tuple_getitem ?_ (args_tuple_getitem _ _)))
 show wpAny _ _ (Builtin.Tuple.tupleItemsOf (.ref t) >>= _) _ _ s
 refine Qaq (tupleItemsOf_ ht ?_)
 refine Qaq (wpAny_typeOf c ?_)
 rw[Qhq (by decide)]
 refine Qaq (jG j l n ?_)
 have f:¬((((eX items.size 0 lo:Nat):Int)==0&&(1:Int)==1&&(eX items.size items.size hi-eX items.size 0 lo)==items.size)=true):=by
  intro q
  rw[QCq,QCq] at q
  have r:((eX items.size 0 lo:Nat):Int)=0:=eq_of_beq q.1.1
  have v:eX items.size items.size hi-eX items.size 0 lo=items.size:=eq_of_beq q.2
  exact o ⟨by omega,by omega⟩
 show wpAny _ _ (if (((eX items.size 0 lo:Nat):Int)==0&&(1:Int)==1&&(eX items.size items.size hi-eX items.size 0 lo)==items.size)=true then _ else _) _ _ s
 rw[Quq f,Ff]
 first
  |exact Qaq (m:=Builtin.Tuple.tupleExact _) (QhQ (Qgq ⟨_,rfl,Qgq h⟩) a)
  |exact Qaq (m:=Builtin.Tuple.tupleExact _) (QhQ (Qaq (Qgq (Qgq ⟨_,rfl,Qgq h⟩))) a)
  |exact Qaq (Qaq (m:=Builtin.Tuple.tupleExact _) (QhQ (Qgq (Qgq ⟨_,rfl,Qgq h⟩)) a))
  |exact Qaq (Qaq (m:=Builtin.Tuple.tupleExact _) (QhQ (Qgq ⟨_,rfl,Qgq h⟩) a))
end
end HT
namespace L2
open PySem PySem.Spec PyProof.Rows
abbrev TO:=St->Hp->(Option Int->Hp->Prop)->Prop
def PO(X:Cx)(e:Option Expr)(t:TO):Prop:=
 ∀ (a:List (Addr×Obj)) (s:Shared) (b:St) (H:Hp) (Q:Option Int->Hp->Prop),Inv X a b H s->t b H Q→
   wpAny (model X.prog X.w) X.A (evalPart e X.env) (λu d=>∃o c,Inv X a b c d/\IsPart u o/\Q o c) X.xe s
def Ih:TO:=λ_ H Q=>Q none H
def Mp(t:TE):TO:=λa H Q=>t a H λx H1=>∃i,x=.int i/\Q (some i) H1
section
variable{X:Cx}{e:Expr}{te:TE}{lo hi:Option Expr}{tl th:TO}{pos p2:Pos}
def Iy:PO X none Ih:=by
 intro a s b H Q I h
 rw[evalPart_none]
 exact Qgq ⟨none,H,I,.none,h⟩
def Hx(h:PE X e te):PO X (some e) (Mp te):=by
 intro a s c H Q I g
 rw[evalPart_some]
 refine df (h a s c H _ I g) λu k d=> ?_
 obtain⟨x,H1,j,b,f⟩:=d
 obtain⟨i,rfl,q⟩:=f
 obtain⟨t,rfl⟩:=b
 exact⟨some i,H1,j,.int i t,q⟩
def Oe(X:Cx)(r:V->Option Int->Option Int->Hp->VK->Prop):Prop:=
 ∀ (a:List (Addr×Obj)) (s:Shared) (b:St) (H:Hp) (x:V) (v f d:Value) (lo hi:Option Int) (c:Addr) (Q:VK),Inv X a b H s->RelV x v->s.heap.IsSliceOf c f d .none->IsPart f lo->IsPart d hi->r x lo hi H Q→
   ∃T id,typeLookup (.type T) "__getitem__"=pure (some (.builtin id))/\s.TypeIs v T/\wpAny (model X.prog X.w) X.A (getItem v (.ref c)) (EP X a b Q) X.xe s
def OY(r:V->Option Int->Option Int->Hp->VK->Prop)(te:TE)(tl th:TO):TE:=λa H Q=>te a H λx H1=>tl a H1 λl H2=>th a H2 λu H3=>r x l u H3 Q
def F2{r:V->Option Int->Option Int->Hp->VK->Prop}(k:Oe X r)(he:PE X e te)(hl:PO X lo tl)(F:PO X hi th):PE X (.Subscript e (.Slice lo hi none p2) pos) (OY r te tl th):=by
 intro a s d H Q I h
 refine Subscript_ (df (he a s d H _ I h) λv C i=> ?_)
 obtain⟨x,H1,n,p,t⟩:=i
 refine wpAny_Slice (df (hl a C d H1 _ n t) λf y ⟨l,H2,G,m,J⟩=>df (F a y d H2 _ G J) λg c i=> ?_)
 obtain⟨u,H3,j,B,z⟩:=i
 rw[evalPart_none]
 refine Qgq ?_
 have o:Inv X a d H3 {c with heap:=c.heap.push {cls:=.type "slice",data:=.fields #[f,g,.none]}}:=j.kept (t':=c.toks) λb K q=>Qcq _ q
 obtain⟨T,id,hT,ht,hg⟩:=k a {c with heap:=c.heap.push {cls:=.type "slice",data:=.fields #[f,g,.none]}} d H3 x v f g l u c.heap.objs.size Q o p (Heap.IsSliceOf.new ..) m B z
 show wpAny (model X.prog X.w) X.A (subscriptTail e (.Slice lo hi none p2) v (.ref c.heap.objs.size)) (EP X a d Q) X.xe {c with heap:=c.heap.push {cls:=.type "slice",data:=.fields #[f,g,.none]}}
 exact tail_any (ops:= [.ref c.heap.objs.size,v]) ht hT hg (by with_unfolding_all rfl)
def Bq(xs:List V)(lo hi:Option Int):List V:=(xs.drop (HT.eX xs.length 0 lo)).take (HT.eX xs.length xs.length hi-HT.eX xs.length 0 lo)
def zG(xs:List V)(lo hi:Option Int):(Bq xs lo hi).length<=xs.length:=by
 unfold Bq
 rw[Qxq,List.length_drop]
 omega
def Nm(K:PySem.W.Frag):V->Option Int->Option Int->Hp->VK->Prop:=λx lo hi H Q=>∃a b,x=.ref a/\gW K H a b∧
 ¬(HT.eX b.length 0 lo=0/\HT.eX b.length b.length hi=b.length)/\∀p,H p=none->Q (.ref p) (upd H p (.tup (Bq b lo hi)))
def JR:Oe X (Nm X.K):=by
 intro i s u H x v p t lo hi y Q I l m k n h
 obtain⟨a,d,rfl,hx,hw,q⟩:=h
 cases l
 obtain⟨f,r,g,j⟩:=I.tuple hx
 have c:f.toArray.size=d.length:=by rw[Qjq];exact r.length.symm
 refine⟨"tuple",_,PyProof.Rows.slot_tuple_getitem.lookup,g.typeIs,?_⟩
 refine HT.oI g m k n (by rw[c];exact hw) ?_ (by rw[c];exact j)
 rw[c]
 refine⟨.ref s.heap.objs.size,_,I.laid (t':=s.toks) (o:=.tup (Bq d lo hi)) (λb w q=>Qcq _ q) (Qmq _) ?_,rfl,q _ (I.hok.fresh (Qmq _))⟩
 exact⟨QAq (zG d lo hi) j,_,(r.drop (HT.eX d.length 0 lo)).take (HT.eX d.length d.length hi-HT.eX d.length 0 lo),A3.new _ _⟩
def Jm(K:PySem.W.Frag):R2:=λx y H Q=>∃a b d c,x=.ref a/\y=.ref b/\gW K H a d/\gW K H b c/\d≠[]/\d.length+c.length<=sizeLine∧
 (c= []->Q (.ref a) H)/\(c≠[]->∀p,H p=none->Q (.ref p) (upd H p (.tup (d++c))))
def bM.nil_iff{xs:List V}{a:List Value}(r:bM xs a):a= []↔xs= []:=by
 cases r with
 |nil=>simp
 |cons _ _=>simp
def Ie:jF X (binaryOp .Add) (Jm X.K):=by
 intro f s p H x y v u Q I l n h
 obtain⟨a,b,k,j,rfl,rfl,ha,hb,hx,hz,q1,q2⟩:=h
 cases l
 cases n
 obtain⟨i,d,m,_⟩:=I.tuple ha
 obtain⟨g,c,p2,_⟩:=I.tuple hb
 refine HT.Hc m p2 (λz=>hx (d.nil_iff.mp z)) (λz=>⟨.ref a,H,I,rfl,q1 (c.nil_iff.mp z)⟩) (λz=> ?_) (by rw[←d.length,←c.length];exact hz)
 refine⟨.ref s.heap.objs.size,_,I.laid (t':=s.toks) (o:=.tup (k++j)) (λb r q=>Qcq _ q) (Qmq _) ?_,rfl,q2 (λw=>z (c.nil_iff.mpr w)) _ (I.hok.fresh (Qmq _))⟩
 exact⟨by rw[lQa];exact hz,_,d.append c,A3.new _ _⟩
end
def GU(n:Nat)(i:Int):Option Nat:=if 0<=i then(if i<n then some i.toNat else none) else if -(n:Int)<=i then some (i+n).toNat else none
def jU{α:Type}(xs:List α)(i:Int):Option α:=(GU xs.length i).bind λj=>xs[j]?
def Cy{n:Nat}{i:Int}{j:Nat}(h:GU n i=some j):seqIndex? i n=some j/\j<n/\ -(n:Int)<=i/\i<n:=by
 unfold GU at h
 by_cases b:0<=i
 ·rw[Qhq b] at h
  by_cases a:i<n
  ·rw[Qhq a] at h
   have e:i.toNat=j:=QdQ h
   exact⟨by rw[seqIndex_of b a,e],by omega,by omega,a⟩
  ·rw[Quq a] at h;cases h
 ·rw[Quq b] at h
  by_cases a: -(n:Int)<=i
  ·rw[Qhq a] at h
   have e:(i+n).toNat=j:=QdQ h
   exact⟨by rw[seqIndex_neg (by omega) a,e],by omega,a,by omega⟩
  ·rw[Quq a] at h;cases h
def yy{α:Type}{xs:List α}{i:Int}{v:α}(h:jU xs i=some v):∃j,seqIndex? i xs.length=some j/\xs[j]?=some v/\j<xs.length/\ -(xs.length:Int)<=i/\i<xs.length:=by
 unfold jU at h
 cases e:GU xs.length i with
 |none=>rw[e] at h;cases h
 | some j=>
   rw[e] at h
   obtain⟨c,a,d,b⟩:=Cy e
   exact⟨j,c,h,a,d,b⟩
def CS(b:Expr):Prop:=∀o i,subscripted b false o i=operate [o,i] (getItem o i)
def HH(X:Cx)(r:R2):Prop:=
 ∀ (c a:Expr) (b:List (Addr×Obj)) (s:Shared) (d:St) (H:Hp) (x y:V) (v u:Value) (Q:VK),Inv X b d H s->RelV x v->RelV y u->r x y H Q→
   subscripted a false v u=operate [v,u] (getItem v u)->wpAny (model X.prog X.w) X.A (subscriptTail c a v u) (EP X b d Q) X.xe s
def N5(X:Cx)(id:String)(r:V->List V->Hp->VK->Prop):Prop:=
 ∀ (a:List (Addr×Obj)) (s:Shared) (d:St) (H:Hp) (x:V) (c:List V) (v:Value) (b:List Value) (Q:VK),Inv X a d H s->RelV x v->bM c b->r x c H Q→
   wpAny (model X.prog X.w) X.A (call (.builtin id) (v::b)) (EP X a d Q) X.xe s
section
variable{X:Cx}{a b:Expr}{ta tb:TE}{pos:Pos}
def HH.or{r k:R2}(h:HH X r)(h':HH X k):HH X (λx y H Q=>r x y H Q\/k x y H Q):=by
 intro d c e s i H x y v u Q I f j q g
 rcases q with q|q
 ·exact h d c e s i H x y v u Q I f j q g
 ·exact h' d c e s i H x y v u Q I f j q g
def Mj{r:R2}(d:HH X r)(g:PE X a ta)(k:PE X b tb)(f:CS b):PE X (.Subscript a b pos) (Gx r ta tb):=by
 intro c s j H Q I h
 exact Subscript_ (Kp g k I h λv u i x y H2 l e m q=>d a b c i j H2 x y v u Q l e m q (f _ _))
def Mi(K:PySem.W.Frag):R2:=λx y H Q=>∃p c i v,x=.ref p/\y=.int i/\iX K H p c/\jU c i=some v/\Q v H
def LQ(K:PySem.W.Frag):R2:=λx y H Q=>∃p c i v,x=.ref p/\y=.int i/\gW K H p c/\jU c i=some v/\Q v H
def LR:R2:=λx y H Q=>∃z i c,x=.str z/\y=.int i/\z.length<=sizeLine/\jU z.cps.toList i=some c/\Q (.str ⟨#[c]⟩) H
def Hk:HH X (Mi X.K):=by
 intro n m c s B H x y v u Q I J N h o
 obtain⟨p,P,i,z,rfl,rfl,hq,he,q⟩:=h
 cases J
 obtain⟨t,rfl⟩:=N
 obtain⟨f,r,g,S⟩:=I.list hq
 obtain⟨j,e,M,U,F,G⟩:=yy he
 obtain⟨w,A,k⟩:=r.get M
 have hl:=r.length
 have R:=lj
 have d:EP X c B Q w s:=⟨z,H,I,k,q⟩
 by_cases C:0<=i
 ·have l:i.toNat=j:=by
   rw[seqIndex_of C G] at e
   exact QdQ e
  exact item_listR g.isList C (by omega) (by rw[l];simpa using A) d o
 ·have l:(i+(f.toArray.size:Int)).toNat=j:=by
   rw[seqIndex_neg (by omega) F] at e
   rw[Qjq,←hl]
   exact QdQ e
  exact subscriptTail_builtinR (x:=w) g.isList.typeIs slot_list_getitem.lookup
   (wpAny_getItem_list_neg (Q:=λr L=>r=w/\EP X c B Q r L) g.isList (by omega) (by rw[Qjq] <;>omega) (by omega) (by rw[l];simpa using A) ⟨rfl,d⟩) o
def KD:HH X (LQ X.K):=by
 intro f e c s l H x y v u Q I n G h B
 obtain⟨p,J,i,z,rfl,rfl,hq,he,q⟩:=h
 cases n
 obtain⟨t,rfl⟩:=G
 obtain⟨m,r,k,P⟩:=I.tuple hq
 obtain⟨j,o,F,R,L,M⟩:=yy he
 obtain⟨w,C,d⟩:=r.get F
 have hl:=r.length
 have N:=lj
 have g:EP X c l Q w s:=⟨z,H,I,d,q⟩
 exact subscriptTail_builtinR (x:=w) k.typeIs slot_tuple_getitem.lookup
  (getItem_tuple (j:=j) (Q:=λr A=>r=w/\EP X c l Q r A) k (by omega) (by omega) (by rw[Qjq,←hl];exact o) (by simpa using C) ⟨rfl,g⟩) B
def KN:HH X LR:=by
 intro e d g s B H x y v u Q I n w h o
 obtain⟨z,i,c,rfl,rfl,hz,he,q⟩:=h
 obtain⟨t,rfl⟩:=n
 obtain⟨F,rfl⟩:=w
 obtain⟨j,f,r,C,l,m⟩:=yy he
 have hl:z.cps.toList.length=z.length:=by simp[Str.length]
 rw[hl] at f l m
 have A:=lj
 exact tail_any (typeIs_str s z t) slot_str_getitem.lookup (getItem_str (c:=c) (by
  have k:decide (i< -(2^63:Int))=false:=Qdq (by omega)
  have p:decide (i>=2^63)=false:=Qdq (by omega)
  rw[k,p,Bool.or_false]) (by rw[f];simpa using r) ⟨.str ⟨#[c]⟩,H,I.tok _,⟨_,rfl⟩,q⟩) o
def Ov(K:PySem.W.Frag):R2:=λx y H Q=>Mi K x y H Q\/LQ K x y H Q\/LR x y H Q
def Jw:HH X (Ov X.K):=Hk.or (KD.or KN)
def Bf(c:List Value)(n j:Nat)(u:Value):Obj.mapSeq (·.setIfInBounds j u) {cls:=.type "list",data:=.seq c.toArray n}={cls:=.type "list",data:=.seq (c.set j u).toArray n}:=by
 simp[Obj.mapSeq]
def Inv.lst{d:List (Addr×Obj)}{f:St}{H:Hp}{s:Shared}{p:Addr}{xs:List V}(I:Inv X d f H s)(h:H p=some (.lst xs)):
  ∃(c:List Value) (n:Nat),bM xs c/\s.heap.get? p=some {cls:=.type "list",data:=.seq c.toArray n}/\xs.length<=sizeLine:=by
 obtain⟨z,c,n,r,e⟩:=I.hok p _ h
 exact⟨c,n,r,e,z⟩
def Inv.lstUpd{c:List (Addr×Obj)}{j:St}{H:Hp}{s:Shared}{p:Addr}{xs ys:List V}{d its':List Value}{n g:Nat}{f:Obj->Obj}(I:Inv X c j H s)(h:H p=some (.lst xs))
  (k:s.heap.get? p=some {cls:=.type "list",data:=.seq d.toArray n}) (i:f {cls:=.type "list",data:=.seq d.toArray n}={cls:=.type "list",data:=.seq its'.toArray g}) (r:bM ys its') (hz:ys.length<=sizeLine) (t:Nat):
  Inv X c j (upd H p (.lst ys)) {s with heap:=s.heap.update p f,toks:=t}:=by
 have e:(s.heap.update p f).get? p=some {cls:=.type "list",data:=.seq its'.toArray g}:=by
  rw[Heap.get?_update_self f k (by rw[i] <;>rfl),i]
 refine I.write (x:=p) (e:=p) (by rw[h];trivial) (.inl rfl) (λb u l q=>(Heap.get?_update_other _ _ (Ne.symm l)).trans q) ⟨_,e⟩ ?_
 exact⟨hz,its',g,r,e⟩
def Jc:V->V->V->Hp->(Hp->Prop)->Prop:=λo i v H Q=>∃p c k j,o=.ref p/\i=.int k/\H p=some (.lst c)/\GU c.length k=some j/\Q (upd H p (.lst (c.set j v)))
def set_list:MW X Jc:=by
 intro d s B H o i v G J u Q I y A F h
 obtain⟨p,z,k,j,rfl,rfl,hp,hj,q⟩:=h
 cases y
 obtain⟨t,rfl⟩:=A
 obtain⟨c,n,r,f,C⟩:=I.lst hp
 obtain⟨e,L,m,l⟩:=Cy hj
 have hl:=r.length
 have K:=lj
 have x:Inv X d B (upd H p (.lst (z.set j v))) {s with heap:=s.heap.update p (Obj.mapSeq (·.setIfInBounds j u))}:=
  I.lstUpd hp f (Bf c n j u) (r.set F j) (by rw[List.length_set];exact C) s.toks
 by_cases w:0<=k
 ·have g:k.toNat=j:=by
   rw[seqIndex_of w l] at e
   exact QdQ e
  exact PySem.W.ki_setAt f w (by omega) (by rw[Qjq,←hl];exact l) (by rw[g];exact⟨_,x,q⟩)
 ·have g:(k+(c.toArray.size:Int)).toNat=j:=by
   rw[seqIndex_neg (by omega) m] at e
   rw[Qjq,←hl]
   exact QdQ e
  exact PySem.W.ki_setBack f (by omega) (by rw[Qjq,←hl];exact m) (by omega) (by rw[g];exact⟨_,x,q⟩)
def hJ:V->Bool
 |.non=>true
 |.bl _=>true
 |.int _=>true
 |.str _=>true
 |_=>false
def sA:V->V->Bool
 |.non,.non=>true
 |.bl a,.bl b=>a==b
 |.bl a,.int b=>(if a then 1 else 0)==b
 |.int a,.bl b=>a==(if b then 1 else 0)
 |.int a,.int b=>a==b
 |.str a,.str b=>a==b
 |_,_=>false
def Ga{A:Around}{s:Shared}{y x:V}{u v:Value}(f:RelV y u)(c:RelV x v)(g:hJ y=true)(e:hJ x=true):SeqAt.EqAt A s u v (sA y x):=by
 cases y with
 | non=>
   cases f
   cases x with
   |non=>cases c;exact SeqAt.EqAt.same _
   |bl b=>cases c;exact SeqAt.EqAt.none_bool b
   |int b=>obtain⟨t,rfl⟩:=c;exact SeqAt.EqAt.none_int b t
   |str b=>obtain⟨t,rfl⟩:=c;exact SeqAt.EqAt.none_str b t
   |_=>exact absurd (show false=true from e) Qtq
 | bl a=>
   cases f
   cases x with
   |non=>cases c;exact SeqAt.EqAt.bool_none a
   |bl b=>cases c;exact SeqAt.EqAt.bool_bool a b
   |int b=>obtain⟨t,rfl⟩:=c;exact SeqAt.EqAt.bool_int a b t
   |str b=>obtain⟨t,rfl⟩:=c;exact SeqAt.EqAt.bool_str a b t
   |_=>exact absurd (show false=true from e) Qtq
 | int a=>
   obtain⟨d,rfl⟩:=f
   cases x with
   |non=>cases c;exact SeqAt.EqAt.int_none a d
   |bl b=>cases c;exact SeqAt.EqAt.int_bool a d b
   |int b=>obtain⟨t,rfl⟩:=c;exact SeqAt.EqAt.int_int a d b t
   |str b=>obtain⟨t,rfl⟩:=c;exact SeqAt.EqAt.int_str a d b t
   |_=>exact absurd (show false=true from e) Qtq
 | str a=>
   obtain⟨d,rfl⟩:=f
   cases x with
   |non=>cases c;exact SeqAt.EqAt.str_none a d
   |bl b=>cases c;exact SeqAt.EqAt.str_bool a d b
   |int b=>obtain⟨t,rfl⟩:=c;exact SeqAt.EqAt.str_int a d b t
   |str b=>obtain⟨t,rfl⟩:=c;exact SeqAt.EqAt.str_str a d b t
   |_=>exact absurd (show false=true from e) Qtq
 |_=>exact absurd (show false=true from g) Qtq
def A8(x:V)(u:Value):Bool:=match u with
 |.none=>sA .non x
 |.bool b=>sA (.bl b) x
 |.int i _=>sA (.int i) x
 |.str z _=>sA (.str z) x
 |_=>false
def xY{x y:V}{u:Value}(r:RelV y u)(f:hJ y=true):A8 x u=sA y x:=by
 cases y with
 |non=>cases r;rfl
 |bl b=>cases r;rfl
 |int i=>obtain⟨t,rfl⟩:=r;rfl
 |str z=>obtain⟨t,rfl⟩:=r;rfl
 |_=>exact absurd (show false=true from f) Qtq
theorem pL{x:V}:∀{xs:List V} {c:List Value},bM xs c->xs.all hJ=true->c.any (A8 x)=xs.any λy=>sA y x
 |_,_,.nil,_=>rfl
 | y::xs,u::c,.cons r t,f=>by
   rw[List.all_cons,QCq] at f
   rw[List.any_cons,List.any_cons,xY r f.1,pL t f.2]
theorem jT{A:Around}{s:Shared}{x:V}{v:Value}(e:RelV x v)(g:hJ x=true):∀{xs:List V} {d:List Value},bM xs d->xs.all hJ=true->∀u∈d,SeqAt.EqAt A s u v (A8 x u)
 |_,_,.nil,_=>λu c=>by cases c
 | y::xs,u::d,.cons r t,f=>λh c=>by
   rw[List.all_cons,QCq] at f
   rcases Qsq.mp c with rfl|c
   · rw[xY r f.1];exact Ga r e f.1 g
   · exact jT e g t f.2 h c
def GI(x:V)(xs:List V):Bool:=xs.any λy=>sA y x
def NS(K:PySem.W.Frag)(d:Bool):R2:=λx y H Q=>∃p c,y=.ref p/\(iX K H p c\/gW K H p c)/\hJ x=true/\c.all hJ=true/\Q (.bl (if d then !GI x c else GI x c)) H
def DJ:jF X (compareOp .In) (NS X.K false):=by
 intro i s m H x y v u Q I g k h
 obtain⟨p,l,rfl,d,fx,fs,q⟩:=h
 cases k
 rcases d with d|d
 ·obtain⟨c,r,e,j⟩:=I.list d
  refine SeqAt.in_listAt (A8 x) e.isList (λw f=>jT g fx r fs w (by simpa using f)) ⟨.bl _,H,I,rfl,?_⟩
  rw[show c.toArray.any (A8 x)=c.any (A8 x) by simp,pL r fs]
  exact q
 ·obtain⟨c,r,e,j⟩:=I.tuple d
  refine SeqAt.in_tupleAt (A8 x) e (λw f=>jT g fx r fs w (by simpa using f)) ⟨.bl _,H,I,rfl,?_⟩
  rw[show c.toArray.any (A8 x)=c.any (A8 x) by simp,pL r fs]
  exact q
def yG:jF X (compareOp .NotIn) (NS X.K true):=by
 intro i s m H x y v u Q I g k h
 obtain⟨p,l,rfl,d,fx,fs,q⟩:=h
 cases k
 rcases d with d|d
 ·obtain⟨c,r,e,j⟩:=I.list d
  refine SeqAt.notIn_listAt (A8 x) e.isList (λw f=>jT g fx r fs w (by simpa using f)) ⟨.bl _,H,I,rfl,?_⟩
  rw[show c.toArray.any (A8 x)=c.any (A8 x) by simp,pL r fs]
  exact q
 ·obtain⟨c,r,e,j⟩:=I.tuple d
  refine SeqAt.notIn_tupleAt (A8 x) e (λw f=>jT g fx r fs w (by simpa using f)) ⟨.bl _,H,I,rfl,?_⟩
  rw[show c.toArray.any (A8 x)=c.any (A8 x) by simp,pL r fs]
  exact q
def oZ:gP X (.builtin "len") (λxs H Q=>∃p ys,xs= [.ref p]/\(iX X.K H p ys\/gW X.K H p ys)/\Q (.int ys.length) H):=by
 intro i s m H xs l Q I r h
 obtain⟨p,ys,rfl,d,q⟩:=h
 obtain⟨u,rfl,rx⟩:=vals1 r
 cases rx
 have k:=lj
 rcases d with d|d
 ·obtain⟨e,g,f,j⟩:=I.list d
  have c:=g.length
  exact Calls.call_len_list f.isList (by simp only[Qjq] <;>omega) ⟨.int ys.length,H,I.tok _,⟨s.toks+1,by rw[Qjq,c]⟩,q⟩
 ·obtain⟨e,g,f,j⟩:=I.tuple d
  have c:=g.length
  exact len_tuple f (by simp only[Qjq] <;>omega) ⟨.int ys.length,H,I.tok _,⟨s.toks+1,by rw[Qjq,c]⟩,q⟩
def yw:gP X (.builtin "len") (λxs H Q=>∃z,xs= [.str z]/\z.length<=sizeLine/\Q (.int z.length) H):=by
 intro c s e H xs d Q I r h
 obtain⟨z,rfl,hz,q⟩:=h
 obtain⟨u,rfl,t,rfl⟩:=vals1 r
 have f:=lj
 exact len_str (by omega) ⟨.int z.length,H,I.tok _,⟨_,rfl⟩,q⟩
def gP.or{f:Value}{r i:List V->Hp->VK->Prop}(h:gP X f r)(h':gP X f i):gP X f (λxs H Q=>r xs H Q\/i xs H Q):=by
 intro c s e H xs d Q I g q
 rcases q with q|q
 ·exact h c s e H xs d Q I g q
 ·exact h' c s e H xs d Q I g q
def y0:gP X (.type "list") (λxs H Q=>∃p ys,xs= [.ref p]/\(iX X.K H p ys\/gW X.K H p ys)/\∀l,H l=none->Q (.ref l) (upd H l (.lst ys))):=by
 intro k s C H xs F Q I r h
 obtain⟨p,ys,rfl,v,q⟩:=h
 obtain⟨u,rfl,rx⟩:=vals1 r
 cases rx
 have t:∀(c:List Value),bM ys c->ys.length<=sizeLine->∀(d:Heap) (f:Nat),(∀b B,s.heap.get? b=some B->d.get? b=some B)→
   d.get? s.heap.objs.size=some {cls:=.type "list",dict:=none,data:=.seq c.toArray f,slots:= #[]}->EP X k C Q (.ref s.heap.objs.size) {s with heap:=d}:=λc g m d f j e=>
  ⟨.ref s.heap.objs.size,_,I.laid (t':=s.toks) j (Qmq _) (show cZ X.prog X.w _ d _ (.lst ys) from⟨m,c,f,g,e⟩),rfl,q _ (I.hok.fresh (Qmq _))⟩
 rcases v with v|v
 ·obtain⟨c,g,x,m⟩:=I.list v
  have i:=g.length
  obtain⟨o,y,z,n,A⟩:=x.isList
  exact call_list_seq p (.inl rfl) y z A (λd f j e=>t c g m d f j e) (by simp only[Qjq] <;>omega)
 ·obtain⟨c,g,x,m⟩:=I.tuple v
  have i:=g.length
  obtain⟨o,y,z,n,A⟩:=x
  exact call_list_seq p (.inr rfl) y z A (λd f j e=>t c g m d f j e) (by simp only[Qjq] <;>omega)
def vT:gP X (.type "tuple") (λxs H Q=>∃p ys,xs= [.ref p]/\((iX X.K H p ys/\∀l,H l=none->Q (.ref l) (upd H l (.tup ys)))\/(gW X.K H p ys/\Q (.ref p) H))):=by
 intro c s n H xs y Q I r h
 obtain⟨p,ys,rfl,h⟩:=h
 obtain⟨u,rfl,rx⟩:=vals1 r
 cases rx
 rcases h with⟨i,q⟩|⟨i,q⟩
 ·obtain⟨d,j,g,t⟩:=I.list i
  have k:=j.length
  refine call_tuple_list g.isList (λf v=> ?_) (by simp only[Qjq] <;>omega)
  have m:Inv X c n H {s with heap:=f}:=I.kept (t':=s.toks) v
  have x:Inv X c n (upd H f.objs.size (.tup ys)) {s with heap:=f.push {cls:=.type "tuple",data:=.seq d.toArray}}:=
   m.laid (t':=s.toks) (λb o e=>Qcq _ e) (Qmq _) (show cZ X.prog X.w _ _ _ (.tup ys) from⟨t,d,j,A3.new _ _⟩)
  exact⟨.ref f.objs.size,_,x,rfl,q _ (m.hok.fresh (Qmq _))⟩
 ·obtain⟨d,j,g,t⟩:=I.tuple i
  exact call_tuple_same g ⟨.ref p,H,I,rfl,q⟩
def On(K:PySem.W.Frag)(T:String)(x:V)(H:Hp):Prop:=match x with
 |.str _=>T="str"
 |.int _=>T="int"
 |.ref p=>(T="list" /\∃d,iX K H p d)\/(T="tuple" /\∃o,K.lookup p=some o/\o.cls=.type "tuple" /\o.dict=none)∨
   (T="dict" /\((∃c,H p=some (.dK c))\/∃c,H p=some (.dT c)))\/(T="set" /\∃S n,H p=some (.set S n))
 |_=>False
def KP{g:List (Addr×Obj)}{w:St}{H:Hp}{s:Shared}{T:String}{x:V}{v:Value}(I:Inv X g w H s)(r:RelV x v)(h:On X.K T x H):
  s.TypeIs v T/\∀a,v=.ref a->∃q,s.heap.get? a=some q/\q.dict=none:=by
 cases x with
 | str z=>
   obtain⟨t,rfl⟩:=r
   cases (show T="str" from h)
   exact⟨typeIs_str s z t,λ_ e=>nomatch e⟩
 | int i=>
   obtain⟨t,rfl⟩:=r
   cases (show T="int" from h)
   exact⟨typeIs_int s i t,λ_ e=>nomatch e⟩
 | ref p=>
   cases r
   rcases h with⟨rfl,xs,hq⟩|⟨rfl,o,d,hc,k⟩|⟨rfl,d⟩|⟨rfl,S,n,d⟩
   · obtain⟨u,_,m,_⟩:=I.list hq
     refine⟨m.isList.typeIs,λa e=> ?_⟩
     cases e
     obtain⟨o,n,e,c,k,_⟩:=m
     exact⟨o,e,k⟩
   · refine⟨⟨o,I.kIn p o d,hc⟩,λa e=> ?_⟩
     cases e
     exact⟨o,I.kIn _ o d,k⟩
   · have z:∃o,s.heap.get? p=some o/\o.ExactDict:=by
       rcases d with⟨j,d⟩|⟨j,d⟩
       · obtain⟨_,_,_,_,o,_,_,e,f,_⟩:=I.hok p _ d
         exact⟨o,e,f⟩
       · obtain⟨_,_,_,_,o,_,_,e,f,_⟩:=I.hok p _ d
         exact⟨o,e,f⟩
     obtain⟨o,e,f⟩:=z
     refine⟨⟨o,e,f.1⟩,λa l=> ?_⟩
     cases l
     exact⟨o,e,f.2.1⟩
   · obtain⟨o,_,_,_,e,f,_⟩:=I.hok p _ d
     refine⟨⟨o,e,f.1⟩,λa l=> ?_⟩
     cases l
     exact⟨o,e,f.2.1⟩
 |_=>exact False.elim h
def M7(K:PySem.W.Frag)(T:String)(r:V->List V->Hp->VK->Prop)(d:TE)(t:TA):TE:=λc H Q=>d c H λx H1=>On K T x H1/\t c H1 λe H2=>r x e H2 Q
variable{o e:Expr}{es:List Expr}{to:TE}{t:TA}{name:Str}{apos cpos:Pos}{T id:String}{r:V->List V->Hp->VK->Prop}
def AQ(R:PlainAttrs T)(slot:Slot T name id)(k:typeOf (.builtin id)=pure (.type "method_descriptor"))(N:N5 X id r)(q:PE X o to)(B:PA X (e::es) t)
  (f:attributeBase o name X.env (eval o X.env)=eval o X.env:=by rfl)
  (i:((backTo cpos (starEach (e::es) X.env)).all (λx=> !x.1)&&(backToKw cpos (keywordEach [] X.env)).all (λx=>x.1.isSome)
   &&decide ((e::es).length+([]:List Keyword).length+(if ([]:List Keyword).isEmpty then 0 else 1)<30))=true:=by rfl)
  (g:(apos.endLine==cpos.line)=true:=by rfl) (A:starEach (e::es) X.env=(false,eval e X.env)::starEach es X.env:=by rfl) (d:(backTo cpos (starEach es X.env)).any (·.1)=false:=by rfl):
  PE X (.Call (.Attribute o name apos) (e::es) [] cpos) (M7 X.K T r to t):=by
 intro c s j H Q I h
 refine wpAny_Call_method_late f i g rfl (df (q c s j H _ I h) λv J p=> ?_)
 obtain⟨x,H1,l,m,u,z⟩:=p
 obtain⟨y,G⟩:=KP l m u
 refine⟨T,id,R,slot,k,y,G,?_⟩
 have n:=B cpos c J j H1 _ l z
 rw[A] at n⊢
 refine Calls.callWith_builtin (by show(false||(backTo cpos (starEach es X.env)).any (·.1))=false;rw[d] <;>rfl) (Calls.evalArgs_plain ?_)
 exact df n λF C ⟨w,H2,M,L,P⟩=>N c C j H2 x w v F Q M m L P
end
def N8(X:Cx)(id:String)(r:V->List V->Hp->VK->Prop):Prop:=
 ∀ (a:List (Addr×Obj)) (s:Shared) (d:St) (H:Hp) (x:V) (c:List V) (v:Value) (b:List Value) (Q:VK),Inv X a d H s->RelV x v->bM c b->r x c H Q→
   wpAny (model X.prog X.w) X.A (call (.builtin id) (v::b)) (EP X a d Q) X.xe s
def bM.one:∀{x:V} {a:List Value},bM [x] a->∃u,a= [u]/\RelV x u
 |_,_,.cons r .nil=>⟨_,rfl,r⟩
theorem bM.rep{xs:List V}{a:List Value}(h:bM xs a):∀k:Nat,bM (List.replicate k xs).flatten (List.replicate k a).flatten
 |0=>.nil
 | k+1=>by
   rw[QNq,QNq,List.flatten_cons,List.flatten_cons]
   exact bM.append h (bM.rep h k)
theorem foldl_rep(a:List Value):∀(k:Nat) (b:List Value),
  List.foldl (λf d=>f++d) b.toArray (List.replicate k a.toArray)=(b++(List.replicate k a).flatten).toArray
 |0,b=>by simp
 | k+1,b=>by
   have e:b.toArray++a.toArray=(b++a).toArray:=by simp
   have c:(b++a)++(List.replicate k a).flatten=b++(List.replicate (k+1) a).flatten:=by
     rw[QNq,List.flatten_cons,Qvq]
   rw[←c,←foldl_rep a k (b++a),←e,QNq,List.foldl_cons]
section
variable{X:Cx}{pins:List (Addr×Obj)}{σ:St}{H:Hp}{s:Shared}{l b:Addr}{xs ys zs:List V}
def Inv.lset{a its':List Value}{n:Nat}{f:Array Value->Array Value}{t':Nat}(I:Inv X pins σ H s)(d:H l=some (.lst xs))
  (e:s.heap.get? l=some {cls:=.type "list",data:=.seq a.toArray n}) (i:f a.toArray=its'.toArray) (g:bM ys its') (hz:ys.length<=sizeLine):
  Inv X pins σ (upd H l (.lst ys)) {s with heap:=s.heap.update l (Obj.mapSeq f),toks:=t'}:=by
 have q:=PySem.IsL.update e f
 rw[i] at q
 refine I.write (x:=l) (e:=l) (by rw[d];exact trivial) (.inl rfl) (λj u h c=>(Heap.get?_update_other s.heap (Obj.mapSeq f) (Ne.symm h)).trans c) ⟨_,q⟩ ?_
 exact⟨hz,its',_,g,q⟩
def Inv.lnew{a:List Value}{t':Nat}(I:Inv X pins σ H s)(c:bM ys a)(hz:ys.length<=sizeLine):
  Inv X pins σ (upd H s.heap.objs.size (.lst ys)) {s with heap:=s.heap.push {cls:=.type "list",data:=.seq a.toArray},toks:=t'}:=
 I.laid (λ_ _ q=>Qcq _ q) (Qmq _) ⟨hz,a,0,c,Qrq _ rfl⟩
def Inv.fresh(I:Inv X pins σ H s):H s.heap.objs.size=none:=I.hok.fresh (Qmq _)
def Inv.lstM(I:Inv X pins σ H s)(c:H l=some (.lst xs)):xs.length<=sizeLine/\∃(a:List Value) (n:Nat),bM xs a/\xs.length=a.length/\s.heap.get? l=some {cls:=.type "list",data:=.seq a.toArray n}:=by
 obtain⟨z,a,n,r,e⟩:=I.hok l _ c
 exact⟨z,a,n,r,r.length,e⟩
def tM{n:Nat}(h:n<=sizeLine):Builtin.List.listTooLong n=false:=by
 unfold Builtin.List.listTooLong
 exact Qdq (by omega)
end
section
variable{X:Cx}
def CQ:V->List V->Hp->VK->Prop:=λx b H Q=>∃l a y,x=.ref l/\b= [y]/\H l=some (.lst a)/\a.length<sizeLine/\Q .non (upd H l (.lst (a++ [y])))
def qx:N8 X "list.append" CQ:=by
 intro b s j H x g v i Q I c d h
 obtain⟨l,f,y,rfl,rfl,hH,hz,q⟩:=h
 cases c
 obtain⟨u,rfl,ru⟩:=d.one
 obtain⟨z,a,n,r,hl,e⟩:=I.lstM hH
 refine call_meets F.slot_list_append ⟨_,e,rfl⟩ F.entry_list_append (F.args_list_append_2 _ _) (PySem.list_append l a.toArray n u (by rw[Qjq];omega)) ⟨e,?_⟩
 refine⟨.non,_,I.lset (its':=a++ [u]) hH e (by simp) (r.append (.cons ru .nil)) ?_,rfl,q⟩
 rw[lQa,List.length_singleton]
 omega
def Dm:V->List V->Hp->VK->Prop:=λx d H Q=>∃l b c a,x=.ref l/\d= [.ref b]/\H l=some (.lst c)/\H b=some (.lst a)/\c.length+a.length<=sizeLine/\Q .non (upd H l (.lst (c++a)))
def EM:N8 X "list.extend" Dm:=by
 intro g s C H x y v B Q I i p h
 obtain⟨l,b,w,t,rfl,rfl,hH,hB,hz,q⟩:=h
 cases i
 obtain⟨u,rfl,ru⟩:=p.one
 cases ru
 obtain⟨z,c,n,r,hl,e⟩:=I.lstM hH
 obtain⟨A,a,j,o,m,k⟩:=I.lstM hB
 have f:c.toArray.size+a.toArray.size<=sizeLine:=by rw[Qjq,Qjq];omega
 have d:¬(!c.toArray.isEmpty&&Builtin.List.listTooLong (c.toArray.size+a.toArray.size))=true:=by
  rw[tM f,Bool.and_false]
  exact Qtq
 refine call_meets F.slot_list_extend ⟨_,e,rfl⟩ F.entry_list_extend (F.args_list_extend_2 _ _)
  (AutoSeq1.list_extend_list_list_0 l c.toArray n b a.toArray j d (by rw[Qjq];omega) (by omega)) ⟨e,k,?_⟩
 refine⟨.non,_,I.lset (its':=c++a) hH e (by simp) (r.append o) ?_,rfl,q⟩
 rw[lQa]
 omega
def N_:R2:=λx y H Q=>∃l b c a,x=.ref l/\y=.ref b/\H l=some (.lst c)/\H b=some (.lst a)/\c.length+a.length<=sizeLine/\∀p,H p=none->Q (.ref p) (upd H p (.lst (c++a)))
def KG:jF X (binaryOp .Add) N_:=by
 intro d s A H x y v u Q I f m h
 obtain⟨l,b,p,o,rfl,rfl,hH,hB,hz,q⟩:=h
 cases f
 cases m
 obtain⟨z,c,n,r,hl,e⟩:=I.lstM hH
 obtain⟨w,a,t,k,j,g⟩:=I.lstM hB
 refine PySem.P.add_list e g ?_ (by rw[Qjq,Qjq];omega)
 have i:c.toArray++a.toArray=(c++a).toArray:=by simp
 rw[i]
 exact⟨.ref _,_,I.lnew (t':=s.toks) (r.append k) (by rw[lQa];omega),rfl,q _ I.fresh⟩
def Od:R2:=λx y H Q=>∃l k a,x=.ref l/\y=.int k/\H l=some (.lst a)/\ -(2^63)<=k/\k<2^63/\a.length*k.toNat<=sizeLine∧
 ∀p,H p=none->Q (.ref p) (upd H p (.lst (List.replicate k.toNat a).flatten))
def len_rep{α:Type}(xs:List α)(k:Nat):(List.replicate k xs).flatten.length=k*xs.length:=by
 induction k with
 |zero=>simp
 |succ k a=>rw[QNq,List.flatten_cons,lQa,a,Nat.succ_mul,Nat.add_comm]
def JT:jF X (binaryOp .Mult) Od:=by
 intro p s J H x y v u Q I A C h
 obtain⟨l,k,G,rfl,rfl,hH,h1,h2,hz,q⟩:=h
 cases A
 obtain⟨t,rfl⟩:=C
 obtain⟨z,b,n,r,hl,e⟩:=I.lstM hH
 have f:b.toArray.size*k.toNat<=sizeLine:=by rw[Qjq,←hl];exact hz
 have g:¬b.toArray.size*k.toNat>(2^63-1)/8:=by
  have:(sizeLine:Nat)<=(2^63-1)/8:=by decide
  omega
 have d:¬(!Builtin.List.listFitsIndex k)=true:=by
  rw[fitsIndex_both h1 h2]
  exact Qtq
 have c:¬Builtin.List.listTooLong (b.toArray.size*k.toNat)=true:=by
  rw[tM f]
  exact Qtq
 have i:List.foldl (λo j=>o++j) #[] (List.replicate (if b.toArray.isEmpty=true then 0 else k.toNat) b.toArray)=(List.replicate k.toNat b).flatten.toArray:=by
  have w:∀m:Nat,List.foldl (λo j=>o++j) #[] (List.replicate m b.toArray)=(List.replicate m b).flatten.toArray:=λm=>by
   have:=foldl_rep b m []
   rw[List.nil_append] at this
   exact this
  rw[w]
  cases b with
  |nil=>simp
  |cons a K=>rw[Quq (by simp)]
 refine wpAny_binaryOp_repeat_ref (T:="list") (U:="int") (by decide) ⟨_,e,rfl⟩ (λB=>typeIs_int B k t) noFill_list_mul F.fills_int_mul F.slot_int_rmul repeat_list F.slot_int_index.lookup
  (call_meets F.slot_int_rmul (typeIs_int s k t) F.entry_int_rmul (F.args_int_rmul_2 _ _) (int___rmul___int_list k t l b.toArray n)
   ⟨e,rfl,⟨_,e,rfl⟩,call_meets F.slot_list_mul ⟨_,e,rfl⟩ F.entry_list_mul (F.args_list_mul_2 _ _) (AutoListH.list___mul___list_int_3 l b.toArray n k t d g c) ⟨e,?_⟩⟩)
 rw[i]
 exact⟨.ref _,_,I.lnew (t':=s.toks) (r.rep k.toNat) (by rw[len_rep,Nat.mul_comm];exact hz),rfl,q _ I.fresh⟩
end
end L2
namespace Att
open PySem PySem.W PySem.Calls PyProof.Rows
def sO{P:Params}{h:Heap}:∀(ns:List Int) (vs:List Value),WellAll P h vs (ns.map WData.int)->IntsAre vs ns:=by
 intro ns
 induction ns with
 | nil=>
   intro vs w
   rw[List.map_nil] at w
   cases w
   exact .nil
 | cons n ns c=>
   intro vs w
   rw[QDq] at w
   cases w with
   | cons a b=>
     cases a
     exact .cons _ _ (c _ b)
def DK{l:OpenLaw}{n:Nat}(p:l.most=some n){P:Params}{h:Heap}{args:List WData}{vals:List Value}
  (b:l.row.toRowW.claim.pre args=true) (i:WellAll P h vals args):
  ∃a vs ns,vals= [Value.ref a]/\args= [WData.list (ns.map WData.int)]/\h.get? a=some {cls:=.type "list",data:=.seq vs.toArray}/\IntsAre vs ns/\ns.length<=n:=by
 have j:WShape.hasAll [] args [.list .int]=true:=(pre_splitW b).1
 have k:l.pre.holds [] {args:=args}=true:=(pre_splitW b).2
 obtain⟨d,r,rfl,h1,h2⟩:=hasAllW_cons j
 obtain rfl:=hasAllW_nil h2
 obtain⟨u,rfl,h3⟩:=hasW_list h1
 obtain⟨ns,rfl⟩:=items_int h3
 have e:ns.length<=n:=by
  unfold OpenLaw.pre at k
  have f:(WTm.not (.lt (.lit (.int (n:Int))) (.len (.arg 0)))).holds [] {args:= [.list (ns.map .int)]}=true:=by
   have f:=(holds_andW k).1
   rw[p] at f
   exact f
  have g:=condW_of f (w_not (w_lt w_lit (w_len_list (w_arg rfl))))
  rw[lQm] at g
  refine Nat.le_of_not_lt λq=> ?_
  have s:(n:Int)<((ns.length:Nat):Int):=by omega
  first
   |(rw[Qeq s] at g;exact absurd g (by decide))
   |(simp at g;omega)
 cases i with
 | cons o t=>
   cases t
   cases o with
   |list m c=>exact⟨_,_,ns,rfl,rfl,m,sO ns _ c,e⟩
def D7(l:OpenLaw)(args:List WData):l.row.toRowW.claim.post args (.bool true) args=true:=
 postW_of (r:=l.row.toRowW) (X:=(true==true))
  (show WShape.has [] (.bool true) .bool=true by first|rfl|decide|simp[WShape.has,WShape.arms,WShape.armsAll])
  (show(WTm.eq .res (.lit (.bool true))).value [] {args:=args,res:=some (.bool true),after:=args}=some (.bool (true==true)) from w_eq_bool (w_res rfl) w_lit) rfl
def zw{l:OpenLaw}{n:Nat}{q:Program}{c:List Str}{B:(Str->Option Value)->Heap->Prop}{C:World->Heap->Prop}{d:DefRec}
  (J:l.most=some n) (m:d.params.defaults= [])
  (i:∀(w:World) (s₀ b:Shared) (mg v:Str->Option Value) (g:Addr) (o:Obj) (u k e:Value) (a:Addr) (vs:List Value) (ns:List Int),
   Ground q c [] B w s₀ mg v b.heap->C w b.heap→
   b.heap.get? g=some o->o.data=.func (docDef d.name d.params d.body d.scope u k e)->b.heap.CodeRec k d.name->mg d.name=some (.ref g)→
   b.heap.get? a=some {cls:=.type "list",data:=.seq vs.toArray}->IntsAre vs ns->ns.length<=n->b.gens= #[]→
   codeAny (model l.prog w) callerA (.call (.ref g) ⟨[.ref a],[]⟩) (λr j=>r=.ok (.ret (.bool true))/\OldK b.heap j.heap/\j.os=b.os/\AllBare j.gens) b):
  WalkO q c B C l.row.toRowW d [] (λf vs=>PySem.call f vs):=by
 intro w s₀ b mg v G Y g o u k e N kV F I t y s H z x Q h A K p L
 obtain rfl:N=.none:=Dflts.none y m
 obtain rfl:kV=.none:=Dflts.noKw y
 obtain⟨a,vs,ns,rfl,rfl,hobj,hints,hlen⟩:=DK J h p
 refine enter_call (codeAny_mono (i w s₀ b mg v g o u k e a vs ns G Y F (fd_plain I) t s hobj hints hlen H) λr j P=> ?_)
 obtain⟨rfl,h2,h3,h4⟩:=P
 exact⟨.inl ⟨.bool true,.bool true,[],rfl,λ_=>rfl,.bool true,D7 l _,λ_=>⟨List.Pairwise.nil,λ_ M=>(nomatch M)⟩⟩,h2,h3,h4⟩
end Att
namespace L2
open PySem PySem.Spec PyProof.Rows
theorem vY:∀{vs:List Value} {ns:List Int},IntsAre vs ns->bM (ns.map V.int) vs
 |_,_,.nil=>.nil
 |_,_,.cons n t h=>.cons ⟨t,rfl⟩ (vY h)
def IG(H:Hp):Prop:=∀b,H b=none\/∃o a,H b=some (.frz o (.lst a))
def GB{P:Program}{w:World}{K:PySem.W.Frag}{mg mb:Str->Option Value}{CX:EU}{k:Nat}{X a:Addr}{fd:FuncData}{x:Str}{sp:Sp}{c:Shared}{vs:List Value}{ns:List Int}
  (KX:K.In c.heap) (G:c.heap.Ns mainGlobals mg) (g:c.heap.Ns builtinsNs mb) (Q:∀x:Str,x≠"__name__" ->mb x=bootBuiltins x) (C:c.heap.NoLimit) (hg:c.gens= #[])
  (N:c.heap.get? a=some {cls:=.type "list",data:=.seq vs.toArray}) (hi:IntsAre vs ns) (hl:ns.length<=sizeLine) (hr:er k callerA)
  (F:∀base:Heap,K.In base->base.Ns mainGlobals mg->bF P w K mg base CX k X fd [x] sp) (p:∀(s:Shared) (u:Value),BindsTo s fd ⟨[u],[]⟩ [(x,u)])
  (S:∀H:Hp,IG H->iX K H a (ns.map V.int)->sp [.ref a] H (λv _=>v=.bl true) λ_ _ _=>False)
  (Y:∀H e i,CX [] H c (λ_ _ _=>False) e i->False):
  codeAny (model P w) callerA (.call (.ref X) ⟨[.ref a],[]⟩) (λr i=>r=.ok (.ret (.bool true))/\OldK c.heap i.heap/\i.os=c.os/\AllBare i.gens) c:=by
 have rv:=vY hi
 have M:=hi.length
 have l:∀H:Hp,IG H->iX K H a (ns.map V.int)->oz P w H c.heap->(∀b,H b≠none->b=a)->(H a≠none->K.lookup a=none)→
   codeAny (model P w) callerA (.call (.ref X) ⟨[.ref a],[]⟩) (λr i=>r=.ok (.ret (.bool true))/\OldK c.heap i.heap/\i.os=c.os/\AllBare i.gens) c:=by
  intro H hO hS A hA hK
  have f:∀{b:Addr} {o:Obj},c.heap.get? b=some o->H b=none->(xq c.heap H).get? b=some o:=λe n=>Gi e n
  have U:∀{b:Addr} {o:Obj} {B:Array DictEntry} {y:Nat},c.heap.get? b=some o->o.data=.dict B y->H b=none:=λ{b o B y} e d=>by
   cases q:H b with
   |none=>rfl
   | some u=>
     have R:b=a:=hA b (by rw[q];simp)
     subst R
     rw[N] at e;cases e
     have d':Data.seq vs.toArray _=Data.dict B y:=d
     cases d'
  have j:∀{b:Addr} {m:Str->Option Value},c.heap.Ns b m->(xq c.heap H).Ns b m:=λ{b m} ⟨o,B,y,e,d,r⟩=>⟨o,B,y,f e (U e d),d,r⟩
  have I:K.In (xq c.heap H):=λb o e=>f (KX b o e) (by
   cases q:H b with
   |none=>rfl
   | some u=>
     have R:b=a:=hA b (by rw[q];simp)
     subst R
     rw[hK (by rw[q];simp)] at e;cases e)
  have hM:Mod K mg (xq c.heap H):=⟨I,j G,⟨mb,j g,Q⟩,let ⟨mc,h1,h2⟩:=C;⟨mc,j h1,h2⟩⟩
  have e0:HB P w K mg (xq c.heap H) callerA [] c H:=⟨rfl,hM,λb o e=>HL e,Nat.le_of_eq (EI _ _),trivial,λb g=>absurd (show b∈([]:List Addr) from g) (by simp),A,.of_eq hg⟩
  refine codeAny_mono ((F _ I (j G)).run callerA [] c H ⟨[.ref a],[]⟩ [.ref a] [.ref a] _ _ hr e0 (p c (.ref a)) (.cons rfl .nil) (S H hO hS)) λr i h=> ?_
  cases r with
  |error e=>exact(Y H e i h).elim
  | ok fl=>
    cases fl with
    |next=>exact False.elim h
    |brk=>exact False.elim h
    |cont=>exact False.elim h
    | ret u=>
      obtain⟨v,H',os,L,un,t,r',q⟩:=h
      have q':v=.bl true:=q
      subst q'
      obtain rfl:u=Value.bool true:=r'
      refine⟨rfl,OldK.of_keep λb o e=> ?_,os,L⟩
      cases q:H b with
      |none=>exact un.keep b o e q (by intro z;exact absurd (show b∈([]:List Addr) from z) (by simp)) (by simp)
      | some u=>
        rcases hO b with z|⟨ob,xs,z⟩
        · rw[q] at z;cases z
        · have z2:=un.frzs b ob _ z
          obtain⟨e1,_⟩:=A b _ z
          obtain⟨e2,_⟩:=t b _ z2
          rw[e] at e1;cases e1
          exact e2
 cases Z:K.lookup a with
 | some o=>
   have e:=KX a o Z
   rw[N] at e
   cases e
   refine l (λ_=>none) (λ_=>.inl rfl) (.inr ⟨_,vs.toArray,_,Z,rfl,rfl,rfl,by rw[Qjq,M];exact hl,by simpa using rv⟩) (λb u z=>by have J:(none:Option HO)=some u:=z;cases J) (λb z=>absurd rfl z) λz=>absurd rfl z
 | none=>
   refine l (λb=>if b=a then some (.frz {cls:=.type "list",data:=.seq vs.toArray} (.lst (ns.map V.int))) else none) (λb=> ?_) (.inl (.inr ⟨{cls:=.type "list",data:=.seq vs.toArray},Qhq rfl⟩)) (λb u z=> ?_) (λb z=> ?_) λ_=>Z
   · by_cases g:b=a
     · exact .inr ⟨_,_,Qhq g⟩
     · exact .inl (Quq g)
   · by_cases g:b=a
     · have J:=(Qhq g).symm.trans z
       cases J
       subst g
       exact⟨N,by rw[lQm];exact hl,vs,_,rv,N⟩
     · have J:=(Quq g).symm.trans z
       cases J
   · by_cases g:b=a
     · exact g
     · exact absurd (Quq g) z
def IB{l:PySem.W.OpenLaw}{n k:Nat}{q:Program}{j:List Str}{Z:(Str->Option Value)->Heap->Prop}{M:World->Heap->Prop}{d:DefRec}{K:Params->PySem.W.Frag}{CX:World->EU}{sp:World->Sp}{x:Str}
  (U:l.most=some n) (B:n<=sizeLine) (t:d.params.defaults= []) (N:er k callerA)
  (S:∀(w:World) (h:Heap),M w h->(K w.params).In h)
  (F:∀(w:World) (mg:Str->Option Value) (r:Addr) (h:Heap),(K w.params).In h->h.Ns mainGlobals mg->mg d.name=some (.ref r)→
   ∃ A:FuncData,(∀(s:Shared) (u:Value),BindsTo s A ⟨[u],[]⟩ [(x,u)])∧
     ∀base:Heap,(K w.params).In base->base.Ns mainGlobals mg->bF l.prog w (K w.params) mg base (CX w) k r A [x] (sp w))
  (I:∀(w:World) (H:Hp) (a:Addr) (ns:List Int),ns.length<=n->IG H->iX (K w.params) H a (ns.map V.int)->sp w [.ref a] H (λv _=>v=.bl true) λ_ _ _=>False)
  (C:∀(w:World) (H:Hp) (s:Shared) (e:Value) (y:Shared),CX w [] H s (λ_ _ _=>False) e y->False):
  PySem.W.WalkO q j Z M l.row.toRowW d [] (λf vs=>PySem.call f vs):=by
 refine Att.zw U t λw J m mg mb r o pm cd P a vs ns G Y ho hd X z p i c R=> ?_
 have L:=S w _ Y
 obtain⟨A,hb,hF⟩:=F w mg r _ L G.T.g z
 exact GB L G.T.g G.T.b G.T.builtins G.T.nolimit R p i (QAq c B) N hF hb (λH Q hS=>I w H a ns c Q hS) λH e y=>C w H m e y
def ie(s:Stmt):Arguments:=match s with
 |.FunctionDef _ a _ _ _ _ _ _ _ _=>a
 |_=>{posonlyargs:= [],args:= [],vararg:=none,kwonlyargs:= [],kw_defaults:= [],kwarg:=none,defaults:= []}
def e_(s:Stmt):List Stmt:=match s with
 |.FunctionDef _ _ b _ _ _ _ _ _ _=>b
 |_=> []
def aD(s:Stmt):Scope:=match s with
 |.FunctionDef _ _ _ _ _ _ a _ _ _=>a
 |_=>{kind:=.function,names:= [],isGenerator:=false,isCoroutine:=false}
abbrev d_:EU:=λ_ _ _ _ _ _=>False
abbrev E0:XK:=λ_ _ _=>False
def E_{X:Cx}:Bz d_ X E0:=λ_ _ _ _ _ _ _ h=>h.elim
structure eK(K:PySem.W.Frag)(x qual:Str)(st:Stmt)(f:Addr)(fd:FuncData):Prop where
 ex:∃(oc:Value) (od:Option Addr) (kV doc pm:Value) (an:Option Addr) (cdv ct:Value) (osl:Array (Option Value)),
  fd=PySem.W.fnOf x qual (ie st) (e_ st) (aD st) .none kV doc pm an cdv ct/\K.lookup f=some ⟨oc,od,.func fd,osl⟩/\PySem.W.codeIn K cdv qual=true
 kp:PySem.W.keepIn K (.ref f)=true
section
variable{P:Program}{w:World}{K:PySem.W.Frag}{mg:Str->Option Value}{base:Heap}
def eK.ok{x a:Str}{st:Stmt}{f:Addr}{e:FuncData}{N ps:List Str}{k:Nat}{sp:Sp}(F:eK K x a st f e)(S:aJ N ps (aD st))(len:∀vs H Q E,sp vs H Q E->vs.length=ps.length)
  (c:∀(b:Value) (A:Around) (outer:List Env) (s:Shared) (H:Hp) (vs:List V) (Q:VK) (E:XK),er k (A.deeper (envOfC a (aD st) s.heap.objs.size f b))->sp vs H Q E→
   ∃t,uc (Af d_ P w K mg base N a (aD st) f b A outer s H E).nox (e_ st) t/\t {nx:=λ_ g=>Q .non g,rt:=Q} (start N vs) H):bF P w K mg base d_ (k+1) f e ps sp:=by
 obtain⟨p,n,kV,j,r,o,b,m,l,rfl,lk,hcd⟩:=F.ex
 refine Lx lk hcd S len λA outer s H vs Q E i d=> ?_
 obtain⟨t,h,q⟩:=c b A outer s H vs Q E i d
 exact⟨t,h.nox,q⟩
def eK.binds{x a:Str}{st:Stmt}{f:Addr}{i:FuncData}{ps:List Str}(F:eK K x a st f i)
  (h:∀(kV c e:Value) (g:Option Addr) (b ct:Value) (d:List Value),d.length=ps.length->bindArgs (PySem.W.fnOf x a (ie st) (e_ st) (aD st) .none kV c e g b ct) ⟨d,[]⟩=pure (ps.zip d)):Binds K i ps []:=by
 obtain⟨k,l,kV,c,e,g,b,ct,j,rfl,lk,hcd⟩:=F.ex
 exact .all (h kV c e g b ct)
def B_{x a:Str}{st:Stmt}{f:Addr}{i:Value}{j h:Option Addr}{e:Array (Option Value)}{kV d g b ct:Value}(l:K.lookup f=some ⟨i,j,.func (PySem.W.fnOf x a (ie st) (e_ st) (aD st) .none kV d g h b ct),e⟩)
  (c:PySem.W.codeIn K b a=true) (k:PySem.W.keepIn K (.ref f)=true):eK K x a st f (PySem.W.fnOf x a (ie st) (e_ st) (aD st) .none kV d g h b ct):=⟨⟨i,j,kV,d,g,h,b,ct,e,rfl,l,c⟩,k⟩
end
def IV{A:Around}{k:Nat}(a:er k A):A.units+1<cLine:=Nat.lt_of_le_of_lt (Nat.add_le_add_left (by decide:1<=64) _) a.units
def bp{n:Nat}(h:n<=1000):n<sizeLine:=Nat.lt_of_le_of_lt h (by decide)
section
variable{X:Cx}
def pv(i:Nat){x:Str}{pos:Pos}(b:X.N[i]?=some x:=by rfl)(c:Jr X.env.scope x:=by first|exact Or.inl rfl|exact Or.inr (Or.inl rfl)|exact Or.inr (Or.inr rfl))(hd:(x==("__debug__":Str))=false:=by decide)
  (a:(x==("__classdict__":Str))=false:=by decide):PE X (.Name x pos) (Jv i):=F6 b c hd a
end
section
variable{prog:Program}{w:World}{A:Around}{s:Shared}
def p_{t a k:Expr}{p:List Expr}{f:Scope}{pos:Pos}{it o:Value}{env:Env}{R:Result->Shared->Prop}(I:Nat->Shared->Prop)
  (y:∀n s,I n s->wpAny (model prog w) A (pyNext it) (λr b=>match r with
   |none=>R (.ok .next) b
   |some v=>wpAny (model prog w) A (letOwnedTupleGo a it v) (λ_ d=>wpAny (model prog w) A (assign a env v) (λ_ l=>
     wpAny (model prog w) A (forIn p true λc r=>if r=true then do let ok←isTrue c env (eval c env);pure (ForInStep.yield ok) else pure (ForInStep.yield r)) (λok s₃=>
      if ok=true then wpAny (model prog w) A (eval t env) (λx j=>
       wpAny (model prog w) A (call (.builtin "list.append") [o,x]) (λ_ g=>∃m,m<n/\I m g) (λ_ _=>False) j) (λ_ _=>False) s₃
      else∃m,m<n/\I m s₃) (λ_ _=>False) l) (λ_ _=>False) d) (λ_ _=>False) b) (λ_ _=>False) s)
  (n:Nat) (h:I n s):codeAny (model prog w) A (.compLoop (.ListComp t [⟨a,k,p,0⟩] f pos) 0 it o env) R s:=by
 refine codeAny_loop rfl I (λn s C=> ?_) n h
 show wpAny _ A ((compTurn (.ListComp t [⟨a,k,p,0⟩] f pos) 0 it o env).onRaise (λx=>do noteFrame x env;theTreesLotGoes x)) _ _ s
 refine wpAny_noted ?_
 rw[compTurn_list]
 refine Qaq (wpAny_standAt (Qaq (QRq (y n s C) (λr b i=> ?_) λ_ _ e=>e.elim)))
 cases r with
 |none=>exact Qgq i
 | some v=>
   refine Qaq (QRq i (λ_ d q=> ?_) λ_ _ e=>e.elim)
   refine Qaq (QRq q (λ_ l B=>Qaq (QRq B (λok s₃ h₃=> ?_) λ_ _ e=>e.elim)) λ_ _ e=>e.elim)
   cases ok with
   |false=>exact Qgq ⟨rfl,h₃⟩
   | true=>
     exact Qaq (Qaq (QRq h₃ (λx j u=>Qaq (QRq u (λ_ g z=>Qgq (Qgq ⟨rfl,z⟩)) λ_ _ e=>e.elim)) λ_ _ e=>e.elim))
end
def aP(X:Cx)(N:List Str)(a:Scope)(b:List (Str×Addr))(C:Addr)(s:Shared)(H:Hp)(fp:List Addr):Cx where
 prog:=X.prog
 w:=X.w
 K:=X.K
 mg:=X.mg
 base:=X.base
 A:=X.A
 N:=N
 s₀:=s
 H₀:=H
 env:=compEnvC a b C X.env
 outer:=X.stack
 stack:=X.stack
 ex:=fp
 fn:=λ_=>false
 calm:=X.calm
 pn:= []
 xe:=λ_ _=>False
def ku(js:List (Option Nat))(a:St):St:=js.map λo=>o.bind λj=>a.getD j none
structure aS(X:Cx)(N:List Str)(js:List (Option Nat))(scope:Scope)(cl:List (Str×Addr)):Prop where
 kind:scope.kind=.function
 nocell:∀y∈scope.names,y.2≠.cell
 names:∀y∈scope.names,y.2=.local->scope.names.lookup y.1=some .local
 clos:closureFor scope X.env=pure cl
 sub:∀x c,cl.lookup x=some c->X.env.cells.lookup x=some c
 has:∀x,((relabel scope X.env).names.lookup x=some .cell\/(relabel scope X.env).names.lookup x=some .free)->∃c,cl.lookup x=some c
 cap:∀(k j:Nat) (x:Str),js[k]?=some (some j)->N[k]?=some x->X.N[j]?=some x/\(X.env.kindOf x=some .cell\/X.env.kindOf x=some .free)/\((relabel scope X.env).names.lookup x=some .cell\/(relabel scope X.env).names.lookup x=some .free)
 len:js.length=N.length
def nB(X:Cx)(b:List Expr)(t:TT):Prop:=
 ∀ (a:List (Addr×Obj)) (s:Shared) (d:St) (H:Hp) (Q:Bool->Hp->Prop),Inv X a d H s->t d H Q→
   wpAny (model X.prog X.w) X.A (forIn b true λc r=>if r=true then do let ok←isTrue c X.env (eval c X.env);pure (ForInStep.yield ok) else pure (ForInStep.yield r)) (TP X a d Q) X.xe s
def K4{X:Cx}:nB X [] (λ_ H Q=>Q true H):=λ_ _ _ H _ I h=>wpAny_tests_nil ⟨H,I,h⟩
def JC{X:Cx}{c:Expr}{t:TT}(d:PT X c t):nB X [c] t:=λa s b H Q I h=>
 wpAny_tests_one (df (d a s b H Q I h) λok s' h'=>h')
def Lu(J:It)(g:TG)(n:TT)(l:TE)(Q:VK)(D:Addr)(k:St)(H:Hp):Prop:=
 ∃ W:Nat->Nat->St->Hp->Prop,(∃m,W 0 m k H)/\∀i m e c,W i m e c→
   (J.stop i c/\Q (.ref D) c)\/(J.go i c/\∃h:St->Hp->Prop,(∀b d,h b d->∃j,j<m/\W (i+1) j b d)∧
     ∀ x H2,J.yld i c x H2->g x e H2 λa H3=>n a H3 λok H4=>
       if ok=true then l a H4 λy H5=>∃f,H5 D=some (.lst f)/\f.length<sizeLine/\h a (upd H5 D (.lst (f++ [y]))) else h a H4)
def F1(js:List (Option Nat))(b:TI)(g:TG)(c:TT)(d:TE):TE:=λa H Q=>b a H λJ H1=>∀D,H1 D=none->Lu J g c d Q D (ku js a) (upd H1 D (.lst []))
def Im{X:Cx}{N:List Str}{js:List (Option Nat)}{a:Scope}{R:List (Str×Addr)}{tg P b0:Expr}{b3:List Expr}{pos:Pos}{wi:TI}{g:TG}{tt:TT}{te:TE}
  (S:aS X N js a R) (hc:X.calm=true) (hi:PI X tg P wi)
  (hg:∀C s H fp,PG (aP X N a R C s H fp) tg g) (ht:∀C s H fp,nB (aP X N a R C s H fp) b3 tt) (he:∀C s H fp,PE (aP X N a R C s H fp) b0 te)
  (hs:∀x,foldedSetIterable P X.env x=pure x:=by intro _;rfl):PE X (.ListComp b0 [⟨tg,P,b3,0⟩] a pos) (F1 js wi g tt te):=by
 intro a6 s σ H Q I h
 rw[eval_ListComp]
 refine wpAny_comprehension_free (use:=none) rfl hs S.clos S.kind S.names (df (hi a6 s σ H _ I h) λv s1 h1=>df h1 λd4 f h2=> ?_)
 obtain⟨it,fp,tn,J,H2,e,B,T,b1,f2,hD⟩:=h2
 subst e
 refine QhQ (wpAny_newFunctionEnv S.nocell (by intro y hy;simp at hy) (λK G t=> ?_) S.kind)
 dsimp only at G t⊢
 generalize b2:f.heap.push {cls:=.type "list",dict:=none,data:=.seq ([]:List Value).toArray}=P2 at G t⊢
 have hC:P2.objs.size=f.heap.objs.size+1:=by rw[←b2,Heap.size_push]
 have b9:f.heap.objs.size≠P2.objs.size:=by rw[hC];exact Qwq (Nat.lt_succ_self _)
 have a7:f.heap.objs.size<=P2.objs.size:=by rw[hC];exact Nat.le_succ _
 have F:∀b,b<f.heap.objs.size->b≠P2.objs.size:=λb k=>by rw[hC];exact Qwq (Nat.lt_succ_of_lt k)
 have Y:∀b o,f.heap.get? b=some o->K.get? b=some o:=λb o e=>t.extBut b o (F b (Qiq e)) (Qcq _ (b2▸Qcq _ e))
 have b6:K.get? f.heap.objs.size=some {cls:=.type "list",dict:=none,data:=.seq ([]:List Value).toArray}:=t.extBut _ _ b9 (Qcq _ (b2▸Qrq _ rfl))
 have nD:H2 f.heap.objs.size=none:=B.fresh
 have nC:H2 P2.objs.size=none:=B.hok.fresh a7
 have b4:∀b∈fp,b<f.heap.objs.size:=λb k=>by
  obtain⟨o,e,_⟩:=T.obj _ _ b1 b k
  exact Qiq e
 obtain⟨W,⟨m0,w0⟩,b7⟩:=hD f.heap.objs.size nD
 have c0:(aP X N a R P2.objs.size f H2 fp).Ok:=by
  refine⟨B.ok.mod,S.kind,B.ok.glob,B.ok.blt,a7,λx y c h1 h2=>B.ok.inj x y c (S.sub x c h1) (S.sub y c h2),S.has,(λx c h=>by cases h),B.ok.hd,B.ok.frames,.inl rfl,
   λb k=>⟨F b (b4 b k),λx c h=>(f2 b k).2.2.2.2.1 x c (S.sub x c h)⟩,B.bs,QAq B.ok.bsz B.sz,λb o e k=> ?_,λb k z=> ?_,B.stack,B.stkFree⟩
  ·rcases(f2 b k).2.2.2.1 with z|z
   ·exact B.ok.noex b o e z
   ·exact absurd (Qqq (Qqq (Qiq e) B.ok.bsz) z) (Nat.lt_irrefl _)
  ·rcases Qsq.mp (B.stkSub b z) with q|q
   ·exact(f2 b k).2.1 q
   ·exact(f2 b k).2.2.1 q
 have b8:cZ X.prog X.w (upd H2 f.heap.objs.size (.lst [])) K f.heap.objs.size (.lst []):=⟨Nat.zero_le _,[],0,.nil,b6⟩
 have I4:Inv (aP X N a R P2.objs.size f H2 fp) [] (ku js σ) (upd H2 f.heap.objs.size (.lst [])) {f with heap:=K,toks:=f.toks+([]:List (Str×Value)).length}:=by
  refine⟨c0,rfl,B.bare,Un.laid Y (Qmq _) nD,⟨_,G,λi x v h1 h2 h3=> ?_⟩,λx c h=> ?_,by show upd H2 _ _ P2.objs.size=none;rw[bo b9.symm];exact nC,λx c h=> ?_,λp hp=>absurd (show p∈([]:List (Addr×Obj)) from hp) (by simp),B.hok.laid Y (Qmq _) b8,by show(ku js σ).length=N.length;unfold ku;rw[lQm];exact S.len⟩
  ·unfold ku at h2
   rw[gQm] at h2
   cases e:js[i]? with
   |none=>rw[e] at h2;cases h2
   | some o=>
     rw[e] at h2
     cases o with
     |none=>cases h2
     | some j=>
       have a2:σ.getD j none=some v:=QdQ h2
       have hj:σ[j]?=some (some v):=by
         rw[Qlq] at a2
         cases q:σ[j]? with
         |none=>rw[q] at a2;cases a2
         |some y=>rw[q] at a2;exact congrArg some a2
       obtain⟨c1,c2,c3⟩:=S.cap i j x e h1
       obtain⟨m,hn,hl⟩:=B.loc
       have d3:Jr X.env.scope x:=by
         rcases c2 with z|z
         · exact .inr (.inl z)
         · exact .inr (.inr z)
       obtain⟨u,r,l⟩:=hl j x v c1 hj d3
       refine⟨u,r,.inr ⟨c3,?_⟩⟩
       obtain⟨c,c6⟩:=S.has x c3
       refine⟨c,c6,?_⟩
       rcases l with⟨z,_⟩|⟨_,c',e',z⟩
       · rcases c2 with y|y <;>rw[y] at z <;>cases z
       · rw[S.sub x c c6] at e'
         cases e'
         obtain⟨o,ho,hd⟩:=z
         exact⟨o,Y _ _ ho,hd⟩
  ·obtain⟨v,o,ho,hd⟩:=B.cell x c (S.sub x c h)
   exact⟨v,o,Y _ _ ho,hd⟩
  ·obtain⟨v,o,ho,hd⟩:=B.cell x c (S.sub x c h)
   rw[bo (Qwq (Qiq ho))]
   exact B.freeC x c (S.sub x c h)
 have a1:∀{M:List (Addr×Obj)} {U:Hp},M= []->(∀b∈fp,U b=none)->∀b∈fp,qU (aP X N a R P2.objs.size f H2 fp) M U b:=λ{M U} ep hn b k=>by
  subst ep
  refine⟨hn b k,F b (b4 b k),λz=>c0.exfs b k z,.inl k,λx c h=>(f2 b k).2.2.2.2.1 x c (S.sub x c h),λp hp=>absurd (show p∈([]:List (Addr×Obj)) from hp) (by simp)⟩
 have a5:codeAny (model X.prog X.w) X.A (.compLoop (.ListComp b0 [⟨tg,P,b3,0⟩] a pos) 0 (.ref it) (.ref f.heap.objs.size) (compEnvC a R P2.objs.size X.env))
   (compPost (model X.prog X.w) X.A X.xe none (EP X a6 σ Q) (.ref f.heap.objs.size) P2.objs.size) {f with heap:=K,toks:=f.toks+([]:List (Str×Value)).length}:=by
  refine p_ (λn s'=>∃i a0 U,Inv (aP X N a R P2.objs.size f H2 fp) [] a0 U s'/\tn i s'.heap/\(∀b∈fp,U b=none)/\W i n a0 U) ?_ m0
   ⟨0,_,_,I4,T.keep _ _ _ b1 λb _ o e=>Y b o e,λb k=>by rw[bo (Qwq (b4 b k))];exact(f2 b k).1,w0⟩
  rintro n s3 ⟨i,a4,H3,I3,d0,c4,w3⟩
  rcases b7 i n a4 H3 w3 with⟨stop,q⟩|⟨go,Nx,hN,c5⟩
  ·refine df (T.done (aP X N a R P2.objs.size f H2 fp) rfl rfl rfl hc i [] s3 a4 H3 _ I3 (a1 rfl c4) d0 stop) λr s4 Z=> ?_
   obtain⟨hr,I5⟩:=Z
   subst hr
   obtain⟨m,hn,_⟩:=id I5.loc
   refine⟨m,hn,λh' a3=>⟨.ref f.heap.objs.size,H3,?_,rfl,q⟩⟩
   have u:=I5.base
   have ne:∀b o,f.heap.get? b=some o->b≠P2.objs.size:=λb o e=>F b (Qiq e)
   refine B.call' (ch:=fp) I5.os ⟨λb o e n k hx=>(a3.2 b (ne b o e)).trans (u.keep b o e n k hx),λb o e n k hx=> ?_,u.free,λb o e hx=> ?_,u.tups,u.frzs,u.tbls⟩ (λb ob e=> ?_) I5.bare λb k=>⟨(f2 b k).2.2.2.1,(f2 b k).2.1,(f2 b k).2.2.2.2.1,(f2 b k).2.2.2.2.2⟩
   ·obtain⟨sl,e1⟩:=u.slot b o e n k hx
    exact⟨sl,(a3.2 b (ne b o e)).trans e1⟩
   ·obtain⟨o',e1⟩:=u.there b o e hx
    exact⟨o',(a3.2 b (ne b o e)).trans e1⟩
   ·refine(I5.hok b ob e).stay (λc w' hc q=>(a3.2 c ?_).trans q) (λ_ q=>q) λ_ _ q=>q
    have fC:H3 P2.objs.size=none:=I5.free
    rintro rfl
    rcases hc with z|z
    ·rw[←z,fC] at e;cases e
    ·rw[fC] at z;cases z
  ·refine df (T.item (aP X N a R P2.objs.size f H2 fp) rfl rfl rfl hc i [] s3 a4 H3 _ I3 (a1 rfl c4) d0 go) λr s4 Z=> ?_
   obtain⟨u,hr,h4⟩:=Z
   subst hr
   refine df h4 λ_ s5 Z=> ?_
   obtain⟨x,H5,I5,r5,y5,b5,d2⟩:=Z
   have d1:=I5.pinned (a1 rfl d2) (T.obj _ _ b5)
   refine df (hg P2.objs.size f H2 fp _ s5 a4 H5 x u _ d1 r5 (c5 x H5 y5)) λ_ s6 Z=> ?_
   obtain⟨L,H6,I6,q6⟩:=Z
   refine df (ht P2.objs.size f H2 fp _ s6 L H6 _ I6 q6) λok s7 Z=> ?_
   obtain⟨H7,I7,q7⟩:=Z
   have again:∀{s8:Shared} {H8:Hp},Inv (aP X N a R P2.objs.size f H2 fp) ([]++nO fp s5.heap) L H8 s8->Nx L H8->∃m,m<n/\∃i a0 U,Inv (aP X N a R P2.objs.size f H2 fp) [] a0 U s8/\tn i s8.heap/\(∀b∈fp,U b=none)/\W i m a0 U:=λ{s8 H8} I8 n8=>by
    obtain⟨m',hm,w8⟩:=hN L H8 n8
    refine⟨m',hm,i+1,L,H8,I8.unpinned,T.keep _ _ _ b5 λb k o e=>(I8.pin (b,o) (Qoq _ (Qoq _ (dw k e)))).1,λb k=> ?_,w8⟩
    obtain⟨o,e,d⟩:=T.obj _ _ b5 b k
    exact(I8.pin (b,o) (Qoq _ (Qoq _ (dw k e)))).2.1
   cases ok with
   |false=>exact again I7 q7
   | true=>
     refine df (he P2.objs.size f H2 fp _ s7 L H7 _ I7 q7) λyv s8 Z=> ?_
     obtain⟨y,H8,I8,ry,xs,hx,hl,n8⟩:=Z
     refine df (qx (X:=aP X N a R P2.objs.size f H2 fp) _ s8 L H8 (.ref f.heap.objs.size) [y] (.ref f.heap.objs.size) [yv] (λ_ U=>Nx L U) I8 rfl (.cons ry .nil) ⟨_,xs,y,rfl,rfl,hx,hl,n8⟩) λ_ s9 Z=> ?_
     obtain⟨z,H9,I9,_,q9⟩:=Z
     exact again I9 q9
 exact codeAny_compStart_list a5 (T.self _ 0 _ _ _ (T.keep _ _ _ b1 λb _ o e=>Y b o e) a5)
section
variable{X:Cx}
def E7:gP X (.builtin "isinstance") (λxs H Q=>∃x T t b,xs= [x,.ty T]/\qw X.K H x t/\PySem.W.kitOne X.K t (.type T)=some b/\Q (.bl b) H):=by
 intro a s g H xs f Q I r h
 obtain⟨x,T,t,b,rfl,ty,e,q⟩:=h
 obtain⟨u,d,rfl,rx,rt⟩:=vals2 r
 cases (show d=Value.type T from rt)
 exact ED I rx ty e λc=>⟨.bl b,H,I.tok c,rfl,q⟩
def ET:List V->List V->Bool
 | [],[]=>true
 |x::xs,y::ys=>sA x y&&ET xs ys
 |_,_=>false
theorem y2:∀{xs ys:List V},xs.length≠ys.length->ET xs ys=false
 | [],[],h=>absurd rfl h
 | [],_::_,_=>rfl
 |_::_,[],_=>rfl
 | x::xs,y::ys,h=>by
   have:=y2 (xs:=xs) (ys:=ys) λe=>h (by simp[e])
   show(sA x y&&ET xs ys)=false
   rw[this,Bool.and_false]
theorem x8:∀{xs ys:List V},xs.length=ys.length->(List.range xs.length).all (λj=>sA (xs.getD j .non) (ys.getD j .non))=ET xs ys
 | [],[],_=>rfl
 | [],_::_,h=>by cases h
 |_::_,[],h=>by cases h
 | x::xs,y::ys,h=>by
   have a:=x8 (xs:=xs) (ys:=ys) (Nat.succ.inj h)
   rw[Qnq,List.range_succ_eq_map,List.all_cons,List.all_map]
   show(sA x y&&_)=(sA x y&&ET xs ys)
   rw[←a]
   rfl
def Fi{A:Around}{s:Shared}{xs ys:List V}{a vs:List Value}(r:bM xs a)(d:bM ys vs)(f:xs.all hJ=true)(f':ys.all hJ=true)(j:Nat)(i:j<a.toArray.size)(n:j<vs.toArray.size):
  SeqAt.EqAt A s a.toArray[j] vs.toArray[j] (sA (xs.getD j .non) (ys.getD j .non)):=by
 have h:=r.length
 have k:=d.length
 have b:j<xs.length:=by rw[h];simpa using i
 have c:j<ys.length:=by rw[k];simpa using n
 obtain⟨u,e,l⟩:=r.get (gQe b)
 obtain⟨v,m,t⟩:=d.get (gQe c)
 have g:xs.getD j .non=xs[j]:=by rw[Qlq,gQe b];rfl
 have p:ys.getD j .non=ys[j]:=by rw[Qlq,gQe c];rfl
 have o:a.toArray[j]=u:=by
  have:=(gQs.mp e).2
  simpa using this
 have q:vs.toArray[j]=v:=by
  have:=(gQs.mp m).2
  simpa using this
 rw[o,q,g,p]
 exact Ga l t (QUq.mp f _ (List.getElem_mem b)) (QUq.mp f' _ (List.getElem_mem c))
def KB(K:PySem.W.Frag)(e:Bool):R2:=λx y H Q=>∃a b d c,x=.ref a/\y=.ref b/\iX K H a d/\iX K H b c/\d.all hJ=true/\c.all hJ=true/\Q (.bl (if e then !ET d c else ET d c)) H
def KI(o:X.A.units<cLine):jF X (compareOp .Eq) (KB X.K false):=by
 intro n s C H x y v u Q I t B h
 obtain⟨a,b,i,l,rfl,rfl,ha,hb,fa,fb,q⟩:=h
 cases t
 cases B
 obtain⟨c,r,m,F⟩:=I.list ha
 obtain⟨g,k,d,p⟩:=I.list hb
 by_cases hl:i.length=l.length
 ·have f:c.toArray.size=g.toArray.size:=by simp[←r.length,←k.length,hl]
  refine SeqAt.eq_listAt (e:=λj=>sA (i.getD j .non) (l.getD j .non)) m.isList d.isList f o (λj w z=>Fi r k fa fb j w z) ⟨.bl _,H,I,rfl,?_⟩
  rw[show c.toArray.size=i.length by simp[r.length],x8 hl]
  exact q
 ·refine SeqAt.eq_list_lengthsAt m.isList d.isList (by simpa [←r.length,←k.length] using hl) o ⟨.bl _,H,I,rfl,?_⟩
  rw[←y2 hl]
  exact q
def KS(p:X.A.units<cLine):jF X (compareOp .NotEq) (KB X.K true):=by
 intro n s F H x y v u Q I w C h
 obtain⟨a,b,f,k,rfl,rfl,ha,hb,fa,fb,q⟩:=h
 cases w
 cases C
 obtain⟨c,r,m,G⟩:=I.list ha
 obtain⟨i,l,d,t⟩:=I.list hb
 by_cases hl:f.length=k.length
 ·have g:c.toArray.size=i.toArray.size:=by simp[←r.length,←l.length,hl]
  refine SeqAt.RcNeAt.lists (e:=λj=>sA (f.getD j .non) (k.getD j .non)) m.isList d.isList g p (λj z B=>Fi r l fa fb j z B) _ _ _ _ ⟨.bl _,H,I,rfl,?_⟩
  rw[show c.toArray.size=f.length by simp[r.length],x8 hl]
  exact q
 ·refine SeqAt.RcNeAt.lists_lengths m.isList d.isList (by simpa [←r.length,←l.length] using hl) p _ _ _ _ ⟨.bl _,H,I,rfl,?_⟩
  have o:Q (.bl (!ET f k)) H:=q
  rw[y2 hl] at o
  exact o
end
section
variable{X:Cx}
def Gn{bs:List Bool}{a:List Value}(r:bM (bs.map V.bl) a){i:Nat}{v:Value}(h:a.toArray[i]?=some v):v=.bool (bs.getD i false):=by
 have f:i<a.length:=by
  have:=(Array.getElem?_eq_some_iff.mp h).1
  simpa using this
 have l:=r.length
 rw[lQm] at l
 have c:i<bs.length:=by omega
 obtain⟨u,e,q⟩:=r.get (i:=i) (x:=V.bl bs[i]) (by rw[gQm,gQe c];rfl)
 have b:a[i]?=some v:=by simpa using h
 rw[e] at b
 cases b
 have d:bs.getD i false=bs[i]:=by rw[Qlq,gQe c];rfl
 rw[d]
 exact q
theorem zq:∀bs:List Bool,(List.range bs.length).all (λi=>bs.getD i false)=bs.all id
 | []=>rfl
 | b::bs=>by
   rw[Qnq,List.range_succ_eq_map,List.all_cons,List.all_map,List.all_cons,←zq bs]
   rfl
def MU(K:PySem.W.Frag)(f:List Bool->Bool):List V->Hp->VK->Prop:=λc H Q=>∃a b,c= [.ref a]/\iX K H a (b.map V.bl)/\Q (.bl (f b)) H
def EJ(k:X.calm=true):gP X (.builtin "all") (MU X.K λbs=>bs.all id):=by
 intro g s B H w z Q I r h
 obtain⟨a,bs,rfl,ha,q⟩:=h
 obtain⟨u,rfl,rx⟩:=vals1 r
 cases (show u=Value.ref a from rx)
 obtain⟨c,j,d,C⟩:=I.list ha
 have hl:c.toArray.size=bs.length:=by have:=j.length;simp at this;simp[this]
 have f:a<s.heap.objs.size:=by obtain⟨o,e,_⟩:=d.isList;exact Qiq e
 refine call_all_walk (wpAny_pyIter_list d.isList ⟨s.heap.objs.size,_,_,_,_,_,λi=>bs.getD i false,rfl,Walks.list (A:=X.A.in1) (show X.A.in1.handled=none from I.ok.hd k) s.heap.objs.size a (Qwq f) c.toArray,⟨⟨_,Qrq _ rfl,rfl,rfl⟩,d.isList.at λo e=>Qcq _ e⟩,?_,λh' p l=> ?_⟩)
 ·intro i v x t y m n
  rw[Gn j m]
  exact wpAny_truthy_bool n
 ·rw[hl,zq]
  refine⟨.bl _,H,I.kept (h':=h') λb o e=>l b o ?_ (Qcq _ e),rfl,q⟩
  have:=Qiq e
  simp
  exact Qwq this
end
end L2
namespace Dk
open PySem
def vg:mroOf (Value.type "dict")=pure [Value.type "dict",Value.type "object"]:=by
 rw[mroOf_type]
 rfl
def sD:typeLookup (Value.type "dict") (Str.ofString "__new__")=pure (some (Value.builtin "dict.__new__")):=by
 rw[typeLookup_type,builtinLookup_eq_fast]
 rfl
def zj:isSubtype (Value.type "dict") (Value.type "dict")=pure true:=by
 rw[isSubtype_type]
 rfl
def iR:plainId "dict.__new__"=true:=by decide +kernel
def dm:TypeCalled "dict" "dict.__new__" "dict.__init__" where
 notType:=by decide +kernel
 canCreate:=by decide +kernel
 mro:=⟨_,_,vg⟩
 made:=madeBy_type vg sD (by decide +kernel)
 plain:=iR
 sub:=zj
 init:=F.slot_dict_init
def sJ(a:Value):checkTypeCall "dict" {pos:= [a]}=pure ():=by rfl
def ue(a:Value):checkBuiltinCall "dict.__new__" {pos:= [Value.type "dict",a]}=pure ():=by with_unfolding_all rfl
def tO:entryFor table "dict.__new__"=some Builtin.«dict.__new__»:=by rfl
def sM{prog:Program}{w:World}{A:Around}{E:Value->Shared->Prop}{s:Shared}(a:Value){Q₁:Value->Shared->Prop}
  (h:Q₁ (.ref s.heap.objs.size) {s with heap:=s.heap.push {cls:=.type "dict",data:=.dict #[]}}):
  codeAny (model prog w) A (.call (.builtin "dict.__new__") {pos:= [.type "dict",a]}) (wants Q₁ E) s:=by
 refine codeAny_of_tree ?_
 show wpAny _ _ (do checkBuiltinCall "dict.__new__" _;_) _ _ _
 refine Qaq (wpAny_of_eq (ue a) (Qgq ⟨plainId_quiet iR _,codeAny_builtin tO ?_⟩))
 rw[Around.under_plainId iR]
 refine Qaq (Qgq (QgQ rfl (Qaq (wpAny_of_eq zj (QgQ rfl (Qaq (wpAny_of_eq vg (QgQ ?_ ?_))))))))
 ·rfl
 ·refine Qaq ?_
  have e:newObj (.type "dict") (.dict #[])=newObjAsIs (.type "dict") (.dict #[]):=by
   unfold newObj
   simp
  rw[e]
  exact Qaq (wpAny_alloc (Qgq (Qgq h)))
def AE{prog:Program}{w:World}{A:Around}{E:Value->Shared->Prop}{s:Shared}{a:Value}{Q:Value->Shared->Prop}
  (h:wpAny (model prog w) A.in1.in1 (Builtin.«dict.__init__» {pos:= [.ref s.heap.objs.size,a]})
   (λt l=>match t with|.done f=>wants (λr b=>r=.none/\Q (.ref s.heap.objs.size) b) E (.ok f) l|.again x=>x.quiet=true/\codeAny (model prog w) A.in1 x (wants (λr b=>r=.none/\Q (.ref s.heap.objs.size) b) E) l)
   (λe l=>wants (λr b=>r=.none/\Q (.ref s.heap.objs.size) b) E (.error e) l) {s with heap:=s.heap.push {cls:=.type "dict",data:=.dict #[]}}):
  wpAny (model prog w) A (call (.type "dict") [a]) Q E s:=by
 obtain⟨c,G,j⟩:=dm.mro
 have i:=dm.made
 have k:=dm.sub
 refine wpAny_call (codeAny_of_tree ?_)
 refine Qgq ⟨Code.quiet_builtin _ (by decide +kernel),codeAny_builtin F.entry_type_call ?_⟩
 rw[Around.under_plain (weight_type_call_type "dict" [a] []) rfl]
 have C:=dm.notType
 have y:=dm.canCreate
 have q:=sJ a
 unfold Builtin.«type.__call__»
 dsimp only
 refine QgQ rfl ?_
 refine QgQ (by rw[y];rfl) ?_
 refine Qaq (wpAny_of_eq q (Qaq (wpAny_of_eq j (QgQ rfl (Qaq (wpAny_of_eq i (Qaq (Qgq (Qaq (QLq (wpAny_call (codeAny_mono (sM (E:=E) (Q₁:=λv d=>v=.ref s.heap.objs.size/\d={s with heap:=s.heap.push {cls:=.type "dict",data:=.dict #[]}}) a ⟨rfl,rfl⟩) λr d g=> ?_))))))))))))
 cases r with
 |error e=>exact g
 | ok m=>
   cases m with
   | ret z=>
     obtain⟨rfl,rfl⟩:=g
     have B:=Qrq s.heap (o:={cls:=.type "dict",data:=.dict #[]}) rfl
     have n:Shared.TypeIs {s with heap:=s.heap.push {cls:=.type "dict",data:=.dict #[]}} (.ref s.heap.objs.size) "dict":=⟨_,B,rfl⟩
     have u:=dm.init.lookup
     have p:=dm.init.bind (.ref s.heap.objs.size)
     refine Qaq (wpAny_isInstance n k (QgQ rfl (Qaq (QLq ?_))))
     unfold callSpecial?
     refine Qaq (wpAny_specialOf n u (QLq (Qaq (wpAny_of_eq p (Qaq (wpAny_call (codeAny_mono (codeAny_call_builtin dm.init.plain F.entry_dict_init (dm.init.check _ _ _ _ _ [a] [] _ n (F.args_dict_init_2 _ _) h)) λr b g=> ?_)))))))
     cases r with
     |error e=>exact g
     | ok m=>
       cases m with
       | ret v=>
         obtain⟨rfl,hq⟩:=g
         exact Qgq (QgQ rfl (Qgq hq))
       |_=>exact g.elim
   |_=>exact g.elim
def kO:entryFor table "dict.update.loop"=some Builtin.«dict.update.loop»:=by rfl
def gV:plainId "dict.update.loop"=true:=by decide +kernel
section
variable{prog:Program}{w:World}{K:Type}[DecidableEq K]{knd:KeyKind prog w K}
def Bn(kvs:List (K×Value))(k:K)(v:Value):(stored kvs k v).length<=kvs.length+1:=by
 unfold stored
 split
 ·rw[lQm];omega
 ·rw[lQa];simp
def Kb(a:Nat->K)(b:Nat->Value):Nat->List (K×Value)
 |0=> []
 |i+1=>stored (Kb a b i) (a i) (b i)
theorem C1(a:Nat->K)(b:Nat->Value):∀i,(Kb a b i).length<=i
 |0=>Qmq _
 |i+1=>QAq (Bn _ _ _) (Nat.succ_le_succ (C1 a b i))
end
end Dk
namespace L2
open PySem PySem.Spec PyProof.Rows
section
variable{X:Cx}
def key_is{k:Key}{u:Value}(r:RelV (kV k) u)(P:Program)(w:World):(bZ P w).is k u=true:=by
 cases k with
 |inl i=>obtain⟨t,rfl⟩:=(show∃t,u=Value.int i t from r);simp[bZ,sf,Value.isInt]
 |inr x=>obtain⟨t,rfl⟩:=(show∃t,u=Value.str x t from r);simp[bZ,sf,Value.isStrOf]
end
end L2
namespace Dk
open PySem
end Dk
namespace L2
open PySem PySem.Spec PyProof.Rows
def Ir{X:Cx}{N:List Str}{js:List (Option Nat)}{a:Scope}{U:List (Str×Addr)}{tg M a6 G:Expr}{b0:List Expr}{pos b3:Pos}{wi:TI}{g gt:TG}{tt:TT}{te:TE}
  (S:aS X N js a U) (hc:X.calm=true) (hi:PI X tg M wi)
  (hg:∀C s H fp,PG (aP X N a U C s H fp) tg g) (ht:∀C s H fp,nB (aP X N a U C s H fp) b0 tt) (he:∀C s H fp,PE (aP X N a U C s H fp) a6 te) (e3:PG X G gt)
  (hs:∀x,foldedSetIterable M X.env x=pure x:=by intro _;rfl) (d8:swapsWithSole [G] (.ListComp a6 [⟨tg,M,b0,0⟩] a pos) b3.line X.env=pure true:=by rfl)
  (h1:(assignEach [G] X.env).map (·.2)= [assign G X.env]:=by rfl):PS X (.Assign [G] (.ListComp a6 [⟨tg,M,b0,0⟩] a pos) b3) (EA (F1 js wi g tt te) gt):=by
 intro Y s σ H Dn I h
 rw[exec_Assign_arm]
 refine Qaq (wpAny_standAt (Qaq (wpAny_of_eq d8 (wpAny_ite_true rfl (Qaq ?_)))))
 rw[h1]
 show wpAny _ _ (do let _←comprehension _ _ _ _ _ _ _ (some λv=>assignAll v [assign G X.env]);pure ()) _ _ _
 refine Qaq ?_
 refine wpAny_comprehension_free (use:=some λv=>assignAll v [assign G X.env]) rfl hs S.clos S.kind S.names (df (hi Y s σ H _ I h) λv s1 h1=>df h1 λe4 k h2=> ?_)
 obtain⟨it,fp,tn,J,H2,e,t,T,b4,f2,hD⟩:=h2
 subst e
 refine QhQ (wpAny_newFunctionEnv S.nocell (by intro y hy;simp at hy) (λP L B=> ?_) S.kind)
 dsimp only at L B⊢
 generalize b5:k.heap.push {cls:=.type "list",dict:=none,data:=.seq ([]:List Value).toArray}=P2 at L B⊢
 have hC:P2.objs.size=k.heap.objs.size+1:=by rw[←b5,Heap.size_push]
 have c5:k.heap.objs.size≠P2.objs.size:=by rw[hC];exact Qwq (Nat.lt_succ_self _)
 have a4:k.heap.objs.size<=P2.objs.size:=by rw[hC];exact Nat.le_succ _
 have K:∀b,b<k.heap.objs.size->b≠P2.objs.size:=λb f=>by rw[hC];exact Qwq (Nat.lt_succ_of_lt f)
 have a0:∀b o,k.heap.get? b=some o->P.get? b=some o:=λb o e=>B.extBut b o (K b (Qiq e)) (Qcq _ (b5▸Qcq _ e))
 have b8:P.get? k.heap.objs.size=some {cls:=.type "list",dict:=none,data:=.seq ([]:List Value).toArray}:=B.extBut _ _ c5 (Qcq _ (b5▸Qrq _ rfl))
 have nD:H2 k.heap.objs.size=none:=t.fresh
 have nC:H2 P2.objs.size=none:=t.hok.fresh a4
 have b6:∀b∈fp,b<k.heap.objs.size:=λb f=>by
  obtain⟨o,e,_⟩:=T.obj _ _ b4 b f
  exact Qiq e
 obtain⟨W,⟨m0,w0⟩,b9⟩:=hD k.heap.objs.size nD
 have c6:(aP X N a U P2.objs.size k H2 fp).Ok:=by
  refine⟨t.ok.mod,S.kind,t.ok.glob,t.ok.blt,a4,λx y c h1 h2=>t.ok.inj x y c (S.sub x c h1) (S.sub y c h2),S.has,(λx c h=>by cases h),t.ok.hd,t.ok.frames,.inl rfl,
   λb f=>⟨K b (b6 b f),λx c h=>(f2 b f).2.2.2.2.1 x c (S.sub x c h)⟩,t.bs,QAq t.ok.bsz t.sz,λb o e f=> ?_,λb f z=> ?_,t.stack,t.stkFree⟩
  ·rcases(f2 b f).2.2.2.1 with z|z
   ·exact t.ok.noex b o e z
   ·exact absurd (Qqq (Qqq (Qiq e) t.ok.bsz) z) (Nat.lt_irrefl _)
  ·rcases Qsq.mp (t.stkSub b z) with q|q
   ·exact(f2 b f).2.1 q
   ·exact(f2 b f).2.2.1 q
 have c4:cZ X.prog X.w (upd H2 k.heap.objs.size (.lst [])) P k.heap.objs.size (.lst []):=⟨Nat.zero_le _,[],0,.nil,b8⟩
 have I4:Inv (aP X N a U P2.objs.size k H2 fp) [] (ku js σ) (upd H2 k.heap.objs.size (.lst [])) {k with heap:=P,toks:=k.toks+([]:List (Str×Value)).length}:=by
  refine⟨c6,rfl,t.bare,Un.laid a0 (Qmq _) nD,⟨_,L,λi x v h1 h2 h3=> ?_⟩,λx c h=> ?_,by show upd H2 _ _ P2.objs.size=none;rw[bo c5.symm];exact nC,λx c h=> ?_,λp hp=>absurd (show p∈([]:List (Addr×Obj)) from hp) (by simp),t.hok.laid a0 (Qmq _) c4,by show(ku js σ).length=N.length;unfold ku;rw[lQm];exact S.len⟩
  ·unfold ku at h2
   rw[gQm] at h2
   cases e:js[i]? with
   |none=>rw[e] at h2;cases h2
   | some o=>
     rw[e] at h2
     cases o with
     |none=>cases h2
     | some j=>
       have a5:σ.getD j none=some v:=QdQ h2
       have hj:σ[j]?=some (some v):=by
         rw[Qlq] at a5
         cases q:σ[j]? with
         |none=>rw[q] at a5;cases a5
         |some y=>rw[q] at a5;exact congrArg some a5
       obtain⟨c1,c2,c3⟩:=S.cap i j x e h1
       obtain⟨m,hn,hl⟩:=t.loc
       have d7:Jr X.env.scope x:=by
         rcases c2 with z|z
         · exact .inr (.inl z)
         · exact .inr (.inr z)
       obtain⟨u,r,l⟩:=hl j x v c1 hj d7
       refine⟨u,r,.inr ⟨c3,?_⟩⟩
       obtain⟨c,d3⟩:=S.has x c3
       refine⟨c,d3,?_⟩
       rcases l with⟨z,_⟩|⟨_,c',e',z⟩
       · rcases c2 with y|y <;>rw[y] at z <;>cases z
       · rw[S.sub x c d3] at e'
         cases e'
         obtain⟨o,ho,hd⟩:=z
         exact⟨o,a0 _ _ ho,hd⟩
  ·obtain⟨v,o,ho,hd⟩:=t.cell x c (S.sub x c h)
   exact⟨v,o,a0 _ _ ho,hd⟩
  ·obtain⟨v,o,ho,hd⟩:=t.cell x c (S.sub x c h)
   rw[bo (Qwq (Qiq ho))]
   exact t.freeC x c (S.sub x c h)
 have a3:∀{R:List (Addr×Obj)} {Z:Hp},R= []->(∀b∈fp,Z b=none)->∀b∈fp,qU (aP X N a U P2.objs.size k H2 fp) R Z b:=λ{R Z} ep hn b f=>by
  subst ep
  refine⟨hn b f,K b (b6 b f),λz=>c6.exfs b f z,.inl f,λx c h=>(f2 b f).2.2.2.2.1 x c (S.sub x c h),λp hp=>absurd (show p∈([]:List (Addr×Obj)) from hp) (by simp)⟩
 have b2:codeAny (model X.prog X.w) X.A (.compLoop (.ListComp a6 [⟨tg,M,b0,0⟩] a pos) 0 (.ref it) (.ref k.heap.objs.size) (compEnvC a U P2.objs.size X.env))
   (compPost (model X.prog X.w) X.A X.xe (some λv=>assignAll v [assign G X.env]) (λ_ s9=>wpAny (model X.prog X.w) X.A (pure ()) (λ_ d9=>wpAny (model X.prog X.w) X.A (pure Flow.next) (SP X Y Dn) X.xe d9) X.xe s9) (.ref k.heap.objs.size) P2.objs.size) {k with heap:=P,toks:=k.toks+([]:List (Str×Value)).length}:=by
  refine p_ (λn s'=>∃i a2 Z,Inv (aP X N a U P2.objs.size k H2 fp) [] a2 Z s'/\tn i s'.heap/\(∀b∈fp,Z b=none)/\W i n a2 Z) ?_ m0
   ⟨0,_,_,I4,T.keep _ _ _ b4 λb _ o e=>a0 b o e,λb f=>by rw[bo (Qwq (b6 b f))];exact(f2 b f).1,w0⟩
  rintro n s3 ⟨i,b1,H3,I3,d4,d0,w3⟩
  rcases b9 i n b1 H3 w3 with⟨stop,q⟩|⟨go,Nx,hN,d1⟩
  ·refine df (T.done (aP X N a U P2.objs.size k H2 fp) rfl rfl rfl hc i [] s3 b1 H3 _ I3 (a3 rfl d0) d4 stop) λr s4 Q=> ?_
   obtain⟨hr,I5⟩:=Q
   subst hr
   obtain⟨m,hn,_⟩:=id I5.loc
   have e2:∀h',Heap.SameBut P2.objs.size s4.heap h'->Inv X Y σ H3 {s4 with heap:=h'}:=by
    intro h' a1
    have u:=I5.base
    have ne:∀b o,k.heap.get? b=some o->b≠P2.objs.size:=λb o e=>K b (Qiq e)
    refine t.call' (ch:=fp) I5.os ⟨λb o e n f hx=>(a1.2 b (ne b o e)).trans (u.keep b o e n f hx),λb o e n f hx=> ?_,u.free,λb o e hx=> ?_,u.tups,u.frzs,u.tbls⟩ (λb ob e=> ?_) I5.bare λb f=>⟨(f2 b f).2.2.2.1,(f2 b f).2.1,(f2 b f).2.2.2.2.1,(f2 b f).2.2.2.2.2⟩
    ·obtain⟨sl,e1⟩:=u.slot b o e n f hx
     exact⟨sl,(a1.2 b (ne b o e)).trans e1⟩
    ·obtain⟨o',e1⟩:=u.there b o e hx
     exact⟨o',(a1.2 b (ne b o e)).trans e1⟩
    ·refine(I5.hok b ob e).stay (λc w' hc q=>(a1.2 c ?_).trans q) (λ_ q=>q) λ_ _ q=>q
     have fC:H3 P2.objs.size=none:=I5.free
     rintro rfl
     rcases hc with z|z
     ·rw[←z,fC] at e;cases e
     ·rw[fC] at z;cases z
   have IX:=e2 s4.heap ⟨rfl,λ_ _=>rfl⟩
   have a7:qU X Y H3 P2.objs.size:=t.fpOk a4 I5.free
   obtain⟨oC,es,ep,d2,c0,e0⟩:=hn
   have IP:=IX.pinned (fp:= [P2.objs.size]) (λb f=>by rw[Qfq] at f;rw[f];exact a7) (λb f=>by rw[Qfq] at f;rw[f];exact⟨oC,d2,λv=>by rw[c0];simp⟩)
   show wpAny _ _ (assignAll (.ref k.heap.objs.size) [assign G X.env]) _ _ _
   rw[assignAll.eq_2]
   refine df (e3 _ s4 σ H3 (.ref k.heap.objs.size) (.ref k.heap.objs.size) _ IP rfl q) λ_ s6 Q=> ?_
   obtain⟨F,H6,I6,q6⟩:=Q
   have pC:=I6.pin (P2.objs.size,oC) (Qoq _ (Qoq _ (dw (Qfq.mpr rfl) d2)))
   refine⟨m,⟨oC,es,ep,pC.1,c0,e0⟩,λh' a1=>Qgq (Qgq ⟨F,H6,?_,q6⟩)⟩
   exact I6.unpinned.turned (it:=P2.objs.size) (t':=s6.toks) (λb o' f e=>(a1.2 b f).trans e) pC.2.1 pC.2.2.1 a7.2.2.2.1 a7.2.2.2.2.1 a7.2.2.2.2.2
  ·refine df (T.item (aP X N a U P2.objs.size k H2 fp) rfl rfl rfl hc i [] s3 b1 H3 _ I3 (a3 rfl d0) d4 go) λr s4 Q=> ?_
   obtain⟨u,hr,h4⟩:=Q
   subst hr
   refine df h4 λ_ s5 Q=> ?_
   obtain⟨x,H5,I5,r5,y5,b7,d6⟩:=Q
   have d5:=I5.pinned (a3 rfl d6) (T.obj _ _ b7)
   refine df (hg P2.objs.size k H2 fp _ s5 b1 H5 x u _ d5 r5 (d1 x H5 y5)) λ_ s6 Q=> ?_
   obtain⟨F,H6,I6,q6⟩:=Q
   refine df (ht P2.objs.size k H2 fp _ s6 F H6 _ I6 q6) λok s7 Q=> ?_
   obtain⟨H7,I7,q7⟩:=Q
   have again:∀{s8:Shared} {H8:Hp},Inv (aP X N a U P2.objs.size k H2 fp) ([]++nO fp s5.heap) F H8 s8->Nx F H8->∃m,m<n/\∃i a2 Z,Inv (aP X N a U P2.objs.size k H2 fp) [] a2 Z s8/\tn i s8.heap/\(∀b∈fp,Z b=none)/\W i m a2 Z:=λ{s8 H8} I8 n8=>by
    obtain⟨m',hm,w8⟩:=hN F H8 n8
    refine⟨m',hm,i+1,F,H8,I8.unpinned,T.keep _ _ _ b7 λb f o e=>(I8.pin (b,o) (Qoq _ (Qoq _ (dw f e)))).1,λb f=> ?_,w8⟩
    obtain⟨o,e,d⟩:=T.obj _ _ b7 b f
    exact(I8.pin (b,o) (Qoq _ (Qoq _ (dw f e)))).2.1
   cases ok with
   |false=>exact again I7 q7
   | true=>
     refine df (he P2.objs.size k H2 fp _ s7 F H7 _ I7 q7) λyv s8 Q=> ?_
     obtain⟨y,H8,I8,ry,xs,hx,hl,n8⟩:=Q
     refine df (qx (X:=aP X N a U P2.objs.size k H2 fp) _ s8 F H8 (.ref k.heap.objs.size) [y] (.ref k.heap.objs.size) [yv] (λ_ Z=>Nx F Z) I8 rfl (.cons ry .nil) ⟨_,xs,y,rfl,rfl,hx,hl,n8⟩) λ_ s9 Q=> ?_
     obtain⟨z,H9,I9,_,q9⟩:=Q
     exact again I9 q9
 exact codeAny_compStart_list b2 (T.self _ 0 _ _ _ (T.keep _ _ _ b4 λb _ o e=>a0 b o e) b2)
end L2
namespace Dk
open PySem
end Dk
namespace L2
open PySem PySem.Spec PyProof.Rows
section
variable{X:Cx}
def Ii(K:PySem.W.Frag):List V->Hp->VK->Prop:=λd H Q=>∃(a:Addr) (c:List Str),d= [.ref a]/\iX K H a (c.map V.str)/\c.length<64/\∀(l:Addr) (b:List Str),H l=none->sortedS b=true->b.Perm c->Q (.ref l) (upd H l (.lst (b.map V.str)))
theorem wB:∀{ys:List Str} {a:List Value},bM (ys.map V.str) a->StrsAre a ys
 | [],_,r=>by cases r;exact .nil
 | y::ys,_,r=>by
   cases r with
   | cons h t=>
     obtain⟨b,rfl⟩:=h
     exact .cons y b (wB t)
def xA{ss:List Str}{vs:List Value}(h:StrsAre vs ss):bM (ss.map V.str) vs:=by
 induction h with
 |nil=>exact .nil
 |cons y t _ a=>exact .cons ⟨t,rfl⟩ a
def y6:gP X (.builtin "sorted") (Ii X.K):=by
 intro k s A H y z Q I r h
 obtain⟨a,m,rfl,ha,h64,q⟩:=h
 obtain⟨u,rfl,rx⟩:=vals1 r
 cases (show u=Value.ref a from rx)
 obtain⟨c,l,p,B⟩:=I.list ha
 have n:c.length=m.length:=by have:=l.length;simpa using this.symm
 have i:s.heap.objs.size<=s.heap.objs.size+1:=Nat.le_succ _
 refine sorted_strs p.isList (wB l) (by omega) λd f x j t=> ?_
 obtain⟨e,v⟩:=sortedAll_at s.heap c d
 have g:f.length=m.length:=j.length_eq
 refine⟨.ref (s.heap.objs.size+1),_,I.laid (a:=s.heap.objs.size+1) (o:=.lst (f.map V.str)) (h':=sortedAll s.heap c d) (t':=s.toks) (λb o w=> ?_) i ⟨?_,d.toList,e,xA x,?_⟩,rfl,q _ f (I.hok.fresh i) t j⟩
 ·exact sortedAll_old w
 ·rw[lQm,g]
  exact QAq (nQl h64) (by decide)
 ·simpa using v
end
end L2
namespace Zp
open PySem
section
variable{prog:Program}{w:World}{A:Around}{E:Value->Shared->Prop}{s:Shared}
def Mz{i t:Addr}{k:Nat}{vs:Array Value}{v:Value}{Q:Value->Shared->Prop}(c:s.heap.IsTupleIter i t k)(e:s.heap.IsTuple t vs)(f:vs[k]?=some v)
  (q:∀h',h'.IsTupleIter i t (k+1)->Heap.SameBut i s.heap h'->Q v {s with heap:=h'}):wpAny (model prog w) A (Builtin.SmallTypes.nextOf (.ref i)) Q E s:=by
 obtain⟨j,b,g,a⟩:=id c
 obtain⟨m,h,_,l,d⟩:=e
 unfold Builtin.SmallTypes.nextOf
 refine Qaq (QiQ (name:=Str.ofString "__next__") c.typeIs F.slot_tuple_iterator_next (wpAny_call_entry F.slot_tuple_iterator_next c.typeIs F.entry_tuple_iterator_next ?_ (F.args_tuple_iterator_next_1 _)))
 refine(?_:wpAny _ _ (field (.ref i) 0 >>= _) _ _ s)
 refine Qaq (QMq b a (x:=.ref t) rfl ?_)
 refine(?_:wpAny _ _ (if (Value.ref t==Value.none)=true then _ else _) _ _ s)
 rw[Quq (λz=>by cases (show false=true from z))]
 refine(?_:wpAny _ _ (field (.ref i) 1 >>= _) _ _ s)
 refine Qaq (QMq b a (x:=.int k 0) rfl ?_)
 refine(?_:wpAny _ _ (seqItems? (.ref t) >>= _) _ _ s)
 refine Qaq (wpAny_seqItems h d ?_)
 simp only[Int.toNat_natCast,f]
 refine Qaq (wpAny_setField b a (by simp) (Qgq ⟨v,rfl,Qgq (q _ ⟨_,Heap.get?_update_self _ b (Obj.isFreed_of_fields (Obj.data_mapFields a _)),(Obj.cls_mapFields ..).trans g,?_⟩ (Heap.SameBut.update ..))⟩))
 rw[Obj.data_mapFields a]
 simp[rawInt]
def Mt{i t:Addr}{k:Nat}{vs:Array Value}{Q:Value->Shared->Prop}(f:A.handled=none)(b:s.heap.IsTupleIter i t k)(h:s.heap.IsTuple t vs)(j:vs[k]?=none)
  (q:∀h' e,Heap.ExtBut i s.heap h'->(∃o,h'.get? e=some o/\o.cls=.type "StopIteration")->E (.ref e) {s with heap:=h'}):wpAny (model prog w) A (Builtin.SmallTypes.nextOf (.ref i)) Q E s:=by
 obtain⟨n,c,u,d⟩:=id b
 obtain⟨r,l,_,p,g⟩:=h
 unfold Builtin.SmallTypes.nextOf
 refine Qaq (QiQ (name:=Str.ofString "__next__") b.typeIs F.slot_tuple_iterator_next (wpAny_call_entry F.slot_tuple_iterator_next b.typeIs F.entry_tuple_iterator_next ?_ (F.args_tuple_iterator_next_1 _)))
 refine(?_:wpAny _ _ (field (.ref i) 0 >>= _) _ _ s)
 refine Qaq (QMq c d (x:=.ref t) rfl ?_)
 refine(?_:wpAny _ _ (if (Value.ref t==Value.none)=true then _ else _) _ _ s)
 rw[Quq (λz=>by cases (show false=true from z))]
 refine(?_:wpAny _ _ (field (.ref i) 1 >>= _) _ _ s)
 refine Qaq (QMq c d (x:=.int k 0) rfl ?_)
 refine(?_:wpAny _ _ (seqItems? (.ref t) >>= _) _ _ s)
 refine Qaq (wpAny_seqItems l g ?_)
 simp only[Int.toNat_natCast,j]
 refine Qaq (wpAny_rule (Qaq (wpAny_setField c d (by simp) ?_)))
 refine(?_:wpAny _ _ (newExc (.type "StopIteration") [] >>= _) _ _ _)
 refine Qaq ?_
 simp only[newExc,newTuple]
 refine Qaq (QhQ ?_ (by size_fits))
 refine Qaq (m:=firstArgMember _ _) (wpAny_of_eq (a:=Value.none) (by first|rfl|(simp only[firstArgMember];rfl)) (QhQ ?_ (by size_fits)))
 simp only[raiseNew]
 refine Qaq (wpAny_handled ?_)
 first|rw[show A.in1.handled=none from f]|rw[f]
 exact Qaq (Qgq (wpAny_throw (q _ _ (((Heap.SameBut.update ..).extBut.push _).push _) ⟨_,Qrq _ rfl,rfl⟩)))
end
def Rest(z O i j:Addr)(h h':Heap):Prop:=∀c o,c≠z->c≠O->c≠i->c≠j->h.get? c=some o->h'.get? c=some o
end Zp
namespace L2
open PySem PySem.Spec PyProof.Rows
section
variable{X:Cx}{pins:List (Addr×Obj)}{σ:St}{H:Hp}{s:Shared}{h':Heap}
def Inv.turnedL{t':Nat}{fp:List Addr}(I:Inv X pins σ H s)(d:∀b∈fp,qU X pins H b)(k:∀b o,b∉fp->s.heap.get? b=some o->h'.get? b=some o):Inv X pins σ H {s with heap:=h',toks:=t'}:=by
 have f:∀b u,H b=some u->b∉fp:=λb u e z=>by rw[(d b z).1] at e;cases e
 refine I.step (g':=s.gens) (d':=s.drawn) (ch:=fp) (λb g=>⟨(d b g).2.2.2.1,(d b g).2.1,(d b g).2.2.2.2.1,(d b g).2.2.2.2.2⟩) (λb o _ _ a e _=>k b o a e) (λb o _ _ a e _=>⟨o.slots,k b o a e⟩) (λ_ _ _ _ n=>n)
  (λb o a e=>⟨o,k b o a e⟩) (λ_ _ e=>e) (λ_ _ _ e=>e) (λb p e=>⟨#[],by rw[e];simp⟩) (λm l=> ?_) (λb u e=> ?_) I.bare
 ·obtain⟨o,j,i,h,r⟩:=l
  exact⟨o,j,i,k _ o (λz=>(d _ z).2.1 rfl) h,r⟩
 ·refine(I.hok b u e).stay (λc v a q=>k c v ?_ q) (λ_ q=>q) λ_ _ q=>q
  rcases a with z|z
  ·rw[z];exact f b u e
  ·exact f c _ z
def Inv.turnedNew{t':Nat}{fp:List Addr}{p:Addr}{o:HO}(I:Inv X pins σ H s)(f:∀b∈fp,qU X pins H b)(k:∀b u,b∉fp->s.heap.get? b=some u->h'.get? b=some u)(i:s.heap.objs.size<=p)
  (new:cZ X.prog X.w (upd H p o) h' p o):Inv X pins σ (upd H p o) {s with heap:=h',toks:=t'}:=by
 have l:=I.hok.fresh i
 have h:∀b u,H b=some u->b∉fp:=λb u e z=>by rw[(f b z).1] at e;cases e
 have g:∀b u,H b=some u->upd H p o b=some u:=λb u e=>by rw[bo (fj e l)];exact e
 refine I.step (g':=s.gens) (d':=s.drawn) (ch:=fp) (λb d=>⟨(f b d).2.2.2.1,(f b d).2.1,(f b d).2.2.2.2.1,(f b d).2.2.2.2.2⟩) (λb o _ _ a e _=>k b o a e) (λb o _ _ a e _=>⟨o.slots,k b o a e⟩)
  (λb u _ e n=>by rw[bo (λz=>Nat.lt_irrefl _ (Qqq (Qiq e) (by rw[z];exact i)))];exact n)
  (λb o a e=>⟨o,k b o a e⟩) (λb A e=>g b _ e) (λb u v e=>g b _ e) (λb B e=>⟨#[],by rw[g b _ e];simp⟩) (λm y=> ?_) (λb u e=> ?_) I.bare
 ·obtain⟨o,x,t,j,r⟩:=y
  exact⟨o,x,t,k _ o (λz=>(f _ z).2.1 rfl) j,r⟩
 ·by_cases d:b=p
  ·subst d
   rw[bN] at e
   cases e
   exact new
  ·rw[bo d] at e
   refine(I.hok b u e).stay (λc v a q=>k c v ?_ q) (λc q=>g c _ q) λc _ q=>g c _ q
   rcases a with z|z
   ·rw[z];exact h b u e
   ·exact h c _ z
end
end L2
namespace Zp
open PySem PySem.W PyProof.Rows
def qY:KasT (Array Nat)->List (Array Nat)
 |.ret p=> [p]
 |.ask _ _ k=>qY (k true)++qY (k false)
def ud(n:Nat):KasT (Array Nat)->Bool
 |.ret _=>true
 |.ask i j k=>decide (i<n)&&decide (j<n)&&decide (i≠j)&&ud n (k true)&&ud n (k false)
def sV:∀n:Nat,n<=3->2<=n->ud n (kas_sort n)=true/\(qY (kas_sort n)).all (λp=>p.toList.isPerm (List.range n))=true:=by
 intro n b a
 have:n=2\/n=3:=by omega
 rcases this with rfl|rfl
 ·decide +kernel
 ·decide +kernel
inductive eC(h:Heap):List Value->List Str->Prop
 |nil:eC h [] []
 |cons {a:Addr} {o:Obj} {xs:Array Value} {n:Nat} {x:Str} {t:Tok} {vs:List Value} {fs:List Str}:h.get? a=some o->o.cls=.type "tuple" ->o.data=.seq xs n->xs[0]?=some (.str x t)->eC h vs fs->eC h (.ref a::vs) (x::fs)
theorem eC.keep{h h':Heap}(k:∀a o,h.get? a=some o->o.cls=.type "tuple" ->h'.get? a=some o):∀{vs:List Value} {fs:List Str},eC h vs fs->eC h' vs fs
 |_,_,.nil=>.nil
 |_,_,.cons e c d f r=>.cons (k _ _ e c) c d f (r.keep k)
theorem eC.len{h:Heap}:∀{vs:List Value} {fs:List Str},eC h vs fs->vs.length=fs.length
 |_,_,.nil=>rfl
 |_,_,.cons _ _ _ _ r=>congrArg (·+1) r.len
theorem eC.get{h:Heap}:∀{vs:List Value} {fs:List Str} {i:Nat},eC h vs fs->i<fs.length->∃a o xs n t,vs.getD i Value.none=.ref a/\h.get? a=some o/\o.data=.seq xs n/\xs[0]?=some (.str (fs.getD i "") t)
 |_,_,0,.cons e c d f r,_=>⟨_,_,_,_,_,rfl,e,d,f⟩
 | _,_,i+1,.cons e c d f r,hi=>by
   have:=r.get (i:=i) (by simpa using hi)
   simpa using this
 |_,_,_,.nil,hi=>by simp at hi
theorem eC.firsts{h:Heap}:∀{vs:List Value} {fs:List Str},eC h vs fs->∃a:List Value,KatTups h vs a/\a.length=fs.length/\∀v∈a,∃x t,v=.str x t
 |_,_,.nil=>⟨[],KatTups.nil,rfl,by simp⟩
 | _,_,.cons e c d f r=>by
   obtain⟨a,k,l,m⟩:=r.firsts
   exact⟨_::a,KatTups.cons e c d f k,by simp[l],λv b=>by
     rcases Qsq.mp b with z|z
     · exact⟨_,_,z⟩
     · exact m v z⟩
end Zp
namespace L2
open PySem PySem.Spec PyProof.Rows
mutual
inductive qS(N:Addr->Prop)(H:Hp):PyData->V->Prop
 |non:qS N H .none .non
 |bl (b:Bool):qS N H (.bool b) (.bl b)
 |int (i:Int):qS N H (.int i) (.int i)
 |str (x:Str):qS N H (.str x) (.str x)
 |tup {a:Addr} {us:List V} {xs:List PyData}:H a=some (.tup us)->lZ N H xs us->qS N H (.tuple xs) (.ref a)
 |lst {a:Addr} {us:List V} {xs:List PyData}:H a=some (.lst us)->N a->lZ N H xs us->qS N H (.list xs) (.ref a)
 |dct {a:Addr}:H a=some (.dK [])->qS N H (.dict []) (.ref a)
inductive lZ(N:Addr->Prop)(H:Hp):List PyData->List V->Prop
 |nil:lZ N H [] []
 |cons {x:PyData} {u:V} {xs:List PyData} {us:List V}:qS N H x u->lZ N H xs us->lZ N H (x::xs) (u::us)
end
section
variable{X:Cx}
mutual
theorem jM{f:List (Addr×Obj)}{F:St}{H:Hp}{s:Shared}{N:Addr->Prop}(I:Inv X f F H s)(m:∀a,N a->a≠sysModules):∀{d:PyData} {v:V} {u:Value},qS N H d v->RelV v u->∃as,Reads s.heap u d as/\sysModules∉as
 |_,_,_,.non,r=>by cases r;exact⟨_,.none,by simp⟩
 |_,_,_,.bl b,r=>by cases r;exact⟨_,.bool b,by simp⟩
 |_,_,_,.int i,r=>by obtain⟨t,rfl⟩:=r;exact⟨_,.int i t,by simp⟩
 |_,_,_,.str x,r=>by obtain⟨t,rfl⟩:=r;exact⟨_,.str x t,by simp⟩
 | _,_,_,.tup (a:=a) h hs,r=>by
   cases r
   obtain⟨k,q,⟨o,c,g,n,p⟩,J⟩:=I.tuple (gW.of h)
   obtain⟨as,j,l⟩:=ix I m hs q
   exact⟨as,.tuple c g p (by simpa using j),l⟩
 | _,_,_,.lst (a:=a) h n hs,r=>by
   cases r
   obtain⟨k,q,z,J⟩:=I.list (iX.of h)
   obtain⟨o,c,g,P,p⟩:=z.isList
   obtain⟨as,j,l⟩:=ix I m hs q
   exact⟨_,.list c g p (by simpa using j),by rw[Qsq];exact λe=>e.elim (λe=>m _ n e.symm) l⟩
 | _,_,_,.dct (a:=a) h,r=>by
   cases r
   obtain⟨_,y,L,A,B⟩:=AG I.hok h
   cases A
   obtain⟨o,K,M,c,G,g,_,C,_⟩:=B
   have w:K.toList= []:=List.eq_nil_of_length_eq_zero C.length
   exact⟨_,.dict (as:= []) (bs:= []) (kvs:= []) c G.1 g (by rw[w];exact .nil) (by rw[w];exact .nil),by
     simp
     intro e
     rw[e] at y
     simp at y⟩
theorem ix{b:List (Addr×Obj)}{j:St}{H:Hp}{s:Shared}{N:Addr->Prop}(I:Inv X b j H s)(d:∀a,N a->a≠sysModules):∀{xs:List PyData} {c:List V} {vs:List Value},lZ N H xs c->bM c vs->∃as,ReadsAll s.heap vs xs as/\sysModules∉as
 |_,_,_,.nil,r=>by cases r;exact⟨_,.nil,by simp⟩
 | _,_,_,.cons h hs,r=>by
   cases r with
   | cons r k=>
     obtain⟨as,g,i⟩:=jM I d h r
     obtain⟨m,f,l⟩:=ix I d hs k
     exact⟨_,.cons g f,by rw[mQa];exact λe=>e.elim i l⟩
end
end
section
variable{X:Cx}
def HJ:jF X (binaryOp .Mult) (rI IntMulOk λi j=>.int (i*j)):=M4 λ_ _ _ _ _ _ _ a q=>mul_int q a
inductive xa(H:Hp):List Addr->List Str->Prop
 |nil:xa H [] []
 |cons {a:Addr} {x:Str} {us:List V} {rs:List Addr} {ss:List Str}:H a=some (.tup (.str x::us))->xa H rs ss->xa H (a::rs) (x::ss)
theorem Ae{b:List (Addr×Obj)}{d:St}{H:Hp}{s:Shared}(I:Inv X b d H s):∀{rs:List Addr} {ss:List Str},xa H rs ss->Zp.eC s.heap (rs.map Value.ref) ss
 |_,_,.nil=>.nil
 | _,_,.cons (a:=a) h r=>by
   obtain⟨i,f,⟨o,e,c,n,j⟩,k⟩:=I.tuple (gW.of h)
   cases f with
   | cons g l=>
     obtain⟨t,rfl⟩:=g
     exact .cons (t:=t) e c j (by simp) (Ae I r)
theorem vZ:∀{rs:List Addr} {b:List Value},bM (rs.map V.ref) b->b=rs.map Value.ref
 | [],_,r=>by cases r;rfl
 | a::rs,_,r=>by
   cases r with
   | cons h t=>
     cases h
     rw[vZ t]
     rfl
theorem uA:∀(rs:List Addr),bM (rs.map V.ref) (rs.map Value.ref)
 | []=>.nil
 |a::rs=>.cons rfl (uA rs)
end
section
variable{X:Cx}
def Fo(K:PySem.W.Frag):R2:=λx y H Q=>∃a b c,x=.ref a/\y=.ref b/\iX K H a c/\iX K H b []/\Q (.bl (!c.isEmpty)) H
def zF(f:X.A.units<cLine):jF X (compareOp .NotEq) (Fo X.K):=by
 intro c s p H x y v u Q I e g h
 obtain⟨a,b,k,rfl,rfl,ha,hb,q⟩:=h
 cases k with
 |nil=>exact KS f c s p H _ _ v u Q I e g ⟨a,b,[],[],rfl,rfl,ha,hb,rfl,rfl,q⟩
 | cons z w=>
   cases e
   cases g
   obtain⟨j,r,l,B⟩:=I.list ha
   obtain⟨i,t,d,m⟩:=I.list hb
   have n:=r.length
   have o:=t.length
   exact SeqAt.RcNeAt.lists_lengths l.isList d.isList (by simp[←n,←o]) f _ _ _ _ ⟨.bl true,H,I,rfl,q⟩
end
end L2
namespace HT
open PySem PySem.Spec PyProof.Rows
section
variable{prog:Program}{w:World}{A:Around}{E:Value->Shared->Prop}{s:Shared}
def mH{t e:Addr}{items:Array Value}{f g:Value}{lo hi:Option Int}{Q:Value->Shared->Prop}(ht:IsTup s.heap t items)(i:s.heap.IsSliceOf e f g .none)(n:IsPart f lo)(o:IsPart g hi)
  (j:eX items.size 0 lo=0/\eX items.size items.size hi=items.size) (h:Q (.ref t) s):wpAny (model prog w) A (getItem (.ref t) (.ref e)) Q E s:=by
 obtain⟨k,b,d,p⟩:=id i
 have c:s.TypeIs (.ref e) "slice":=⟨k,b,d⟩
 unfold getItem
 try with_reducible refine QLq ?_
 first|refine Qaq (Qgq ?_)|skip
 refine Qaq (wpAny_sequenceKey ht.typeIs (by decide) ?_)
 refine Qaq (QiQ (name:=Str.ofString "__getitem__") ht.typeIs PyProof.Rows.slot_tuple_getitem
  (wpAny_call_entry PyProof.Rows.slot_tuple_getitem ht.typeIs entry_tuple_getitem ?_ (args_tuple_getitem _ _)))
 show wpAny _ _ (Builtin.Tuple.tupleItemsOf (.ref t) >>= _) _ _ s
 refine Qaq (tupleItemsOf_ ht ?_)
 refine Qaq (wpAny_typeOf c ?_)
 rw[Qhq (by decide)]
 refine Qaq (jG i n o ?_)
 have a:(((eX items.size 0 lo:Nat):Int)==0&&(1:Int)==1&&(eX items.size items.size hi-eX items.size 0 lo)==items.size)=true:=by
  rw[j.1,j.2]
  simp
 show wpAny _ _ (if (((eX items.size 0 lo:Nat):Int)==0&&(1:Int)==1&&(eX items.size items.size hi-eX items.size 0 lo)==items.size)=true then _ else _) _ _ s
 rw[Qhq a]
 have l:∀{A:Around} {E:Value->Shared->Prop} {R:Bool->Shared->Prop},R true s->wpAny (model prog w) A (Builtin.Tuple.tupleIsExact (.ref t)) R E s:=λ{A E R} h=>by
  unfold Builtin.Tuple.tupleIsExact
  exact Qaq (wpAny_typeOf ht.typeIs (Qgq h))
 refine Qaq (m:=Builtin.Tuple.tupleIsExact _) (l ?_)
 rw[Qhq rfl]
 refine Qaq (wpAny_rule ?_)
 exact Qgq ⟨_,rfl,Qgq h⟩
end
end HT
namespace L2
open PySem PySem.Spec PyProof.Rows
def Ny(K:PySem.W.Frag):V->Option Int->Option Int->Hp->VK->Prop:=λx d c H Q=>∃a b,x=.ref a/\gW K H a b∧
 (HT.eX b.length 0 d=0/\HT.eX b.length b.length c=b.length->Q (.ref a) H)/\(¬(HT.eX b.length 0 d=0/\HT.eX b.length b.length c=b.length)->∀p,H p=none->Q (.ref p) (upd H p (.tup (Bq b d c))))
def HR{X:Cx}:Oe X (Ny X.K):=by
 intro d s q H x v o p n k t Q I j l i m h
 obtain⟨a,b,rfl,hx,q1,q2⟩:=h
 by_cases e:HT.eX b.length 0 n=0/\HT.eX b.length b.length k=b.length
 ·cases j
  obtain⟨f,r,g,u⟩:=I.tuple hx
  have c:f.toArray.size=b.length:=by rw[Qjq];exact r.length.symm
  refine⟨"tuple",_,PyProof.Rows.slot_tuple_getitem.lookup,g.typeIs,?_⟩
  exact HT.mH g l i m (by rw[c];exact e) ⟨.ref a,H,I,rfl,q1 e⟩
 ·exact JR d s q H _ v o p n k t Q I j l i m ⟨a,b,rfl,hx,e,q2 e⟩
end L2
namespace DL
open PySem PySem.Spec PyProof.Rows L2
inductive D where
 |non|bl (b:Bool)|int (i:Int)|str (x:Str)|tup (xs:List D)|ref (k:Nat)|fn (x:Str)
inductive O where
 |lst (xs:List D)|frz (xs:List D)|dct (kvs:List (Key×D))
abbrev aF:=List O
abbrev cN:=List (Option D)
structure Md where
 K:PySem.W.Frag
 mg:Str->Option Value
mutual
inductive Rel(M:Md)(ρ:List Addr)(H:Hp):D->V->Prop
 |non:Rel M ρ H .non .non
 |bl (b:Bool):Rel M ρ H (.bl b) (.bl b)
 |int (i:Int):Rel M ρ H (.int i) (.int i)
 |str (x:Str):Rel M ρ H (.str x) (.str x)
 |tup {a:Addr} {vs:List V} {ds:List D}:H a=some (.tup vs)->bf M ρ H ds vs->Rel M ρ H (.tup ds) (.ref a)
 |ref {k:Nat} {a:Addr}:ρ[k]?=some a->Rel M ρ H (.ref k) (.ref a)
 |fn {x:Str} {a:Addr}:M.mg x=some (.ref a)->Rel M ρ H (.fn x) (.ref a)
inductive bf(M:Md)(ρ:List Addr)(H:Hp):List D->List V->Prop
 |nil:bf M ρ H [] []
 |cons {d:D} {v:V} {ds:List D} {vs:List V}:Rel M ρ H d v->bf M ρ H ds vs->bf M ρ H (d::ds) (v::vs)
end
section
variable{M:Md}{ρ ρ':List Addr}{H H':Hp}
def OG:HO->Prop
 |.tup _=>True
 |.frz _ _=>True
 |_=>False
structure cq(ρ:List Addr)(H:Hp)(ρ':List Addr)(H':Hp):Prop where
 pre:ρ <+: ρ'
 new:∀a∈ρ',a∈ρ\/H a=none
 keep:∀a o,H a=some o->a∉ρ\/OG o->H' a=some o
 grow:∀a,H' a=none->H a=none
def cq.refl:cq ρ H ρ H:=⟨List.prefix_refl _,λ_ h=>.inl h,λ_ _ h _=>h,λ_ h=>h⟩
def cq.trans{b d:List Addr}{H1 H2:Hp}(e:cq ρ H b H1)(f:cq b H1 d H2):cq ρ H d H2 where
 pre:=e.pre.trans f.pre
 new:=λa h=>(f.new a h).elim (λh=>e.new a h) λh=>.inr (e.grow a h)
 keep:=λa o h c=>f.keep a o (e.keep a o h c) (c.imp (λn m=>(e.new a m).elim n λz=>by rw[z] at h;cases h) id)
 grow:=λa h=>e.grow a (f.grow a h)
def cq.laid{a:Addr}{o:HO}(h:H a=none):cq ρ H ρ (upd H a o) where
 pre:=List.prefix_refl _
 new:=λ_ h=>.inl h
 keep:=λb c e _=>by rw[bo];exact e;intro z;subst z;rw[h] at e;cases e
 grow:=λb e=>by
  by_cases z:b=a
  ·subst z;exact h
  ·rw[bo z] at e;exact e
theorem lT{α:Type}:∀{l:List α},l.Nodup->∀{i j:Nat} {a:α},l[i]?=some a->l[j]?=some a->i=j
 | [],_,_,_,_,h,_=>by simp at h
 |x::l,n,0,0,_,_,_=>rfl
 | x::l,n,0,j+1,a,h1,h2=>by
   rw[List.nodup_cons] at n
   simp at h1 h2
   subst h1
   exact absurd (mQg h2) n.1
 | x::l,n,i+1,0,a,h1,h2=>by
   rw[List.nodup_cons] at n
   simp at h1 h2
   subst h2
   exact absurd (mQg h1) n.1
 | x::l,n,i+1,j+1,a,h1,h2=>by
   rw[List.nodup_cons] at n
   simp at h1 h2
   exact congrArg (·+1) (lT n.2 h1 h2)
def cv{α e:Type}{a c:α}{b d:e}(h:some (a,b)=some (c,d)):a=c/\b=d:=by cases h;exact⟨rfl,rfl⟩
def dC{α:Type}{l b:List α}(h:l <+: b){k:Nat}{a:α}(e:l[k]?=some a):b[k]?=some a:=by
 obtain⟨t,rfl⟩:=h
 rw[QHq (gQs.mp e).1]
 exact e
mutual
theorem Rel.ext(e:cq ρ H ρ' H'):∀{d:D} {v:V},Rel M ρ H d v->Rel M ρ' H' d v
 |_,_,.non=>.non
 |_,_,.bl b=>.bl b
 |_,_,.int i=>.int i
 |_,_,.str x=>.str x
 |_,_,.tup h hs=>.tup (e.keep _ _ h (.inr trivial)) (bf.ext e hs)
 |_,_,.ref h=>.ref (dC e.pre h)
 |_,_,.fn h=>.fn h
theorem bf.ext(e:cq ρ H ρ' H'):∀{ds:List D} {vs:List V},bf M ρ H ds vs->bf M ρ' H' ds vs
 |_,_,.nil=>.nil
 |_,_,.cons h hs=>.cons (Rel.ext e h) (bf.ext e hs)
end
mutual
theorem Rel.pre(e:ρ <+: ρ'):∀{d:D} {v:V},Rel M ρ H d v->Rel M ρ' H d v
 |_,_,.non=>.non
 |_,_,.bl b=>.bl b
 |_,_,.int i=>.int i
 |_,_,.str x=>.str x
 |_,_,.tup h hs=>.tup h (bf.pre e hs)
 |_,_,.ref h=>.ref (dC e h)
 |_,_,.fn h=>.fn h
theorem bf.pre(e:ρ <+: ρ'):∀{ds:List D} {vs:List V},bf M ρ H ds vs->bf M ρ' H ds vs
 |_,_,.nil=>.nil
 |_,_,.cons h hs=>.cons (Rel.pre e h) (bf.pre e hs)
end
theorem bf.length:∀{ds:List D} {vs:List V},bf M ρ H ds vs->ds.length=vs.length
 |_,_,.nil=>rfl
 |_,_,.cons _ h=>congrArg (·+1) h.length
theorem bf.append:∀{ds a:List D} {vs ws:List V},bf M ρ H ds vs->bf M ρ H a ws->bf M ρ H (ds++a) (vs++ws)
 |_,_,_,_,.nil,h=>h
 |_,_,_,_,.cons h hs,h'=>.cons h (hs.append h')
theorem bf.get:∀{ds:List D} {vs:List V} {i:Nat} {d:D},bf M ρ H ds vs->ds[i]?=some d->∃v,vs[i]?=some v/\Rel M ρ H d v
 |_,_,0,_,.cons h _,e=>by cases e;exact⟨_,rfl,h⟩
 |_,_,i+1,_,.cons _ hs,e=>hs.get (i:=i) (by simpa using e)
 |_,_,_,_,.nil,e=>by simp at e
theorem bf.set{d:D}{v:V}(h:Rel M ρ H d v):∀{ds:List D} {vs:List V} (i:Nat),bf M ρ H ds vs->bf M ρ H (ds.set i d) (vs.set i v)
 |_,_,_,.nil=>.nil
 |_,_,0,.cons _ t=>.cons h t
 |_,_,i+1,.cons q t=>.cons q (bf.set h i t)
theorem bf.take:∀{ds:List D} {vs:List V} (n:Nat),bf M ρ H ds vs->bf M ρ H (ds.take n) (vs.take n)
 |_,_,0,_=>.nil
 |_,_,_+1,.nil=>.nil
 |_,_,n+1,.cons h hs=>.cons h (hs.take n)
theorem bf.drop:∀{ds:List D} {vs:List V} (n:Nat),bf M ρ H ds vs->bf M ρ H (ds.drop n) (vs.drop n)
 |_,_,0,h=>h
 |_,_,_+1,.nil=>.nil
 |_,_,n+1,.cons _ hs=>hs.drop n
theorem bf.rep{ds:List D}{vs:List V}(h:bf M ρ H ds vs):∀k:Nat,bf M ρ H (List.replicate k ds).flatten (List.replicate k vs).flatten
 |0=>.nil
 |k+1=>by rw[QNq,QNq,List.flatten_cons,List.flatten_cons];exact h.append (h.rep k)
def cx(M:Md)(ρ:List Addr)(H:Hp):List (Key×D)->List (Key×V)->Prop
 | [],kv=>kv= []
 |(k,d)::r,kv=>∃v t,kv=(k,v)::t/\Rel M ρ H d v/\cx M ρ H r t
theorem cx.imp{ρ':List Addr}{H':Hp}(f:∀d v,Rel M ρ H d v->Rel M ρ' H' d v):∀{l:List (Key×D)} {kv:List (Key×V)},cx M ρ H l kv->cx M ρ' H' l kv
 | [],_,h=>h
 |(_,_)::_,_,⟨v,t,e,h,hs⟩=>⟨v,t,e,f _ _ h,cx.imp f hs⟩
theorem cx.length:∀{l:List (Key×D)} {kv:List (Key×V)},cx M ρ H l kv->l.length=kv.length
 | [],_,h=>by cases h;rfl
 |(_,_)::_,_,⟨v,t,e,h,hs⟩=>by subst e;exact congrArg (·+1) hs.length
def p0(M:Md)(ρ:List Addr)(H:Hp)(a:Addr):O->Prop
 |.lst c=>∃b,H a=some (.lst b)/\bf M ρ H c b
 |.frz c=>∃b o,H a=some (.frz o (.lst b))/\bf M ρ H c b
 |.dct d=>∃e,H a=some (.dK e)/\cx M ρ H d e
structure fR(M:Md)(ρ:List Addr)(S:aF)(H:Hp):Prop where
 len:ρ.length=S.length
 nd:ρ.Nodup
 obj:∀(k:Nat) (a:Addr) (o:O),ρ[k]?=some a->S[k]?=some o->p0 M ρ H a o
def p0.lay{a b:Addr}{o:O}{u:HO}(h:p0 M ρ H a o)(i:H b=none):p0 M ρ (upd H b u) a o:=by
 have e:cq ρ H ρ (upd H b u):=cq.laid i
 have f:∀{x},H a=some x->upd H b u a=some x:=λ{x} h=>by rw[bo];exact h;intro z;subst z;rw[i] at h;cases h
 cases o with
 |lst k=>obtain⟨g,d,c⟩:=h;exact⟨g,f d,c.ext e⟩
 |frz k=>obtain⟨g,o,d,c⟩:=h;exact⟨g,o,f d,c.ext e⟩
 |dct l=>obtain⟨j,d,c⟩:=h;exact⟨j,f d,c.imp λ_ _ r=>r.ext e⟩
def fR.lay{S:aF}{b:Addr}{u:HO}(h:fR M ρ S H)(e:H b=none):fR M ρ S (upd H b u):=⟨h.len,h.nd,λk a o d c=>(h.obj k a o d c).lay e⟩
theorem p0.pre{a:Addr}{o:O}(e:ρ <+: ρ')(h:p0 M ρ H a o):p0 M ρ' H a o:=by
 cases o with
 |lst g=>obtain⟨d,c,b⟩:=h;exact⟨d,c,b.pre e⟩
 |frz g=>obtain⟨d,o,c,b⟩:=h;exact⟨d,o,c,b.pre e⟩
 |dct i=>obtain⟨f,c,b⟩:=h;exact⟨f,c,b.imp λ_ _ r=>r.pre e⟩
def fR.box{S:aF}{a:Addr}{o:O}(h:fR M ρ S H)(l:a∉ρ)(i:p0 M (ρ++ [a]) H a o):fR M (ρ++ [a]) (S++ [o]) H where
 len:=by rw[lQa,lQa,h.len];rfl
 nd:=by rw[List.nodup_append];exact⟨h.nd,by simp,λx g y f=>by rw[Qfq] at f;subst f;exact λz=>l (z▸g)⟩
 obj:=λk b u d e=>by
  by_cases c:k<ρ.length
  ·rw[QHq c] at d
   rw[QHq (h.len▸c)] at e
   exact(h.obj k b u d e).pre (List.prefix_append _ _)
  ·have c:ρ.length<=k:=Nat.le_of_not_lt c
   rw[QQq c] at d
   rw[QQq (h.len▸c)] at e
   have z:k-ρ.length=0:=by
    have:=(gQs.mp d).1
    simp at this
    omega
   have j:k-S.length=0:=by rw[←h.len];exact z
   rw[z] at d
   rw[j] at e
   cases d
   cases e
   exact i
def fR.put{S:aF}{k:Nat}{a:Addr}{o o':O}{u:HO}(h:fR M ρ S H)(i:ρ[k]?=some a)(B:S[k]?=some o)(J:p0 M ρ (upd H a u) a o')(I:∀x,H a=some x->¬OG x):fR M ρ (S.set k o') (upd H a u)/\cq ρ H ρ (upd H a u):=by
 have F:a∈ρ:=mQg i
 have e:cq ρ H ρ (upd H a u):=by
  refine⟨List.prefix_refl _,λ_ h=>.inl h,λb x y c=> ?_,λb m=> ?_⟩
  ·rw[bo]
   ·exact y
   ·intro z
    subst z
    exact c.elim (λn=>n F) λK=>I _ y K
  ·by_cases z:b=a
   ·subst z;rw[bN] at m;cases m
   ·rw[bo z] at m;exact m
 refine⟨⟨by rw[List.length_set];exact h.len,h.nd,λj b p d l=> ?_⟩,e⟩
 by_cases c:j=k
 ·subst c
  rw[i] at d
  cases d
  rw[Qyq (gQs.mp B).1] at l
  cases l
  exact J
 ·rw[QKq (Ne.symm c)] at l
  have s:b≠a:=by
   intro z
   subst z
   have v:=(gQs.mp d)
   have w:=(gQs.mp i)
   obtain⟨v,L⟩:=v
   obtain⟨w,N⟩:=w
   exact c (lT h.nd d i)
  have q:=h.obj j b p d l
  cases p with
  |lst A=>obtain⟨t,f,g⟩:=q;exact⟨t,by rw[bo s];exact f,g.ext e⟩
  |frz A=>obtain⟨t,o,f,g⟩:=q;exact⟨t,o,by rw[bo s];exact f,g.ext e⟩
  |dct C=>obtain⟨G,f,g⟩:=q;exact⟨G,by rw[bo s];exact f,g.imp λ_ _ r=>r.ext e⟩
end
structure En(M:Md)(ρ:List Addr)(H:Hp)(Γ:cN)(σ:L2.St):Prop where
 len:σ.length=Γ.length
 get:∀(i:Nat) (d:D),Γ[i]?=some (some d)->∃v,σ[i]?=some (some v)/\Rel M ρ H d v
def En.ext{M:Md}{ρ a:List Addr}{H b:Hp}{f:cN}{c:L2.St}(h:En M ρ H f c)(e:cq ρ H a b):En M a b f c:=⟨h.len,λi d q=>by obtain⟨v,j,g⟩:=h.get i d q;exact⟨v,j,g.ext e⟩⟩
def En.set{M:Md}{ρ:List Addr}{H:Hp}{a:cN}{b:L2.St}{i:Nat}{d:D}{v:V}(h:En M ρ H a b)(r:Rel M ρ H d v):En M ρ H (a.set i (some d)) (b.set i (some v)) where
 len:=by rw[List.length_set,List.length_set];exact h.len
 get:=λj e q=>by
  by_cases c:i=j
  ·subst c
   have l:i<a.length:=by
    have:=(gQs.mp q).1
    rwa [List.length_set] at this
   rw[Qyq l] at q
   cases q
   exact⟨v,Qyq (h.len▸l),r⟩
  ·rw[QKq c] at q⊢
   exact h.get j e q
structure Ok(M:Md)(ρ:List Addr)(Γ:cN)(S:aF)(σ:L2.St)(H:Hp):Prop where
 en:En M ρ H Γ σ
 st:fR M ρ S H
def Ok.to{M:Md}{ρ a:List Addr}{d:cN}{S f:aF}{c:L2.St}{H b:Hp}(h:Ok M ρ d S c H)(e:cq ρ H a b)(s:fR M a f b):Ok M a d f c b:=⟨h.en.ext e,s⟩
abbrev bE:=cN->aF->Option (D×aF)
abbrev fW:=cN->aF->Option (List D×aF)
abbrev kA:=cN->aF->Option (Bool×aF)
def tD(M:Md)(f:bE):TE:=λh H Q=>∃g c S d e,Ok M g c S h H/\f c S=some (d,e)/\∀a v b,cq g H a b->fR M a e b->Rel M a b d v->Q v b
def tL(M:Md)(f:fW):TE:=λj H Q=>∃i e S g h,Ok M i e S j H/\f e S=some (g,h)∧
 ∀b a d c,cq i H b c->fR M b h c->H a=none->a∉b->c a=some (.lst d)->bf M b c g d->Q (.ref a) c
def ze(M:Md)(f:fW):TA:=λi H Q=>∃h d S e g,Ok M h d S i H/\f d S=some (e,g)/\∀a c b,cq h H a b->fR M a g b->bf M a b e c->Q c b
def tB(M:Md)(f:kA):TT:=λh H Q=>∃g d S b e,Ok M g d S h H/\f d S=some (b,e)/\∀a c,cq g H a c->fR M a e c->Q b c
section
variable{X:Cx}
abbrev md(X:Cx):Md:=⟨X.K,X.mg⟩
def kN{e:Expr}{t t':TE}(h:PE X e t)(w:∀b H Q,t' b H Q->t b H Q):PE X e t':=λa s b H Q I q=>h a s b H Q I (w _ _ _ q)
def M0{e:Expr}{t t':TT}(h:PT X e t)(w:∀b H Q,t' b H Q->t b H Q):PT X e t':=λa s b H Q I q=>h a s b H Q I (w _ _ _ q)
def OC{e:Expr}{t t':TT}(h:PW X e t)(w:∀b H Q,t' b H Q->t b H Q):PW X e t':=λc a s b H Q I q=>h c a s b H Q I (w _ _ _ q)
def Om{d:List Expr}{t t':TA}(h:PA X d t)(w:∀b H Q,t' b H Q->t b H Q):PA X d t':=λc a s b H Q I q=>h c a s b H Q I (w _ _ _ q)
def Ef{e:Stmt}{t t':TS}(h:PS X e t)(w:∀D b H,t' D b H->t D b H):PS X e t':=λa s b H D I q=>h a s b H D I (w _ _ _ q)
def Ll{e:List Stmt}{t t':TS}(h:uc X e t)(w:∀D b H,t' D b H->t D b H):uc X e t':=λa s b H D I q=>h a s b H D I (w _ _ _ q)
noncomputable def aw(i:Nat):bE:=λa S=>match a[i]? with
 |some (some d)=>some (d,S)
 |_=>none
def Ee{i:Nat}{a:cN}{S:aF}{d:D}{b:aF}(h:aw i a S=some (d,b)):a[i]?=some (some d)/\b=S:=by
 unfold aw at h
 split at h
 ·cases h;exact⟨by assumption,rfl⟩
 ·cases h
def Mk{e:Expr}{i:Nat}(h:PE X e (Jv i)):PE X e (tD (md X) (aw i)):=kN h λj H Q f=>by
 obtain⟨g,k,S,d,l,ok,e,q⟩:=f
 obtain⟨c,rfl⟩:=Ee e
 obtain⟨v,b,a⟩:=ok.en.get i d c
 exact⟨v,b,q g v H cq.refl ok.st a⟩
noncomputable def cF(d:D):bE:=λ_ S=>some (d,S)
def kG{e:Expr}{v:V}{d:D}(h:PE X e (tC v))(r:∀ρ H,Rel (md X) ρ H d v):PE X e (tD (md X) (cF d)):=kN h λb H Q a=>by
 obtain⟨ρ,c,S,g,f,ok,e,q⟩:=a
 cases e
 exact q ρ v H cq.refl ok.st (r _ _)
def aQ{i:Int}{j pos}:PE X (.Constant (.int i) j pos) (tD (md X) (cF (.int i))):=kG Kv λ_ _=>.int i
def Bh{b:Bool}{j pos}:PE X (.Constant (.bool b) j pos) (tD (md X) (cF (.bl b))):=kG MC λ_ _=>.bl b
def L_{j pos}:PE X (.Constant .none j pos) (tD (md X) (cF .non)):=kG J7 λ_ _=>.non
def fS{x:Str}{j pos}:PE X (.Constant (.str x) j pos) (tD (md X) (cF (.str x))):=kG KA λ_ _=>.str x
def bT(f:fW):bE:=λb S=>(f b S).bind λ(c,a)=>some (.ref a.length,a++ [.lst c])
def hG{e:Expr}{f:fW}(h:PE X e (tL (md X) f)):PE X e (tD (md X) (bT f)):=kN h λz H Q w=>by
 obtain⟨y,l,S,d,A,ok,e,q⟩:=w
 unfold bT at e
 cases j:f l S with
 |none=>rw[j] at e;cases e
 | some p=>
   obtain⟨o,v⟩:=p
   rw[j] at e
   obtain⟨rfl,rfl⟩:=cv e
   refine⟨y,l,S,o,v,ok,j,λg a r m x k n u t s=> ?_⟩
   have i:=s.pre (List.prefix_append g [a])
   refine q (g++ [a]) (.ref a) m ⟨x.pre.trans (List.prefix_append _ _),λb c=> ?_,x.keep,x.grow⟩ (k.box u ⟨r,t,i⟩) (.ref ?_)
   · rcases mQa.mp c with c|c
     · exact x.new b c
     · rw[Qfq] at c;subst c;exact .inr n
   · rw[←k.len,QQq (Qmq _)]
     simp
noncomputable def ax:fW:=λ_ S=>some ([],S)
noncomputable def au(f:bE)(g:fW):fW:=λa S=>(f a S).bind λ(d,b)=>(g a b).bind λ(e,c)=>some (d::e,c)
def av{α c:Type}{o:Option α}{f:α->Option c}{b:c}(h:o.bind f=some b):∃a,o=some a/\f a=some b:=by
 cases o with
 |none=>cases h
 |some a=>exact⟨a,rfl,h⟩
def aZ:PA X [] (ze (md X) ax):=Om fq λc H Q a=>by
 obtain⟨b,f,S,d,g,ok,e,q⟩:=a
 cases e
 exact q b [] H cq.refl ok.st .nil
def aB{e:Expr}{a:List Expr}{f:bE}{g:fW}(w:PE X e (tD (md X) f))(n:PA X a (ze (md X) g))(t:starEach (e::a) X.env=(false,eval e X.env)::starEach a X.env:=by rfl):PA X (e::a) (ze (md X) (au f g)):=
 Om (cP w n t) λC H Q A=>by
  obtain⟨B,j,S,d,F,ok,e,q⟩:=A
  obtain⟨⟨x,m⟩,o,e⟩:=av e
  obtain⟨⟨p,y⟩,u,e⟩:=av e
  obtain⟨rfl,rfl⟩:=cv e
  refine⟨B,j,S,x,m,ok,o,λc v H1 l h s=>⟨c,j,m,p,y,ok.to l h,u,λb r H2 k i z=> ?_⟩⟩
  exact q b (v::r) H2 (l.trans k) i (.cons (s.ext k) z)
def a8(f:fW):bE:=λc S=>(f c S).bind λ(a,b)=>if a.length<=sizeLine then some (.tup a,b) else none
def gN{j:List Expr}{f:fW}{k pos}(h:PA X j (ze (md X) f)):PE X (.Tuple j k pos) (tD (md X) (a8 f)):=kN (Ku h) λv H Q s=>by
 obtain⟨t,n,S,d,w,ok,e,q⟩:=s
 obtain⟨⟨m,r⟩,l,e⟩:=av e
 dsimp only at e
 split at e
 ·rename_i c
  obtain⟨rfl,rfl⟩:=cv e
  refine⟨t,n,S,m,r,ok,l,λa u H1 o g i=>⟨i.length▸c,λp b=> ?_⟩⟩
  exact q a (.ref p) _ (o.trans (cq.laid b)) (g.lay b) (.tup bN (i.ext (cq.laid b)))
 ·cases e
def bt(f:fW):fW:=λc S=>(f c S).bind λ(a,b)=>if a.length<=sizeLine then some (a,b) else none
def dv{M:Md}{ρ a:List Addr}{S:aF}{H b:Hp}{p:Addr}(x:cq ρ H a b)(st:fR M a S b)(c:b p=none):p∉a:=λm=>by
 obtain⟨k,g⟩:=List.getElem?_of_mem m
 have l:k<S.length:=st.len▸(gQs.mp g).1
 have:=st.obj k p _ g (gQe l)
 cases e:S[k] with
 |lst d=>rw[e] at this;obtain⟨f,h,_⟩:=this;rw[c] at h;cases h
 |frz d=>rw[e] at this;obtain⟨f,o,h,_⟩:=this;rw[c] at h;cases h
 |dct d=>rw[e] at this;obtain⟨f,h,_⟩:=this;rw[c] at h;cases h
def fT{k:List Expr}{f:fW}{pos}(h:PA X k (ze (md X) f)):PE X (.List k pos) (tL (md X) (bt f)):=kN (JN h) λu H Q s=>by
 obtain⟨t,o,S,d,v,ok,e,q⟩:=s
 obtain⟨⟨m,r⟩,l,e⟩:=av e
 dsimp only at e
 split at e
 ·rename_i c
  obtain⟨rfl,rfl⟩:=cv e
  refine⟨t,o,S,m,r,ok,l,λg n H1 i b j=>⟨j.length▸c,λp a=> ?_⟩⟩
  exact q g p n _ (i.trans (cq.laid a)) (b.lay a) (i.grow p a) (dv i b a) bN (j.ext (cq.laid a))
 ·cases e
end
section
variable{X:Cx}{a b c e:Expr}{pos:Pos}
def FI:jF X (binaryOp .Add) (λx y H Q=>∃a b ys,x=.ref a/\y=.ref b/\gW X.K H a []/\gW X.K H b ys/\Q (.ref b) H):=by
 intro w s R H x y v u Q I G P h
 obtain⟨a,b,ys,rfl,rfl,ha,l,q⟩:=h
 cases G
 cases P
 obtain⟨B,C,A,_⟩:=I.tuple ha
 obtain⟨g,S,l,_⟩:=I.tuple l
 cases C
 obtain⟨⟨M,L,t,N⟩,o,p,n,r⟩:=id A
 obtain⟨⟨z,k,m,j⟩,f,i,J,d⟩:=id l
 simp only at p r i d
 subst p r i d
 exact concat_meets ⟨_,o,rfl⟩ ⟨_,f,rfl⟩ noFill_tuple_add seq_tuple_add PySem.F.slot_tuple_add PySem.F.entry_tuple_add (PySem.F.args_tuple_add_2 _ _)
   (tuple_addW0 a b _ g.toArray n J L k N j (by simp)) ⟨o,f,.ref b,H,I,rfl,q⟩
abbrev uj:=aF->D->D->Option D
def lU(M:Md)(r:R2)(o:uj):Prop:=∀{f:List Addr} {S:aF} {H:Hp} {x y d:D} {u v:V} {Q:VK},fR M f S H->Rel M f H x u->Rel M f H y v->o S x y=some d->(∀w g,cq f H f g->fR M f S g->Rel M f g d w->Q w g)->r u v H Q
noncomputable def aW(o:uj)(f g:bE):bE:=λh S=>(f h S).bind λ(x,j)=>(g h j).bind λ(y,i)=>(o i x y).bind λd=>some (d,i)
def rH{r:R2}{o:uj}{f g:bE}(z:lU (md X) r o)(h:PE X e (Gx r (tD (md X) f) (tD (md X) g))):PE X e (tD (md X) (aW o f g)):=kN h λN H Q L=>by
 obtain⟨M,n,S,d,R,ok,e,q⟩:=L
 obtain⟨⟨x,t⟩,u,e⟩:=av e
 obtain⟨⟨y,I⟩,F,e⟩:=av e
 obtain⟨P,J,e⟩:=av e
 obtain⟨rfl,rfl⟩:=cv e
 refine⟨M,n,S,x,t,ok,u,λj v H1 s l A=>⟨j,n,t,y,I,ok.to s l,F,λi w H2 p m K=> ?_⟩⟩
 exact z m (A.ext p) K J λC H3 G k B=>q i C H3 ((s.trans p).trans G) k B
def bU:uj:=λ_ x y=>match x,y with
 |.int i,.int j=>some (.int (i+j))
 |.str i,.str j=>if i.length+j.length<=sizeLine then some (.str (i++j)) else none
 |.tup i,.tup j=>if i.length+j.length<=sizeLine then some (.tup (i++j)) else none
 |_,_=>none
abbrev LP(K:PySem.W.Frag):R2:=λx y H Q=>(∃i j,x=.int i/\y=.int j/\Q (.int (i+j)) H)\/(∃i j,x=.str i/\y=.str j/\i.length+j.length<=sizeLine/\Q (.str (i++j)) H)∨
 (∃a b d,x=.ref a/\y=.ref b/\gW K H a []/\gW K H b d/\Q (.ref b) H)\/Jm K x y H Q
def He:jF X (binaryOp .Add) (LP X.K):=K3.or (BA.or (FI.or Ie))
def Ki{M:Md}:lU M (LP M.K) bU:=by
 intro t S H x y d u v Q f o n e q
 cases o with
 |int i=>cases n <;>simp only[bU,reduceCtorEq] at e;cases e;exact .inl ⟨_,_,rfl,rfl,q _ _ cq.refl f (.int _)⟩
 | str i=>
   cases n <;>simp only[bU,reduceCtorEq] at e
   split at e <;>cases e
   exact .inr (.inl ⟨_,_,rfl,rfl,by assumption,q _ _ cq.refl f (.str _)⟩)
 | tup k g=>
   cases n with
   | tup m j=>
     simp only[bU] at e
     split at e <;>cases e
     rename_i hl
     have r:=g.length
     have s:=j.length
     cases g with
     |nil=>exact .inr (.inr (.inl ⟨_,_,_,rfl,rfl,gW.of k,gW.of m,q _ _ cq.refl f (.tup m j)⟩))
     | cons g h=>
       refine .inr (.inr (.inr ⟨_,_,_,_,rfl,rfl,gW.of k,gW.of m,by simp,by rw[←r,←s];exact hl,λz=> ?_,λz p l=> ?_⟩))
       · subst z
         cases j
         rw[List.append_nil] at q
         exact q _ _ cq.refl f (.tup k (.cons g h))
       · exact q _ _ (cq.laid l) (f.lay l) (.tup bN ((bf.append (.cons g h) j).ext (cq.laid l)))
   |_=>simp only[bU,reduceCtorEq] at e
 |_=>simp only[bU,reduceCtorEq] at e
def mY{f g:bE}(d:PE X a (tD (md X) f))(h:PE X b (tD (md X) g)):PE X (.BinOp a .Add b pos) (tD (md X) (aW bU f g)):=rH Ki (rE He d h)
def intD(C:Int->Int->Prop)[∀i j,Decidable (C i j)](k:Int->Int->D):uj:=λ_ x y=>match x,y with
 |.int i,.int j=>if C i j then some (k i j) else none
 |_,_=>none
def yq{M:Md}{C:Int->Int->Prop}[∀i j,Decidable (C i j)]{k:Int->Int->D}{g:Int->Int->V}(l:∀i j ρ H,Rel M ρ H (k i j) (g i j)):lU M (rI C g) (intD C k):=by
 intro ρ S H x y d u v Q f h m e q
 cases h <;>cases m <;>simp only[intD,reduceCtorEq] at e
 split at e <;>cases e
 exact⟨_,_,rfl,rfl,by assumption,q _ _ cq.refl f (l _ _ _ _)⟩
def oJ{M:Md}{k:Int->Int->D}{g:Int->Int->V}(l:∀i j ρ H,Rel M ρ H (k i j) (g i j)):lU M (Er g) (intD (λ_ _=>True) k):=by
 intro ρ S H x y d u v Q f h m e q
 cases h <;>cases m <;>simp only[intD,reduceCtorEq] at e
 rw[Qhq trivial] at e
 cases e
 exact⟨_,_,rfl,rfl,q _ _ cq.refl f (l _ _ _ _)⟩
instance{i j:Int}:Decidable (Fg i j):=by unfold Fg;infer_instance
instance{i j:Int}:Decidable (GQ i j):=by unfold GQ;infer_instance
open Classical in
noncomputable instance{i j:Int}:Decidable (IntMulOk i j):=Classical.propDecidable _
abbrev oo:uj:=intD (λ_ _=>True) λi j=>.int (i-j)
noncomputable abbrev pR:uj:=intD IntMulOk λi j=>.int (i*j)
abbrev oU:uj:=intD (λ_ j=>0<j) λi j=>.int (i%j)
abbrev wW:uj:=intD Fg λi j=>.int (i/j)
abbrev EZ:uj:=intD GQ λi j=>.int (i^j.toNat)
def OK{f g:bE}(h:PE X a (tD (md X) f))(d:PE X b (tD (md X) g)):PE X (.BinOp a .Sub b pos) (tD (md X) (aW oo f g)):=rH (oJ λi j _ _=>.int _) (rE Kz h d)
def Jg{f g:bE}(h:PE X a (tD (md X) f))(d:PE X b (tD (md X) g)):PE X (.BinOp a .Mult b pos) (tD (md X) (aW pR f g)):=rH (yq λi j _ _=>.int _) (rE HJ h d)
def IU{f g:bE}(h:PE X a (tD (md X) f))(d:PE X b (tD (md X) g)):PE X (.BinOp a .Mod b pos) (tD (md X) (aW oU f g)):=rH (yq λi j _ _=>.int _) (rE J1 h d)
def Nh{f g:bE}(h:PE X a (tD (md X) f))(d:PE X b (tD (md X) g)):PE X (.BinOp a .FloorDiv b pos) (tD (md X) (aW wW f g)):=rH (yq λi j _ _=>.int _) (rE Ic h d)
def Og{f g:bE}(h:PE X a (tD (md X) f))(d:PE X b (tD (md X) g)):PE X (.BinOp a .Pow b pos) (tD (md X) (aW EZ f g)):=rH (yq λi j _ _=>.int _) (rE JZ h d)
def qB(f:bE):bE:=λh S=>(f h S).bind λ(d,g)=>match d with
 |.int i=>some (.int (-i),g)
 |_=>none
def IW{f:bE}(l:PE X a (tD (md X) f)):PE X (.UnaryOp .USub a pos) (tD (md X) (qB f)):=kN (L3 KY l) λr H Q o=>by
 obtain⟨p,j,S,d,s,ok,e,q⟩:=o
 obtain⟨⟨x,n⟩,h,e⟩:=av e
 dsimp only at e
 split at e
 ·obtain⟨rfl,rfl⟩:=cv e
  refine⟨p,j,S,_,n,ok,h,λk v H1 m g i=> ?_⟩
  cases i
  exact⟨_,rfl,q _ _ _ m g (.int _)⟩
 ·cases e
def yu:D->Option V
 |.non=>some .non
 |.bl b=>some (.bl b)
 |.int i=>some (.int i)
 |.str x=>some (.str x)
 |_=>none
def m_{M:Md}{ρ:List Addr}{H:Hp}{d:D}{u v:V}(r:Rel M ρ H d u)(e:yu d=some v):u=v:=by
 cases r <;>simp[yu] at e <;>exact e
def fP(d:Bool):uj:=λ_ x y=>match yu x,yu y with
 |some u,some v=>if Be u v=true then some (.bl (if d then !decide (u=v) else decide (u=v))) else none
 |_,_=>none
def Ao{f:Bool}{S:aF}{x y d:D}(e:fP f S x y=some d):∃u v,yu x=some u/\yu y=some v/\Be u v=true/\d=.bl (if f then !decide (u=v) else decide (u=v)):=by
 unfold fP at e
 split at e
 ·split at e <;>cases e
  exact⟨_,_,by assumption,by assumption,by assumption,rfl⟩
 ·cases e
def AU{M:Md}:lU M Os (fP false):=by
 intro n S H x y d u v Q f g k e q
 obtain⟨m,l,h,i,j,rfl⟩:=Ao e
 cases m_ g h
 cases m_ k i
 exact⟨j,q _ _ cq.refl f (.bl _)⟩
def Ox{M:Md}:lU M Ou (fP true):=by
 intro n S H x y d u v Q f g k e q
 obtain⟨m,l,h,i,j,rfl⟩:=Ao e
 cases m_ g h
 cases m_ k i
 exact⟨j,q _ _ cq.refl f (.bl _)⟩
abbrev Ej:uj:=intD (λ_ _=>True) λi j=>.bl (decide (i<j))
abbrev Lf:uj:=intD (λ_ _=>True) λi j=>.bl (decide (i<=j))
abbrev KC:uj:=intD (λ_ _=>True) λi j=>.bl (decide (j<i))
abbrev N6:uj:=intD (λ_ _=>True) λi j=>.bl (decide (j<=i))
def FD{M:Md}:lU M (Er λi j=>.bl (decide (i<j))) Ej:=oJ λi j _ _=>.bl _
def Jf{M:Md}:lU M (Er λi j=>.bl (decide (i<=j))) Lf:=oJ λi j _ _=>.bl _
def Ml{M:Md}:lU M (Er λi j=>.bl (decide (j<i))) KC:=oJ λi j _ _=>.bl _
def Oo{M:Md}:lU M (Er λi j=>.bl (decide (j<=i))) N6:=oJ λi j _ _=>.bl _
def isNone:D->Bool
 |.non=>true
 |_=>false
def GX(d:Bool):uj:=λ_ x y=>match y with
 |.non=>some (.bl (if d then !isNone x else isNone x))
 |_=>none
def DH{M:Md}{ρ:List Addr}{H:Hp}{d:D}{u:V}(r:Rel M ρ H d u):decide (u=V.non)=isNone d:=by
 cases r <;>simp[isNone]
def N9{M:Md}:lU M (λx y H Q=>y=.non/\Q (.bl (decide (x=.non))) H) (GX false):=by
 intro i S H x y d u v Q g f h e q
 cases h <;>simp only[GX,reduceCtorEq] at e
 cases e
 rw[DH f]
 exact⟨rfl,q _ _ cq.refl g (.bl _)⟩
def Ma{d:CmpOp}{r:R2}{o:uj}{f g:bE}(i:jF X (compareOp d) r)(l:lU (md X) r o)(k:PE X a (tD (md X) f))(j:PE X b (tD (md X) g))(h:behindInMarks d b=false):PE X (.Compare a [d] [b] pos) (tD (md X) (aW o f g)):=rH l (yh i k j h)
noncomputable def aI(f:bE):kA:=λh S=>(f h S).bind λ(d,g)=>match d with
 |.bl k=>some (k,g)
 |_=>none
def tN{f:bE}{g:cN}{S h:aF}{k:Bool}(e:aI f g S=some (k,h)):f g S=some (.bl k,h):=by
 obtain⟨⟨d,j⟩,i,e⟩:=av e
 dsimp only at e
 split at e
 ·cases e;exact i
 ·cases e
def L9{r:R2}{o:uj}{f g:bE}(z:lU (md X) r o)(h:PT X e (FQ (Gx r (tD (md X) f) (tD (md X) g)))):PT X e (tB (md X) (aI (aW o f g))):=M0 h λN H Q K=>by
 obtain⟨L,n,S,d,R,ok,e,q⟩:=K
 have e:=tN e
 obtain⟨⟨x,t⟩,u,e⟩:=av e
 obtain⟨⟨y,G⟩,C,e⟩:=av e
 obtain⟨P,I,e⟩:=av e
 obtain⟨rfl,rfl⟩:=cv e
 refine⟨L,n,S,x,t,ok,u,λj v H1 s l A=>⟨j,n,t,y,G,ok.to s l,C,λi w H2 p m J=> ?_⟩⟩
 exact z m (A.ext p) J I λM H3 F k B=>by cases B;exact⟨_,rfl,q i H3 ((s.trans p).trans F) k⟩
def i3{d:CmpOp}{r:R2}{o:uj}{f g:bE}(i:jF X (compareOp d) r)(l:lU (md X) r o)(k:PE X a (tD (md X) f))(j:PE X b (tD (md X) g))(h:behindInMarks d b=false):PT X (.Compare a [d] [b] pos) (tB (md X) (aI (aW o f g))):=L9 l (kC i k j h)
def Bb(S:aF):D->Option Bool
 |.non=>some false
 |.bl b=>some b
 |.int i=>some (i !=0)
 |.str y=>if y.length<=sizeLine then some ((y.length:Int) !=0) else none
 |.tup d=>some (!d.isEmpty)
 | .ref k=>match S[k]? with
   |some (.lst d)=>some (!d.isEmpty)
   |some (.dct d)=>some (!d.isEmpty)
   |_=>none
 |.fn _=>none
def bf.isEmpty{M:Md}{ρ:List Addr}{H:Hp}{ds:List D}{vs:List V}(h:bf M ρ H ds vs):ds.isEmpty=vs.isEmpty:=by cases h <;>rfl
theorem cx.isEmpty{M:Md}{ρ:List Addr}{H:Hp}{ds:List (Key×D)}{vs:List (Key×V)}(h:cx M ρ H ds vs):ds.isEmpty=vs.isEmpty:=by
 cases ds with
 |nil=>cases h;rfl
 |cons p r=>obtain⟨v,t,e,_⟩:=h;subst e;rfl
def HF{M:Md}{ρ:List Addr}{S:aF}{H:Hp}{d:D}{u:V}{k:Bool}(st:fR M ρ S H)(r:Rel M ρ H d u)(e:Bb S d=some k):K0 M.K u H k:=by
 cases r with
 |non=>cases e;rfl
 |bl=>cases e;rfl
 |int=>cases e;rfl
 |str=>simp only[Bb] at e;split at e <;>cases e;exact⟨by assumption,rfl⟩
 |tup h j=>cases e;exact .inr (.inl ⟨_,gW.of h,by rw[j.isEmpty]⟩)
 |fn=>cases e
 | ref h=>
   simp only[Bb] at e
   split at e
   · cases e
     obtain⟨i,g,f⟩:=st.obj _ _ _ h (by assumption)
     exact .inl ⟨i,iX.of g,by rw[f.isEmpty]⟩
   · cases e
     obtain⟨i,g,f⟩:=st.obj _ _ _ h (by assumption)
     exact .inr (.inr ⟨i,g,by rw[f.isEmpty]⟩)
   · cases e
def mK(f:bE):kA:=λh S=>(f h S).bind λ(d,g)=>(Bb g d).bind λk=>some (k,g)
def Ck{f:bE}(n:PE X a (tD (md X) f))(he:∀d,isTrue a X.env d=(do let v←d;standAt a.pos;holding [v] (truthy v)):=by intro _;rfl):PT X a (tB (md X) (mK f)):=M0 (GH n he) λu H Q s=>by
 obtain⟨t,j,S,k,w,ok,e,q⟩:=s
 obtain⟨⟨x,r⟩,h,e⟩:=av e
 obtain⟨p,m,e⟩:=av e
 obtain⟨rfl,rfl⟩:=cv e
 exact⟨t,j,S,x,r,ok,h,λl v H1 o g i=>⟨p,HF g i m,q _ _ o g⟩⟩
def vN(f:kA):kA:=λg S=>(f g S).bind λ(k,d)=>some (!k,d)
def Co{f:kA}(l:PT X a (tB (md X) f)):PT X (.UnaryOp .Not a pos) (tB (md X) (vN f)):=M0 (J9 l) λr H Q o=>by
 obtain⟨p,i,S,k,s,ok,e,q⟩:=o
 obtain⟨⟨h,n⟩,g,e⟩:=av e
 obtain⟨rfl,rfl⟩:=cv e
 exact⟨p,i,S,h,n,ok,g,λj H1 m d=>q _ _ m d⟩
def g7(f g:kA):kA:=λh S=>(f h S).bind λ(k,d)=>if k=true then g h d else some (false,d)
def GV(f g:kA):kA:=λh S=>(f h S).bind λ(k,d)=>if k=true then some (true,d) else g h d
def nU{f:kA}(d:PT X a (tB (md X) f)):PW X (.BoolOp .And [a] pos) (tB (md X) f):=Ht d
def CM{f:kA}(d:PT X a (tB (md X) f)):PW X (.BoolOp .Or [a] pos) (tB (md X) f):=KQ d
def w_and{d:List Expr}{f g:kA}(s:PT X a (tB (md X) f))(u:PW X (.BoolOp .And (b::d) pos) (tB (md X) g)):PW X (.BoolOp .And (a::b::d) pos) (tB (md X) (g7 f g)):=OC (JY s u) λy H Q v=>by
 obtain⟨x,m,S,k,w,ok,e,q⟩:=v
 obtain⟨⟨r,n⟩,o,e⟩:=av e
 refine⟨x,m,S,r,n,ok,o,λi H1 j h=> ?_⟩
 dsimp only at e
 split at e
 ·rename_i c
  rw[Qhq c]
  exact⟨i,m,n,k,w,ok.to j h,e,λp H2 t l=>q _ _ (j.trans t) l⟩
 ·rename_i c
  rw[Quq c]
  obtain⟨rfl,rfl⟩:=cv e
  exact q _ _ j h
def w_or{d:List Expr}{f g:kA}(s:PT X a (tB (md X) f))(u:PW X (.BoolOp .Or (b::d) pos) (tB (md X) g)):PW X (.BoolOp .Or (a::b::d) pos) (tB (md X) (GV f g)):=OC (Lr s u) λy H Q v=>by
 obtain⟨x,m,S,k,w,ok,e,q⟩:=v
 obtain⟨⟨r,n⟩,o,e⟩:=av e
 refine⟨x,m,S,r,n,ok,o,λi H1 j h=> ?_⟩
 dsimp only at e
 split at e
 ·rename_i c
  rw[Qhq c]
  obtain⟨rfl,rfl⟩:=cv e
  exact q _ _ j h
 ·rename_i c
  rw[Quq c]
  exact⟨i,m,n,k,w,ok.to j h,e,λp H2 t l=>q _ _ (j.trans t) l⟩
def Ei(f g:bE):bE:=λi S=>(f i S).bind λ(d,h)=>match d with
 |.bl true=>g i h
 |.bl false=>some (.bl false,h)
 |_=>none
def Jl(f g:bE):bE:=λi S=>(f i S).bind λ(d,h)=>match d with
 |.bl true=>some (.bl true,h)
 |.bl false=>g i h
 |_=>none
def Lq{op}{f:bE}(h:PE X a (tD (md X) f)):PE X (.BoolOp op [a] pos) (tD (md X) f):=KF h
def OA{h:List Expr}{f g:bE}(s:PE X a (tD (md X) f))(u:PE X (.BoolOp .And (b::h) pos) (tD (md X) g)):PE X (.BoolOp .And (a::b::h) pos) (tD (md X) (Ei f g)):=kN (JE s u) λC H Q z=>by
 obtain⟨B,n,S,d,A,ok,e,q⟩:=z
 obtain⟨⟨x,o⟩,p,e⟩:=av e
 refine⟨B,n,S,x,o,ok,p,λj v H1 k i m=> ?_⟩
 dsimp only at e
 split at e
 ·cases m
  refine⟨_,rfl,?_⟩
  rw[Qhq rfl]
  exact⟨j,n,o,d,A,ok.to k i,e,λr w H2 t l y=>q _ _ _ (k.trans t) l y⟩
 ·cases m
  refine⟨_,rfl,?_⟩
  rw[Quq Qtq]
  obtain⟨rfl,rfl⟩:=cv e
  exact q _ _ _ k i (.bl _)
 ·cases e
def LG{h:List Expr}{f g:bE}(s:PE X a (tD (md X) f))(u:PE X (.BoolOp .Or (b::h) pos) (tD (md X) g)):PE X (.BoolOp .Or (a::b::h) pos) (tD (md X) (Jl f g)):=kN (LV s u) λC H Q z=>by
 obtain⟨B,n,S,d,A,ok,e,q⟩:=z
 obtain⟨⟨x,o⟩,p,e⟩:=av e
 refine⟨B,n,S,x,o,ok,p,λj v H1 k i m=> ?_⟩
 dsimp only at e
 split at e
 ·cases m
  refine⟨_,rfl,?_⟩
  rw[Qhq rfl]
  obtain⟨rfl,rfl⟩:=cv e
  exact q _ _ _ k i (.bl _)
 ·cases m
  refine⟨_,rfl,?_⟩
  rw[Quq Qtq]
  exact⟨j,n,o,d,A,ok.to k i,e,λr w H2 t l y=>q _ _ _ (k.trans t) l y⟩
 ·cases e
def xv(c:kA)(f g:bE):bE:=λd S=>(c d S).bind λ(k,h)=>if k=true then f d h else g d h
def OP{h:kA}{f g:bE}(v:PT X c (tB (md X) h))(x:PE X a (tD (md X) f))(y:PE X b (tD (md X) g)):PE X (.IfExp c a b pos) (tD (md X) (xv h f g)):=kN (Gg v x y) λB H Q z=>by
 obtain⟨A,n,S,d,s,ok,e,q⟩:=z
 obtain⟨⟨u,r⟩,t,e⟩:=av e
 refine⟨A,n,S,u,r,ok,t,λj H1 l k=> ?_⟩
 dsimp only at e
 split at e
 ·rename_i c
  rw[Qhq c]
  exact⟨j,n,r,d,s,ok.to l k,e,λm w H2 o i p=>q _ _ _ (l.trans o) i p⟩
 ·rename_i c
  rw[Quq c]
  exact⟨j,n,r,d,s,ok.to l k,e,λm w H2 o i p=>q _ _ _ (l.trans o) i p⟩
def jr:uj:=λS x y=>match x,y with
 |.tup xs,.int i=>jU xs i
 |.str z,.int i=>if z.length<=sizeLine then(jU z.cps.toList i).map λc=>.str ⟨#[c]⟩ else none
 | .ref k,.int i=>match S[k]? with
   |some (.lst xs)=>jU xs i
   |some (.frz xs)=>jU xs i
   |_=>none
 |_,_=>none
def II{α f:Type}{xs:List α}{ys:List f}{i:Int}{x:α}(h:jU xs i=some x)(l:xs.length=ys.length):∃j:Nat,xs[j]?=some x/\∀y,ys[j]?=some y->jU ys i=some y:=by
 unfold jU at h
 obtain⟨j,e,h⟩:=av h
 exact⟨j,h,λy d=>by unfold jU;rw[←l,e];exact d⟩
def bf.atI{M:Md}{ρ:List Addr}{H:Hp}{ds:List D}{vs:List V}{i:Int}{d:D}(h:bf M ρ H ds vs)(e:L2.jU ds i=some d):∃v,L2.jU vs i=some v/\Rel M ρ H d v:=by
 obtain⟨j,g,f⟩:=II e h.length
 obtain⟨v,k,l⟩:=h.get g
 exact⟨v,f v k,l⟩
def LC{M:Md}:lU M (Ov M.K) jr:=by
 intro r S H x y d u v Q i m p e q
 cases p <;>cases m <;>simp only[jr,reduceCtorEq] at e
 ·split at e
  ·obtain⟨c,f,g⟩:=oQm.mp e
   subst g
   exact .inr (.inr ⟨_,_,c,rfl,rfl,by assumption,f,q _ _ cq.refl i (.str _)⟩)
  ·cases e
 ·rename_i h n
  obtain⟨v,f,g⟩:=n.atI e
  exact .inr (.inl ⟨_,_,_,v,rfl,rfl,gW.of h,f,q _ _ cq.refl i g⟩)
 ·rename_i h
  split at e
  ·obtain⟨l,j,k⟩:=i.obj _ _ _ h (by assumption)
   obtain⟨v,f,g⟩:=k.atI e
   exact .inl ⟨_,_,_,v,rfl,rfl,iX.of j,f,q _ _ cq.refl i g⟩
  ·obtain⟨l,o,j,k⟩:=i.obj _ _ _ h (by assumption)
   obtain⟨v,f,g⟩:=k.atI e
   exact .inl ⟨_,_,_,v,rfl,rfl,.inl (.inr ⟨o,j⟩),f,q _ _ cq.refl i g⟩
  ·cases e
def cB{f g:bE}(i:PE X a (tD (md X) f))(d:PE X b (tD (md X) g))(h:CS b:=by intro _ _;rfl):PE X (.Subscript a b pos) (tD (md X) (aW jr f g)):=rH LC (Mj Jw i d h)
end
inductive Tag where
 |tu|fr|st (k:Nat)|fz (k:Nat)
def A6(M:Md)(ρ:List Addr)(H:Hp)(a:Addr)(vs:List V):Tag->Prop
 |.tu=>gW M.K H a vs
 |.fr=>H a=some (.lst vs)/\a∉ρ
 |.st k=>ρ[k]?=some a/\H a=some (.lst vs)
 |.fz k=>ρ[k]?=some a/\∃o,H a=some (.frz o (.lst vs))
abbrev dF:=cN->aF->Option ((List D×Tag)×aF)
def tQ(M:Md)(f:dF):TE:=λj H Q=>∃i e S g t h,Ok M i e S j H/\f e S=some ((g,t),h)∧
 ∀b a d c,cq i H b c->fR M b h c->A6 M b c a d t->bf M b c g d->Q (.ref a) c
def A6.sq{M:Md}{ρ:List Addr}{H:Hp}{a:Addr}{vs:List V}{t:Tag}(h:A6 M ρ H a vs t):iX M.K H a vs\/gW M.K H a vs:=by
 cases t with
 |tu=>exact .inr h
 |fr=>exact .inl (iX.of h.1)
 |st k=>exact .inl (iX.of h.2)
 |fz k=>obtain⟨_,o,h⟩:=h;exact .inl (.inl (.inr ⟨o,h⟩))
def Tag.isL:Tag->Bool
 |.tu=>false
 |_=>true
def Tag.isM:Tag->Bool
 |.fr=>true
 |.st _=>true
 |_=>false
def A6.sqL{M:Md}{ρ:List Addr}{H:Hp}{a:Addr}{vs:List V}{t:Tag}(h:A6 M ρ H a vs t)(c:t.isL=true):iX M.K H a vs:=by
 cases t with
 |tu=>cases c
 |fr=>exact iX.of h.1
 |st k=>exact iX.of h.2
 |fz k=>obtain⟨_,o,h⟩:=h;exact .inl (.inr ⟨o,h⟩)
def A6.sqM{M:Md}{ρ:List Addr}{H:Hp}{a:Addr}{vs:List V}{t:Tag}(h:A6 M ρ H a vs t)(c:t.isM=true):H a=some (.lst vs):=by
 cases t with
 |tu=>cases c
 |fr=>exact h.1
 |st k=>exact h.2
 |fz k=>cases c
def A6.sqT{M:Md}{ρ:List Addr}{H:Hp}{a:Addr}{vs:List V}{t:Tag}(h:A6 M ρ H a vs t)(c:t.isL=false):gW M.K H a vs:=by
 cases t with
 |tu=>exact h
 |fr=>cases c
 |st k=>cases c
 |fz k=>cases c
def Tag.stays(S:aF)(ds:List D):Tag->Prop
 |.st k=>S[k]?=some (.lst ds)
 |.fz k=>S[k]?=some (.frz ds)
 |_=>True
def gW.ext{K:PySem.W.Frag}{ρ b:List Addr}{H c:Hp}{a:Addr}{vs:List V}(e:cq ρ H b c)(h:gW K H a vs):gW K c a vs:=by
 rcases h with(h|⟨o,h⟩)|h
 ·exact .inl (.inl (e.keep _ _ h (.inr trivial)))
 ·exact .inl (.inr ⟨o,e.keep _ _ h (.inr trivial)⟩)
 ·exact .inr h
def A6.to{M:Md}{ρ d:List Addr}{S:aF}{H i:Hp}{a:Addr}{vs:List V}{ds:List D}{t:Tag}(h:A6 M ρ H a vs t)(r:bf M ρ H ds vs)(e:cq ρ H d i)(st:fR M d S i)(c:t.stays S ds):∃b,A6 M d i a b t/\bf M d i ds b:=by
 cases t with
 |tu=>exact⟨vs,gW.ext e h,r.ext e⟩
 |fr=>exact⟨vs,⟨e.keep _ _ h.1 (.inl h.2),λm=>(e.new a m).elim h.2 λz=>by have f:=h.1;rw[z] at f;cases f⟩,r.ext e⟩
 | st k=>
   have g:=dC e.pre h.1
   obtain⟨b,f,j⟩:=st.obj k a _ g c
   exact⟨b,⟨g,f⟩,j⟩
 | fz k=>
   have g:=dC e.pre h.1
   obtain⟨b,o,f,j⟩:=st.obj k a _ g c
   exact⟨b,⟨g,o,f⟩,j⟩
section
variable{X:Cx}{a b c e:Expr}{pos:Pos}
def gL(f:fW):dF:=λg S=>(f g S).bind λ(h,d)=>some ((h,.fr),d)
def ES{f:fW}(h:PE X e (tL (md X) f)):PE X e (tQ (md X) (gL f)):=kN h λz H Q r=>by
 obtain⟨s,j,S,w,t,A,ok,e,q⟩:=r
 obtain⟨⟨d,p⟩,i,e⟩:=av e
 obtain⟨k,rfl⟩:=cv e
 obtain⟨rfl,rfl⟩:=Prod.mk.inj k
 exact⟨s,j,S,d,p,ok,i,λo a y u x g v n m l=>q _ _ _ _ x g ⟨m,n⟩ l⟩
def qX(S:aF):D->Option (List D×Tag)
 |.tup d=>some (d,.tu)
 | .ref k=>match S[k]? with
   |some (.lst d)=>some (d,.st k)
   |some (.frz d)=>some (d,.fz k)
   |_=>none
 |_=>none
def a9(f:bE):dF:=λh S=>(f h S).bind λ(d,g)=>(qX g d).bind λp=>some (p,g)
def CG{M:Md}{ρ:List Addr}{S:aF}{H:Hp}{d:D}{v:V}{ds:List D}{t:Tag}(st:fR M ρ S H)(r:Rel M ρ H d v)(e:qX S d=some (ds,t)):∃a vs,v=.ref a/\A6 M ρ H a vs t/\bf M ρ H ds vs:=by
 cases r with
 |tup h i=>simp only[qX] at e;cases e;exact⟨_,_,rfl,gW.of h,i⟩
 | ref h=>
   simp only[qX] at e
   split at e
   · rename_i q
     cases e
     obtain⟨vs,f,g⟩:=st.obj _ _ _ h q
     exact⟨_,vs,rfl,⟨h,f⟩,g⟩
   · rename_i q
     cases e
     obtain⟨vs,o,f,g⟩:=st.obj _ _ _ h q
     exact⟨_,vs,rfl,⟨h,o,f⟩,g⟩
   · cases e
 |_=>simp only[qX,reduceCtorEq] at e
def kL{f:bE}(h:PE X e (tD (md X) f)):PE X e (tQ (md X) (a9 f)):=kN h λz H Q p=>by
 obtain⟨s,j,S,w,t,A,ok,e,q⟩:=p
 obtain⟨⟨d,o⟩,i,e⟩:=av e
 obtain⟨⟨l,B⟩,k,e⟩:=av e
 obtain⟨m,rfl⟩:=cv e
 obtain⟨rfl,rfl⟩:=Prod.mk.inj m
 refine⟨s,j,S,d,o,ok,i,λn v u x g r=> ?_⟩
 obtain⟨a,y,rfl,h1,h2⟩:=CG g r k
 exact q _ _ _ _ x g h1 h2
def oO{f:dF}{p:Pos}(o:Gl X "len")(v:X.mg "len"=none)(s:PE X a (tQ (md X) f))(k:starEach [a] X.env= [(false,eval a X.env)]:=by rfl):
  PE X (.Call (.Name "len" p) [a] [] pos) (tD (md X) λg S=>(f g S).bind λ(p,i)=>some (.int p.1.length,i)):=
 kN (jQ oZ o v PySem.boot_len (cP s fq k) (he:=k)) λA H Q w=>by
  obtain⟨y,g,S,d,B,ok,e,q⟩:=w
  obtain⟨⟨⟨n,t⟩,i⟩,m,e⟩:=av e
  obtain⟨rfl,rfl⟩:=cv e
  refine⟨y,g,S,n,t,i,ok,m,λu a j z x l h r=>⟨a,j,rfl,h.sq,?_⟩⟩
  have:=q _ (.int j.length) _ x l (by rw[←r.length];exact .int _)
  exact this
def hV(f:dF):bE:=λg S=>(f g S).bind λ(p,d)=>some (.int p.1.length,d)
def tupQ(f:dF):bE:=λg S=>(f g S).bind λ(p,d)=>some (.tup p.1,d)
def Cz{f:dF}{p:Pos}(o:Gl X "tuple")(v:X.mg "tuple"=none)(s:PE X a (tQ (md X) f))(j:starEach [a] X.env= [(false,eval a X.env)]:=by rfl)(ht:∀g S ds t k,f g S=some ((ds,t),k)->t.isL=true):
  PE X (.Call (.Name "tuple" p) [a] [] pos) (tD (md X) (tupQ f)):=
 kN (wA vT o v (by rfl) (cP s fq j) (he:=j)) λB H Q y=>by
  obtain⟨z,g,S,d,k,ok,e,q⟩:=y
  obtain⟨⟨⟨ds,t⟩,w⟩,i,e⟩:=av e
  obtain⟨rfl,rfl⟩:=cv e
  refine⟨z,g,S,ds,t,w,ok,i,λu a n A x m h r=>⟨a,n,rfl,.inl ⟨h.sqL (ht _ _ _ _ _ i),λl hl=> ?_⟩⟩⟩
  exact q _ _ _ (x.trans (cq.laid hl)) (m.lay hl) (.tup bN (r.ext (cq.laid hl)))
def M3{f:fW}:∀d S ds t g,gL f d S=some ((ds,t),g)->t.isL=true:=λd S ds t g e=>by
 obtain⟨⟨h,i⟩,j,e⟩:=av e
 cases e
 rfl
def gA(f:dF):dF:=λg S=>(f g S).bind λ(p,d)=>if p.2.isL=true then some (p,d) else none
def rO{f:dF}:∀d S ds t g,gA f d S=some ((ds,t),g)->t.isL=true:=λd S ds t g e=>by
 obtain⟨⟨⟨h,k⟩,i⟩,j,e⟩:=av e
 dsimp only at e
 split at e <;>cases e
 assumption
def Jq{f:dF}(h:PE X e (tQ (md X) f)):PE X e (tQ (md X) (gA f)):=kN h λo H Q l=>by
 obtain⟨m,j,S,p,t,r,ok,e,q⟩:=l
 obtain⟨⟨⟨d,n⟩,i⟩,k,e⟩:=av e
 dsimp only at e
 split at e
 ·obtain⟨g,rfl⟩:=cv e
  obtain⟨rfl,rfl⟩:=Prod.mk.inj g
  exact⟨m,j,S,d,n,i,ok,k,q⟩
 ·cases e
def F4{f:dF}{p:Pos}(s:Gl X "list")(w:X.mg "list"=none)(u:PE X a (tQ (md X) f))(k:starEach [a] X.env= [(false,eval a X.env)]:=by rfl):
  PE X (.Call (.Name "list" p) [a] [] pos) (tL (md X) λg S=>(f g S).bind λ(p,i)=>some (p.1,i)):=
 kN (wA y0 s w (by rfl) (cP u fq k) (he:=k)) λB H Q y=>by
  obtain⟨z,g,S,d,C,ok,e,q⟩:=y
  obtain⟨⟨⟨n,t⟩,i⟩,m,e⟩:=av e
  obtain⟨rfl,rfl⟩:=cv e
  refine⟨z,g,S,n,t,i,ok,m,λv a o A x j h r=>⟨a,o,rfl,h.sq,λl hl=> ?_⟩⟩
  exact q _ _ _ _ (x.trans (cq.laid hl)) (j.lay hl) (x.grow _ hl) (dv x j hl) bN (r.ext (cq.laid hl))
def A2(f:dF):fW:=λg S=>(f g S).bind λ(p,d)=>some (p.1,d)
def Ko:List D->Option (List Bool)
 | []=>some []
 |.bl b::r=>(Ko r).bind λd=>some (b::d)
 |_::_=>none
theorem Ft{M:Md}{ρ:List Addr}{H:Hp}:∀{ds:List D} {vs:List V} {bs:List Bool},bf M ρ H ds vs->Ko ds=some bs->vs=bs.map V.bl
 | [],_,_,h,e=>by cases h;cases e;rfl
 | d::ds,_,_,h,e=>by
   cases d with
   | bl b=>
     simp only[Ko] at e
     obtain⟨i,f,e⟩:=av e
     cases e
     cases h with
     | cons h g=>
       cases h
       rw[Ft g f]
       rfl
   |_=>cases e
def HC(f:dF):bE:=λh S=>(f h S).bind λ(p,g)=>if p.2.isL=true then(Ko p.1).bind λd=>some (.bl (d.all id),g) else none
def ME{f:dF}{p:Pos}(o:X.calm=true)(n:Gl X "all")(w:X.mg "all"=none)(u:PE X a (tQ (md X) f))(g:starEach [a] X.env= [(false,eval a X.env)]:=by rfl):
  PE X (.Call (.Name "all" p) [a] [] pos) (tD (md X) (HC f)):=
 kN (jQ (EJ o) n w (by rfl) (cP u fq g) (he:=g)) λF H Q z=>by
  obtain⟨A,m,S,d,G,ok,e,q⟩:=z
  obtain⟨⟨⟨k,t⟩,y⟩,j,e⟩:=av e
  dsimp only at e
  split at e
  ·rename_i c
   obtain⟨l,s,e⟩:=av e
   obtain⟨rfl,rfl⟩:=cv e
   refine⟨A,m,S,k,t,y,ok,j,λv a C B x i h r=>⟨a,l,rfl,?_,q _ _ _ x i (.bl _)⟩⟩
   rw[←Ft r s]
   exact h.sqL c
  ·cases e
def G0(S:aF)(T:String):D->Option Bool
 |.non=>some (T=="NoneType")
 |.bl _=>some (T=="bool" ||T=="int")
 |.int _=>some (T=="int")
 |.str _=>some (T=="str")
 |.tup _=>some (T=="tuple")
 | .ref k=>match S[k]? with
   |some (.lst _)=>some (T=="list")
   |some (.frz _)=>some (T=="list")
   |some (.dct _)=>some (T=="dict")
   |_=>none
 |.fn _=>none
def LI(K:PySem.W.Frag)(T:String):Prop:=(PySem.W.kitOne K (.type "NoneType") (.type T)=some (T=="NoneType"))/\(PySem.W.kitOne K (.type "bool") (.type T)=some (T=="bool" ||T=="int"))/\(PySem.W.kitOne K (.type "int") (.type T)=some (T=="int"))/\(PySem.W.kitOne K (.type "str") (.type T)=some (T=="str"))∧
 (PySem.W.kitOne K (.type "tuple") (.type T)=some (T=="tuple"))/\(PySem.W.kitOne K (.type "list") (.type T)=some (T=="list"))/\(PySem.W.kitOne K (.type "dict") (.type T)=some (T=="dict"))
def DF(T:String)(f:bE):bE:=λh S=>(f h S).bind λ(d,g)=>(G0 g T d).bind λk=>some (.bl k,g)
def OM{T:String}{l:Expr}{f:bE}{p:Pos}(J:LI X.K T)(F:Gl X "isinstance")(N:X.mg "isinstance"=none)(I:PE X a (tD (md X) f))(ht:PE X l (tC (.ty T)))(t:starEach [a,l] X.env= [(false,eval a X.env),(false,eval l X.env)]:=by rfl)(j:starEach [l] X.env= [(false,eval l X.env)]:=by rfl):
  PE X (.Call (.Name "isinstance" p) [a,l] [] pos) (tD (md X) (DF T f)):=
 kN (jQ E7 F N boot_isinstance (cP I (cP ht fq j) (by rw[t,j])) (he:=by rw[t,j]) (hpl:=by rw[j];rfl)) λσ H Q W=>by
  obtain⟨Y,C,S,d,S',ok,e,q⟩:=W
  obtain⟨⟨L,U⟩,y,e⟩:=av e
  obtain⟨k,i,e⟩:=av e
  obtain⟨rfl,rfl⟩:=cv e
  obtain⟨A,z,R,B,G,w,P⟩:=J
  refine⟨Y,C,S,L,U,ok,y,λM v Z x s r=> ?_⟩
  have g:=q _ _ _ x s (.bl _)
  cases r with
  |non=>cases i;exact⟨_,_,_,_,rfl,.non,A,g⟩
  |bl=>cases i;exact⟨_,_,_,_,rfl,.bl _,z,g⟩
  |int=>cases i;exact⟨_,_,_,_,rfl,.int _,R,g⟩
  |str=>cases i;exact⟨_,_,_,_,rfl,.str _,B,g⟩
  |tup h t=>cases i;exact⟨_,_,_,_,rfl,.tup h,G,g⟩
  |fn=>cases i
  | ref h=>
    simp only[G0] at i
    split at i
    · rename_i n;cases i;obtain⟨u,m,_⟩:=s.obj _ _ _ h n;exact⟨_,_,_,_,rfl,.lst m,w,g⟩
    · rename_i n;cases i;obtain⟨u,o,m,_⟩:=s.obj _ _ _ h n;exact⟨_,_,_,_,rfl,.frz m,w,g⟩
    · rename_i n;cases i;obtain⟨u,m,_⟩:=s.obj _ _ _ h n;exact⟨_,_,_,_,rfl,.dK m,P,g⟩
    · cases i
abbrev JV:=List D->Option D
def IT(M:Md)(r:List V->Hp->VK->Prop)(o:JV):Prop:=∀{f:List Addr} {S:aF} {H:Hp} {h:List D} {d:D} {g:List V} {Q:VK},fR M f S H->bf M f H h g->o h=some d->(∀w,Rel M f H d w->Q w H)->r g H Q
def A_(o:JV)(f:fW):bE:=λh S=>(f h S).bind λ(i,g)=>(o i).bind λd=>some (d,g)
def Nk{r:List V->Hp->VK->Prop}{o:JV}{f:fW}(l:IT (md X) r o)(h:PE X e (M8 r (ze (md X) f))):PE X e (tD (md X) (A_ o f)):=kN h λz H Q v=>by
 obtain⟨x,n,S,d,B,ok,e,q⟩:=v
 obtain⟨⟨k,u⟩,j,e⟩:=av e
 obtain⟨A,t,e⟩:=av e
 obtain⟨rfl,rfl⟩:=cv e
 exact⟨x,n,S,k,u,ok,j,λi y H1 s g m=>l g m t λw p=>q i w H1 s g p⟩
def maxD:JV
 | [.int i,.int j]=>some (.int (if j>i then j else i))
 |_=>none
def minD:JV
 | [.int i,.int j]=>some (.int (if j<i then j else i))
 |_=>none
def intOfD:JV
 | [.int i]=>some (.int i)
 | [.bl k]=>some (.int (if k then 1 else 0))
 |_=>none
def Nq{M:Md}:IT M (λxs H Q=>∃i j,xs= [.int i,.int j]/\Q (.int (if j>i then j else i)) H) maxD:=by
 intro l S H xs d h Q k r e q
 unfold maxD at e
 split at e <;>cases e
 cases r with|cons r f=>cases f with|cons g f=>cases f;cases r;cases g;exact⟨_,_,rfl,q _ (.int _)⟩
def Np{M:Md}:IT M (λxs H Q=>∃i j,xs= [.int i,.int j]/\Q (.int (if j<i then j else i)) H) minD:=by
 intro l S H xs d h Q k r e q
 unfold minD at e
 split at e <;>cases e
 cases r with|cons r f=>cases f with|cons g f=>cases f;cases r;cases g;exact⟨_,_,rfl,q _ (.int _)⟩
def Lv{M:Md}:IT M (λxs H Q=>(∃i,xs= [.int i]/\Q (.int i) H)\/∃k,xs= [.bl k]/\Q (.int (if k then 1 else 0)) H) intOfD:=by
 intro j S H xs d g Q h r e q
 unfold intOfD at e
 split at e <;>cases e
 ·cases r with|cons r f=>cases f;cases r;exact .inl ⟨_,rfl,q _ (.int _)⟩
 ·cases r with|cons r f=>cases f;cases r;exact .inr ⟨_,rfl,q _ (.int _)⟩
def iU:List D->Option (List V)
 | []=>some []
 |d::r=>(yu d).bind λv=>(iU r).bind λf=>some (v::f)
def uE{d:D}{v:V}(e:yu d=some v):hJ v=true:=by
 cases d <;>simp[yu] at e <;>subst e <;>rfl
theorem lS{M:Md}{ρ:List Addr}{H:Hp}:∀{ds:List D} {d vs:List V},bf M ρ H ds d->iU ds=some vs->d=vs/\vs.all hJ=true
 |_,_,_,.nil,e=>by cases e;exact⟨rfl,rfl⟩
 | _,_,_,.cons h hs,e=>by
   obtain⟨v,f,e⟩:=av e
   obtain⟨vs,j,e⟩:=av e
   cases e
   obtain⟨i,g⟩:=lS hs j
   rw[m_ h f,i]
   exact⟨rfl,by rw[List.all_cons,uE f,g];rfl⟩
def Hj(d:Bool)(f:bE)(g:dF):bE:=λh S=>(f h S).bind λ(x,j)=>(g h j).bind λ(p,k)=>(yu x).bind λv=>(iU p.1).bind λi=>some (.bl (if d then !GI v i else GI v i),k)
def qP{f:bE}{t:TE}(m:∀d H Q,tD (md X) f d H Q->t d H Q)(h:PT X e (FQ t)):PT X e (tB (md X) (aI f)):=M0 h λd H Q ⟨l,g,S,k,j,ok,e,q⟩=>
 m _ _ _ ⟨l,g,S,.bl k,j,ok,tN e,λn v o x i r=>by cases r;exact⟨k,rfl,q _ _ x i⟩⟩
def Js{h:Bool}{f:bE}{g:dF}:∀j H Q,tD (md X) (Hj h f g) j H Q->Gx (NS X.K h) (tD (md X) f) (tQ (md X) g) j H Q:=λj H Q M=>by
 obtain⟨N,m,S,d,R,ok,e,q⟩:=M
 obtain⟨⟨x,p⟩,r,e⟩:=av e
 obtain⟨⟨⟨s,t⟩,G⟩,B,e⟩:=av e
 obtain⟨v,o,e⟩:=av e
 obtain⟨P,A,e⟩:=av e
 obtain⟨rfl,rfl⟩:=cv e
 refine⟨N,m,S,x,p,ok,r,λi u H1 n k z=>⟨i,m,p,s,t,G,ok.to n k,B,λw a C H2 I l F L=> ?_⟩⟩
 cases m_ z o
 obtain⟨J,y⟩:=lS L A
 subst J
 exact⟨a,C,rfl,F.sq,uE o,y,q _ _ _ (n.trans I) l (.bl _)⟩
def NU{f:bE}{g:dF}(i:PE X a (tD (md X) f))(h:PE X b (tQ (md X) g))(d:behindInMarks .In b=false:=by rfl):PT X (.Compare a [.In] [b] pos) (tB (md X) (aI (Hj false f g))):=qP Js (kC DJ i h d)
def M_{f:bE}{g:dF}(i:PE X a (tD (md X) f))(h:PE X b (tQ (md X) g))(d:behindInMarks .NotIn b=false:=by rfl):PT X (.Compare a [.NotIn] [b] pos) (tB (md X) (aI (Hj true f g))):=qP Js (kC yG i h d)
end
inductive Out where
 |nx (Γ:cN) (S:aF)|bk (Γ:cN) (S:aF)|ct (Γ:cN) (S:aF)|rt (d:D) (S:aF)|rl (ds:List D) (S:aF)
abbrev cX:=cN->aF->Option Out
def yZ(M:Md)(ρ:List Addr)(H:Hp)(D:Ends):Out->Prop
 |.nx f g=>∀b e c,cq ρ H b c->Ok M b f g e c->D.nx e c
 |.bk f g=>∀b e c,cq ρ H b c->Ok M b f g e c->D.bk e c
 |.ct f g=>∀b e c,cq ρ H b c->Ok M b f g e c->D.ct e c
 |.rt d g=>∀b v c,cq ρ H b c->fR M b g c->Rel M b c d v->D.rt v c
 |.rl i g=>∀b a h c,cq ρ H b c->fR M b g c->H a=none->a∉b->c a=some (.lst h)->bf M b c i h->D.rt (.ref a) c
def yZ.to{M:Md}{ρ c:List Addr}{H H1:Hp}{D:Ends}{o:Out}(h:yZ M ρ H D o)(e:cq ρ H c H1):yZ M c H1 D o:=by
 cases o with
 |nx=>exact λb d f x ok=>h _ _ _ (e.trans x) ok
 |bk=>exact λb d f x ok=>h _ _ _ (e.trans x) ok
 |ct=>exact λb d f x ok=>h _ _ _ (e.trans x) ok
 |rt=>exact λb v f x g r=>h _ _ _ (e.trans x) g r
 |rl=>exact λb a l f x g i k j r=>h _ _ _ _ (e.trans x) g (e.grow _ i) k j r
def tS(M:Md)(g:cX):TS:=λD c H=>∃b a S o,Ok M b a S c H/\g a S=some o/\yZ M b H D o
section
variable{X:Cx}{a b c e:Expr}{pos:Pos}{st:Stmt}{rest body other:List Stmt}
def fV:cX:=λd S=>some (.nx d S)
def iK:uc X [] (tS (md X) fV):=Ll G8 λD d H ⟨g,f,S,o,ok,e,q⟩=>by cases e;exact q _ _ _ cq.refl ok
noncomputable def aH(f g:cX):cX:=λi S=>(f i S).bind λo=>match o with
 |.nx d h=>g d h
 |o=>some o
def bK{f g:cX}(l:PS X st (tS (md X) f))(n:uc X rest (tS (md X) g)):uc X (st::rest) (tS (md X) (aH f g)):=Ll (Gr l n) λD v H t=>by
 obtain⟨u,m,S,o,ok,e,q⟩:=t
 obtain⟨j,k,e⟩:=av e
 refine⟨u,m,S,j,ok,k,?_⟩
 cases j with
 |nx h r=>exact λd s H1 p i=>⟨d,h,r,o,i,e,q.to p⟩
 |bk=>cases e;exact q
 |ct=>cases e;exact q
 |rt=>cases e;exact q
 |rl=>cases e;exact q
def cG{f:cX}(d:PS X st (tS (md X) f)):uc X [st] (tS (md X) f):=IC d
def never:cX:=λ_ _=>none
def M5:PS X st (tS (md X) never):=Ef GM λD d H ⟨g,f,S,o,ok,e,q⟩=>by cases e
def m8(f:bE):cX:=λd S=>(f d S).bind λ(_,g)=>some (.nx d g)
def iD{f:bE}(h:PE X e (tD (md X) f))(j:swapsWith e none pos.line X.env=pure false:=by rfl):PS X (.Expr e pos) (tS (md X) (m8 f)):=Ef (Hw h j) λD s H m=>by
 obtain⟨n,i,S,o,ok,e,q⟩:=m
 obtain⟨⟨d,l⟩,g,e⟩:=av e
 cases e
 exact⟨n,i,S,d,l,ok,g,λk v p x st r=>q _ _ _ x (ok.to x st)⟩
noncomputable def cH(f:bE):cX:=λh S=>(f h S).bind λ(d,g)=>some (.rt d g)
def fU{f:bE}(h:PE X e (tD (md X) f)):PS X (.Return (some e) pos) (tS (md X) (cH f)):=Ef (FJ h) λD m H k=>by
 obtain⟨l,i,S,o,ok,e,q⟩:=k
 obtain⟨⟨d,g⟩,j,e⟩:=av e
 cases e
 exact⟨l,i,S,d,g,ok,j,q⟩
noncomputable def GT(f:fW):cX:=λg S=>(f g S).bind λ(h,d)=>some (.rl h d)
def JF{f:fW}(h:PE X e (tL (md X) f)):PS X (.Return (some e) pos) (tS (md X) (GT f)):=Ef (FJ h) λD m H k=>by
 obtain⟨l,i,S,o,ok,e,q⟩:=k
 obtain⟨⟨d,g⟩,j,e⟩:=av e
 cases e
 exact⟨l,i,S,d,g,ok,j,q⟩
def eS(c:kA)(f g:cX):cX:=λd S=>(c d S).bind λ(k,h)=>if k=true then f d h else g d h
def kS{h:kA}{f g:cX}(p:PT X c (tB (md X) h))(r:uc X body (tS (md X) f))(s:uc X other (tS (md X) g)):PS X (.If c body other pos) (tS (md X) (eS h f g)):=Ef (Mh p r s) λD v H t=>by
 obtain⟨u,l,S,o,ok,e,q⟩:=t
 obtain⟨⟨k,m⟩,n,e⟩:=av e
 refine⟨u,l,S,k,m,ok,n,λd H1 j i=> ?_⟩
 dsimp only at e
 split at e
 ·rename_i c
  rw[Qhq c]
  exact⟨d,l,m,o,ok.to j i,e,q.to j⟩
 ·rename_i c
  rw[Quq c]
  exact⟨d,l,m,o,ok.to j i,e,q.to j⟩
abbrev mI:=D->cN->aF->Option (cN×aF)
abbrev sH:=List D->cN->aF->Option (cN×aF)
def tG(M:Md)(g:mI):TG:=λv n H Q=>∃k l S d f m,Ok M k l S n H/\Rel M k H d v/\g d l S=some (f,m)/\∀i h j,cq k H i j->Ok M i f m h j->Q h j
def Nf(M:Md)(g:sH):HA:=λo n H Q=>∃j k S l d m,Ok M j k S n H/\bf M j H l o/\g l k S=some (d,m)/\∀f h i,cq j H f i->Ok M f d m h i->Q h i
def Oc{t t':TG}(h:PG X e t)(w:∀v f H Q,t' v f H Q->t v f H Q):PG X e t':=λd s f H v u Q I r q=>h d s f H v u Q I r (w _ _ _ _ q)
def Lo{g:List Expr}{t t':HA}(h:GR X g t)(w:∀v f H Q,t' v f H Q->t v f H Q):GR X g t':=λd s f H v u Q I r q=>h d s f H v u Q I r (w _ _ _ _ q)
def cn(i:Nat):mI:=λd f S=>some (f.set i (some d),S)
def FV{i:Nat}(h:PG X e (pV i)):PG X e (tG (md X) (cn i)):=Oc h λv j H Q g=>by
 obtain⟨m,k,S,d,f,l,ok,r,e,q⟩:=g
 cases e
 exact q _ _ _ cq.refl ⟨ok.en.set r,ok.st⟩
def eJ:sH:=λd f S=>match d with
 | []=>some (f,S)
 |_=>none
def aR(f:mI)(g:sH):sH:=λk j S=>match k with
 |d::r=>(f d j S).bind λ(h,i)=>g r h i
 | []=>none
def yR:GR X [] (Nf (md X) eJ):=Lo Hq λl g H Q f=>by
 obtain⟨k,h,S,i,d,j,ok,r,e,q⟩:=f
 cases r with
 |nil=>cases e;exact⟨rfl,q _ _ _ cq.refl ok⟩
 |cons=>cases e
def gC{h:List Expr}{f:mI}{g:sH}(s:PG X e (tG (md X) f))(w:GR X h (Nf (md X) g))(u:(assignEach (e::h) X.env).map (·.2)=assign e X.env::(assignEach h X.env).map (·.2):=by rfl):GR X (e::h) (Nf (md X) (aR f g)):=
 Lo (FC s w u) λG I H Q A=>by
  obtain⟨C,t,S,F,j,B,ok,r,e,q⟩:=A
  cases r with
  |nil=>cases e
  | cons r v=>
    obtain⟨⟨d,n⟩,o,e⟩:=av e
    refine⟨_,_,rfl,C,t,S,_,d,n,ok,r,o,λk z H1 m l=>⟨k,d,n,_,j,B,l,v.ext m,e,λp y H2 x i=>q _ _ _ (m.trans x) i⟩⟩
def lJ(g:sH):mI:=λd f S=>match d with
 |.tup h=>g h f S
 |_=>none
def nG(n:Nat)(g:sH):sH:=λd f S=>if d.length=n then g d f S else none
def Cj{f:List Expr}{k:Nat}{g:sH}{n:Nat}(o:X.calm=true)(h:GR X f (Nf (md X) g))(p:(assignEach f X.env).length=n:=by rfl)(j:(assignEach f X.env).findIdx? (·.1)=none:=by rfl):
  PG X (.Tuple f k pos) (tG (md X) (lJ (nG n g))):=Oc (JQ o h p j) λv u H Q ⟨t,m,S,d,i,s,ok,r,e,q⟩=>by
 cases r with
 | tup h l=>
   simp only[lJ,nG] at e
   split at e
   · rename_i c
     exact⟨_,_,rfl,gW.of h,by rw[←l.length];exact c,t,m,S,_,i,s,ok,l,e,q⟩
   · cases e
 |_=>cases e
def tf(f:bE)(g:mI):cX:=λi S=>(f i S).bind λ(d,j)=>(g d i j).bind λ(h,k)=>some (.nx h k)
def LU{f:bE}{g:mI}:∀D k H,tS (md X) (tf f g) D k H->EA (tD (md X) f) (tG (md X) g) D k H:=λD k H z=>by
 obtain⟨A,m,S,o,ok,e,q⟩:=z
 obtain⟨⟨d,p⟩,r,e⟩:=av e
 obtain⟨⟨j,w⟩,u,e⟩:=av e
 cases e
 exact⟨A,m,S,d,p,ok,r,λi v H1 n l t=>⟨i,m,p,d,j,w,ok.to n l,t,u,λs y H2 x h=>q _ _ _ (n.trans x) h⟩⟩
def Oh{d:Expr}{f:bE}{g:mI}(he:PE X e (tD (md X) f))(i:PG X d (tG (md X) g))(j:swapsWithSole [d] e pos.line X.env=pure false:=by rfl)(k:swappedStores [d] e X.env=pure none:=by rfl)
  (h:(assignEach [d] X.env).map (·.2)= [assign d X.env]:=by rfl):PS X (.Assign [d] e pos) (tS (md X) (tf f g)):=Ef (Kl he i j k h) LU
noncomputable def bg(i:Nat)(f:bE):cX:=λg S=>(f g S).bind λ(d,h)=>some (.nx (g.set i (some d)) h)
def Mx{i:Nat}{f:bE}(h:PS X st (EA (tD (md X) f) (pV i))):PS X st (tS (md X) (bg i f)):=Ef h λD t H r=>by
 obtain⟨s,m,S,o,ok,e,q⟩:=r
 obtain⟨⟨d,p⟩,k,e⟩:=av e
 cases e
 exact⟨s,m,S,d,p,ok,k,λn v H1 j g l=>q _ _ _ j ⟨(ok.en.ext j).set l,g⟩⟩
abbrev vw:=cN->aF->Option ((List D×(aF->Prop))×aF)
def Walks(M:Md)(J:It)(ρ:List Addr)(H:Hp)(ds:List D)(W:aF->Prop):Prop:=∀(i:Nat) (f:List Addr) (j:aF) (h:Hp),cq ρ H f h->fR M f j h->W j→
 (∀d,ds[i]?=some d->J.go i h/\∀x g,J.yld i h x g->cq f h f g/\fR M f j g/\Rel M f g d x)/\(i=ds.length->J.stop i h)
def tI(M:Md)(f:vw):TI:=λl H R=>∃k h S i W j,Ok M k h S l H/\f h S=some ((i,W),j)/\∀d J g,cq k H d g->fR M d j g->Walks M J d g i W->R J g
def LJ{g:Expr}{t t':TI}(h:PI X g e t)(w:∀f H R,t' f H R->t f H R):PI X g e t':=λd s f H R I q=>h d s f H R I (w _ _ _ q)
def Kq{y l:Expr}{r:TE}(hl:PE X l r):PI X y l (λm H R=>r m H λx H1=>∃a,x=.ref a/\((∃xs,iX X.K H1 a xs)/\R (OO X.K a) H1\/(∃xs,gW X.K H1 a xs)/\R (Ot X.K a) H1)):=by
 intro i s m H R I h
 refine df (hl i s m H _ I h) λv d t=> ?_
 obtain⟨x,H1,f,u,k⟩:=t
 obtain⟨a,e,k⟩:=k
 subst e
 cases u
 rcases k with⟨⟨xs,j⟩,q⟩|⟨⟨xs,j⟩,q⟩
 ·obtain⟨g,z,p,w⟩:=f.list j
  refine wpAny_pyIter_list p.isList ?_
  refine⟨d.heap.objs.size,[d.heap.objs.size],_,_,H1,rfl,f.kept (t':=d.toks) λb o e=>Qcq _ e,DZ a _,⟨_,Qrq _ rfl,rfl,rfl⟩,λb n=> ?_,q⟩
  have e:b=d.heap.objs.size:=by simpa using n
  subst e
  exact f.fpOk (Qmq _) (f.hok.fresh (Qmq _))
 ·obtain⟨g,z,p,w⟩:=f.tuple j
  refine wpAny_pyIter_tuple (show d.heap.IsTuple a g.toArray from p) ?_
  refine⟨d.heap.objs.size,[d.heap.objs.size],_,_,H1,rfl,f.kept (t':=d.toks) λb o e=>Qcq _ e,B0 a _,⟨_,Qrq _ rfl,rfl,rfl⟩,λb n=> ?_,q⟩
  have e:b=d.heap.objs.size:=by simpa using n
  subst e
  exact f.fpOk (Qmq _) (f.hok.fresh (Qmq _))
def j2(f:dF):vw:=λg S=>(f g S).bind λ(p,d)=>some ((p.1,λh=>p.2.stays h p.1),d)
def CK{K l:Expr}{f:dF}(hl:PE X l (tQ (md X) f)):PI X K l (tI (md X) (j2 f)):=LJ (Kq hl) λY H R N=>by
 obtain⟨P,G,S,U,W,Z,ok,e,q⟩:=N
 obtain⟨⟨⟨A,t⟩,M⟩,F,e⟩:=av e
 obtain⟨I,rfl⟩:=cv e
 obtain⟨rfl,rfl⟩:=Prod.mk.inj I
 refine⟨P,G,S,A,t,M,ok,F,λL a C Q x st h r=>⟨a,rfl,?_⟩⟩
 cases c:t.isL with
 | true=>
   refine .inl ⟨⟨C,h.sqL c⟩,q _ _ _ x st λi p J H2 z j w=> ?_⟩
   obtain⟨g,y,o⟩:=h.to r z j w
   have k:=y.sqL c
   refine⟨λd u=> ?_,λs=>⟨g,k,by rw[s,o.length];exact Qmq _⟩⟩
   obtain⟨v,n,B⟩:=o.get u
   refine⟨⟨g,v,k,n⟩,λx H3 m=> ?_⟩
   obtain⟨rfl,m⟩:=m
   have:=m g k
   rw[n] at this
   cases this
   exact⟨cq.refl,j,B⟩
 | false=>
   refine .inr ⟨⟨C,h.sqT c⟩,q _ _ _ x st λi p J H2 z j w=> ?_⟩
   obtain⟨g,y,o⟩:=h.to r z j w
   have k:=y.sqT c
   refine⟨λd u=> ?_,λs=>⟨g,k,by rw[s,o.length];exact Qmq _⟩⟩
   obtain⟨v,n,B⟩:=o.get u
   refine⟨⟨g,v,k,n⟩,λx H3 m=> ?_⟩
   obtain⟨rfl,m⟩:=m
   have:=m g k
   rw[n] at this
   cases this
   exact⟨cq.refl,j,B⟩
def ia(lo hi:Int):List D:=(List.range (hi-lo).toNat).map λ(i:Nat)=>D.int (lo+(i:Int))
def vp(f:bE):vw:=λh S=>(f h S).bind λ(d,g)=>match d with
 |.int j=>if -(2^62)<=j/\j<2^62 then some ((ia 0 j,λ_=>True),g) else none
 |_=>none
def DU{M:Md}{ρ:List Addr}{H:Hp}{lo hi:Int}:Walks M (MZ lo (hi-lo).toNat) ρ H (ia lo hi) (λ_=>True):=λi j n H2 o f w=>by
 unfold ia
 refine⟨λd g=> ?_,λhi=>by rw[lQm,QVq] at hi;exact Nat.le_of_eq hi.symm⟩
 rw[gQm] at g
 obtain⟨k,m,rfl⟩:=oQm.mp g
 have hl:=(gQs.mp m)
 obtain⟨hl,h⟩:=hl
 rw[List.getElem_range] at h
 subst h
 rw[QVq] at hl
 refine⟨hl,λx H3 l=> ?_⟩
 obtain⟨rfl,rfl⟩:=l
 exact⟨cq.refl,f,.int _⟩
def yb{t a:Expr}{f:bE}{p:Pos}(n:Gl X "range")(v:X.mg "range"=none)(s:PE X a (tD (md X) f))(h:starEach [a] X.env= [(false,eval a X.env)]:=by rfl):PI X t (.Call (.Name "range" p) [a] [] pos) (tI (md X) (vp f)):=
 LJ (D2 n v (aB s aZ h) h) λB H R y=>by
  obtain⟨ρ,m,S,z,W,C,ok,e,q⟩:=y
  obtain⟨⟨d,w⟩,l,e⟩:=av e
  dsimp only at e
  split at e
  ·rename_i j
   split at e
   ·rename_i i
    obtain⟨o,rfl⟩:=cv e
    obtain⟨rfl,rfl⟩:=Prod.mk.inj o
    refine⟨ρ,m,S,[.int j],w,ok,by unfold au ax;rw[l];rfl,λg A k x st r=> ?_⟩
    cases r with
    | cons r u=>
      cases u
      cases r
      refine⟨j,rfl,i.1,i.2,q _ _ _ x st ?_⟩
      have:=DU (M:=md X) (ρ:=g) (H:=k) (lo:=0) (hi:=j)
      rw[Int.sub_zero] at this
      exact this
   ·cases e
  ·cases e
open Classical in
def forL(g:mI)(b:cX)(W:aF->Prop):List D->cN->aF->Option Out
 | [],Γ,S=>if W S then some (.nx Γ S) else none
 |d ::ds,Γ,S=>if W S then(g d Γ S).bind λ(i,j)=>(b i j).bind λo=>match o with
    |.nx f h=>forL g b W ds f h
    |.ct f h=>forL g b W ds f h
    |.bk f h=>some (.nx f h)
    |.rt x h=>some (.rt x h)
    |.rl x h=>some (.rl x h)
  else none
def kH(i:vw)(g:mI)(b:cX):cX:=λd S=>(i d S).bind λ(p,f)=>forL g b p.2 p.1 d f
def vq{Y j:Expr}{i:vw}{g:mI}{f:cX}(hp:PassesOwn (model X.prog X.w) X.A X.env X.xe)(hc:X.calm=true)(hi:PI X Y j (tI (md X) i))(hg:PG X Y (tG (md X) g))(hb:uc X body (tS (md X) f))
  (hs:∀x,foldedSetIterable j X.env x=pure x:=by intro _;rfl):PS X (.For Y j body [] pos) (tS (md X) (kH i g f)):=Ef (JS hp hc hi hg hb hs) λD σ H ⟨ρ,Γ,S,o,ok,e,q⟩=>by
 obtain⟨⟨⟨h,W⟩,S1⟩,e1,e⟩:=av e
 refine⟨ρ,Γ,S,h,W,S1,ok,e1,λu J H1 x1 N wk=> ?_⟩
 have L:=q.to x1
 have P:=ok.to x1 N
 refine⟨λi m l y=>m=h.length-i/\i<=h.length/\∃d s B,cq u H1 d y/\Ok (md X) d s B l y/\forL g f W (h.drop i) s B=some o,⟨h.length,by simp,Nat.zero_le _,u,Γ,S1,cq.refl,P,e⟩,?_⟩
 rintro i m a1 H2 ⟨rfl,hi,d,s,B,x2,ok2,e2⟩
 by_cases v:i<h.length
 ·have hd:h[i]?=some h[i]:=gQe v
  rw[QWq v] at e2
  unfold forL at e2
  split at e2
  ·rename_i w
   obtain⟨w1,w2⟩:=wk i d B H2 x2 ok2.st w
   obtain⟨go,Z⟩:=w1 _ hd
   refine .inr ⟨go,λl y=>∃t p M,cq u H1 t y/\Ok (md X) t p M l y/\forL g f W (h.drop (i+1)) p M=some o,λl y ⟨t,p,M,h1,h2,h3⟩=>⟨h.length-(i+1),by omega,rfl,v,t,p,M,h1,h2,h3⟩,λx H3 hy=> ?_⟩
   obtain⟨x3,U,r3⟩:=Z x H3 hy
   obtain⟨⟨K,S4⟩,e4,e5⟩:=av e2
   refine⟨d,s,B,_,K,S4,ok2.to x3 U,r3,e4,λQ a0 H4 x4 R=> ?_⟩
   obtain⟨o5,e6,C⟩:=av e5
   have F:=(x2.trans x3).trans x4
   refine⟨Q,K,S4,o5,R,e6,?_⟩
   cases o5 with
   |nx r z=>exact λn I H6 G k=>⟨n,r,z,F.trans G,k,C⟩
   |ct r z=>exact λn I H6 G k=>⟨n,r,z,F.trans G,k,C⟩
   |bk r z=>cases C;exact λn I H6 G k=>L _ _ _ (F.trans G) k
   |rt d6 z=>cases C;exact L.to F
   |rl d6 z=>cases C;exact L.to F
  ·cases e2
 ·have e3:i=h.length:=by omega
  subst e3
  rw[List.drop_length] at e2
  unfold forL at e2
  split at e2
  ·rename_i w
   cases e2
   obtain⟨w1,w2⟩:=wk h.length d B H2 x2 ok2.st w
   exact .inl ⟨w2 rfl,L _ _ _ x2 ok2⟩
  ·cases e2
end
section
variable{M:Md}{ρ:List Addr}{H:Hp}{b:Addr}{us ws:List V}
mutual
theorem Rel.off(a:H b=some (.lst us)):∀{d:D} {v:V},Rel M ρ H d v->Rel M ρ (upd H b (.lst ws)) d v
 |_,_,.non=>.non
 |_,_,.bl x=>.bl x
 |_,_,.int i=>.int i
 |_,_,.str x=>.str x
 |_,_,.tup h hs=>.tup (by rw[bo (Fl h a (by intro z;cases z))];exact h) (bf.off a hs)
 |_,_,.ref h=>.ref h
 |_,_,.fn h=>.fn h
theorem bf.off(a:H b=some (.lst us)):∀{ds:List D} {vs:List V},bf M ρ H ds vs->bf M ρ (upd H b (.lst ws)) ds vs
 |_,_,.nil=>.nil
 |_,_,.cons h hs=>.cons (Rel.off a h) (bf.off a hs)
end
theorem fR.off{S:aF}(st:fR M ρ S H)(g:H b=some (.lst us))(n:b∉ρ):fR M ρ S (upd H b (.lst ws)):=⟨st.len,st.nd,λk a o h m=>by
 have q:=st.obj k a o h m
 have f:a≠b:=λz=>n (z▸mQg h)
 cases o with
 |lst i=>obtain⟨e,c,d⟩:=q;exact⟨e,by rw[bo f];exact c,d.off g⟩
 |frz i=>obtain⟨e,o,c,d⟩:=q;exact⟨e,o,by rw[bo f];exact c,d.off g⟩
 |dct j=>obtain⟨l,c,d⟩:=q;exact⟨l,by rw[bo f];exact c,d.imp λ_ _ r=>r.off g⟩⟩
def En.off{c:cN}{a:L2.St}(h:En M ρ H c a)(g:H b=some (.lst us)):En M ρ (upd H b (.lst ws)) c a:=⟨h.len,λi d q=>by obtain⟨v,f,e⟩:=h.get i d q;exact⟨v,f,e.off g⟩⟩
def cq.off{d:List Addr}{f:Hp}(e:cq d f ρ H)(g:f b=none)(u:HO):cq d f ρ (upd H b u):=⟨e.pre,e.new,λa o h c=>by rw[bo (fj h g)];exact e.keep a o h c,λa h=>by
 by_cases z:a=b
 ·subst z;exact g
 ·rw[bo z] at h;exact e.grow a h⟩
end
def p6(js:List (Option Nat))(a:cN):cN:=js.map λo=>o.bind λj=>a.getD j none
def En.sig{M:Md}{ρ:List Addr}{H:Hp}{a:cN}{c:L2.St}(js:List (Option Nat))(h:En M ρ H a c):En M ρ H (p6 js a) (ku js c) where
 len:=by unfold p6 ku;rw[lQm,lQm]
 get:=λi d q=>by
  unfold p6 at q
  unfold ku
  rw[gQm] at q⊢
  cases e:js[i]? with
  |none=>rw[e] at q;cases q
  | some o=>
    rw[e] at q
    cases o with
    |none=>cases q
    | some j=>
      have b:a.getD j none=some d:=QdQ q
      have k:a[j]?=some (some d):=by
        rw[Qlq] at b
        cases z:a[j]? with
        |none=>rw[z] at b;cases b
        |some y=>rw[z] at b;exact congrArg some b
      obtain⟨v,f,g⟩:=h.get j d k
      refine⟨v,?_,g⟩
      show some (c.getD j none)=some (some v)
      rw[Qlq,f]
      rfl
open Classical in
def mM(g:mI)(t:kA)(f:bE)(W:aF->Prop):List D->cN->aF->List D->Option (List D×aF)
 | [],Γ,S,acc=>if W S then some (acc,S) else none
 |d ::ds,Γ,S,acc=>if W S then(g d Γ S).bind λ(a,e)=>(t a e).bind λ(k,b)=>
    if k=true then(f a b).bind λ(y,c)=>if acc.length<sizeLine then mM g t f W ds a c (acc++ [y]) else none
    else mM g t f W ds a b acc
  else none
def cp(js:List (Option Nat))(i:vw)(g:mI)(t:kA)(f:bE):fW:=λa S=>(i a S).bind λ(p,b)=>mM g t f p.2 p.1 (p6 js a) b []
section
variable{M:Md}
def FH{js:List (Option Nat)}{i:vw}{g:mI}{t:kA}{f:bE}:∀Z H Q,tL M (cp js i g t f) Z H Q->F1 js (tI M i) (tG M g) (tB M t) (tD M f) Z H Q:=λZ H Q qq=>by
 obtain⟨ρ,Γ,S,rs,S',ok,e,q⟩:=qq
 obtain⟨⟨⟨j,W⟩,S1⟩,e1,e⟩:=av e
 refine⟨ρ,Γ,S,j,W,S1,ok,e1,λl J H1 x1 R wk D K=> ?_⟩
 have n1:D∉l:=dv x1 R K
 have a1:Ok M l (p6 js Γ) S1 (ku js Z) (upd H1 D (.lst [])):=⟨((ok.en.ext x1).ext (cq.laid K)).sig js,R.lay K⟩
 refine⟨λi m o d=>m=j.length-i/\i<=j.length/\∃b B L a h,cq l H1 b d/\Ok M b B L o d/\D∉b/\d D=some (.lst h)/\bf M b d a h/\mM g t f W (j.drop i) B L a=some (rs,S'),
  ⟨j.length,by simp,Nat.zero_le _,l,_,S1,[],[],cq.laid K,a1,n1,bN,.nil,e⟩,?_⟩
 rintro i m b0 H2 ⟨rfl,hi,b,B,L,a,h,x2,ok2,n2,hD2,racc,e2⟩
 by_cases I:i<j.length
 ·have hd:j[i]?=some j[i]:=gQe I
  rw[QWq I] at e2
  unfold mM at e2
  split at e2
  ·rename_i w
   obtain⟨w1,w2⟩:=wk i b L H2 x2 ok2.st w
   obtain⟨go,a6⟩:=w1 _ hd
   refine .inr ⟨go,λo d=>∃c p A a h,cq l H1 c d/\Ok M c p A o d/\D∉c/\d D=some (.lst h)/\bf M c d a h/\mM g t f W (j.drop (i+1)) p A a=some (rs,S'),
    λo d ⟨c,p,A,a,h,h1,h2,h3,h4,h5,h6⟩=>⟨j.length-(i+1),by omega,rfl,I,c,p,A,a,h,h1,h2,h3,h4,h5,h6⟩,λx H3 hy=> ?_⟩
   obtain⟨x3,a5,r3⟩:=a6 x H3 hy
   obtain⟨⟨n,S4⟩,e4,e5⟩:=av e2
   refine⟨b,B,L,_,n,S4,ok2.to x3 a5,r3,e4,λa2 a7 H4 x4 u=> ?_⟩
   obtain⟨⟨k,S5⟩,e6,U⟩:=av e5
   refine⟨a2,n,S4,k,S5,u,e6,λP H5 X N=> ?_⟩
   have r:=(x3.trans x4).trans X
   have C:∀{c d},cq b H2 c d->d D=some (.lst h)/\D∉c:=λ{c d} x=>⟨x.keep _ _ hD2 (.inl n2),λm=>(x.new _ m).elim n2 λz=>by rw[z] at hD2;cases hD2⟩
   dsimp only at U⊢
   split at U
   ·rename_i ck
    rw[Qhq ck]
    obtain⟨⟨y,S6⟩,e8,Y⟩:=av U
    refine⟨P,n,S5,y,S6,u.to X N,e8,λa0 v H6 x6 a4 r6=> ?_⟩
    have G:=r.trans x6
    obtain⟨s,n6⟩:=C G
    have F:=racc.ext G
    dsimp only at Y
    split at Y
    ·rename_i cl
     refine⟨h,s,by rw[←racc.length];exact cl,a0,n,S6,a++ [y],h++ [v],(x2.trans G).off K _,⟨((u.en.ext X).ext x6).off s,a4.off s n6⟩,n6,bN,(F.append (.cons r6 .nil)).off s,Y⟩
    ·cases Y
   ·rename_i ck
    rw[Quq ck]
    obtain⟨a3,n5⟩:=C r
    exact⟨P,n,S5,a,h,x2.trans r,u.to X N,n5,a3,racc.ext r,U⟩
  ·cases e2
 ·have e3:i=j.length:=by omega
  subst e3
  rw[List.drop_length] at e2
  unfold mM at e2
  split at e2
  ·rename_i w
   obtain⟨rfl,rfl⟩:=cv e2
   obtain⟨w1,w2⟩:=wk j.length b L H2 x2 ok2.st w
   exact .inl ⟨w2 rfl,q b D h H2 (x1.trans x2) ok2.st (x1.grow _ K) n2 hD2 racc⟩
  ·cases e2
end
section
variable{X:Cx}{a b c e:Expr}{pos:Pos}{st:Stmt}{rest body other:List Stmt}
def de:kA:=λ_ S=>some (true,S)
def MQ{d:List Expr}{t t':TT}(h:nB X d t)(w:∀g H Q,t' g H Q->t g H Q):nB X d t':=λf s g H Q I q=>h f s g H Q I (w _ _ _ q)
def Mo:nB X [] (tB (md X) de):=MQ K4 λd H Q ⟨h,f,S,k,g,ok,e,q⟩=>by cases e;exact q _ _ cq.refl ok.st
def C3{f:kA}(d:PT X c (tB (md X) f)):nB X [c] (tB (md X) f):=JC d
def xC{N:List Str}{js:List (Option Nat)}{d:Scope}{l:List (Str×Addr)}{m h k:Expr}{j:List Expr}{i:vw}{g:mI}{t:kA}{f:bE}
  (S:aS X N js d l) (o:X.calm=true) (hi:PI X m h (tI (md X) i))
  (n:∀C s H fp,PG (aP X N d l C s H fp) m (tG (md X) g)) (ht:∀C s H fp,nB (aP X N d l C s H fp) j (tB (md X) t)) (he:∀C s H fp,PE (aP X N d l C s H fp) k (tD (md X) f))
  (p:∀x,foldedSetIterable h X.env x=pure x:=by intro _;rfl):PE X (.ListComp k [⟨m,h,j,0⟩] d pos) (tL (md X) (cp js i g t f)):=kN (Im S o hi n ht he p) FH
def Br{N:List Str}{js:List (Option Nat)}{h:Scope}{w:List (Str×Addr)}{v j p k:Expr}{m:List Expr}{i:vw}{g:mI}{t:kA}{f:bE}{n:Nat}{l:Pos}
  (S:aS X N js h w) (R:X.calm=true) (hi:PI X v j (tI (md X) i))
  (Q:∀C s H fp,PG (aP X N h w C s H fp) v (tG (md X) g)) (ht:∀C s H fp,nB (aP X N h w C s H fp) m (tB (md X) t)) (he:∀C s H fp,PE (aP X N h w C s H fp) p (tD (md X) f)) (B:PG X k (pV n))
  (U:∀x,foldedSetIterable j X.env x=pure x:=by intro _;rfl) (z:swapsWithSole [k] (.ListComp p [⟨v,j,m,0⟩] h pos) l.line X.env=pure true:=by rfl)
  (M:(assignEach [k] X.env).map (·.2)= [assign k X.env]:=by rfl):PS X (.Assign [k] (.ListComp p [⟨v,j,m,0⟩] h pos) l) (tS (md X) (bg n (bT (cp js i g t f)))):=
 Ef (Ir S R hi Q ht he B U z M) λD σ H qq=>by
  obtain⟨J,P,S,o,ok,e,q⟩:=qq
  obtain⟨⟨d,S1⟩,K,e⟩:=av e
  cases e
  obtain⟨⟨G,S2⟩,W,e3⟩:=av K
  obtain⟨rfl,rfl⟩:=cv e3
  refine FH σ H _ ⟨J,P,S,G,S2,ok,W,λr a L F x st fr nr Y Z=> ?_⟩
  have y:=Z.pre (List.prefix_append r [a])
  have A:=st.box (o:=.lst G) nr ⟨L,Y,y⟩
  have I:cq J H (r++ [a]) F:=⟨x.pre.trans (List.prefix_append _ _),λb u=>by
   rcases mQa.mp u with u|u
   ·exact x.new b u
   ·rw[Qfq] at u;subst u;exact .inr fr,x.keep,x.grow⟩
  refine q (r++ [a]) _ F I ⟨((ok.en.ext I).set (.ref ?_)),A⟩
  rw[←st.len,QQq (Qmq _)]
  simp
end
inductive Res where
 |d (x:D)|l (ds:List D)
abbrev dG:=List D->aF->Option (Res×aF)
def Ke(M:Md)(ρ:List Addr)(H b:Hp)(v:V):Res->Prop
 |.d x=>Rel M ρ b x v
 |.l e=>∃a c,v=.ref a/\H a=none/\a∉ρ/\b a=some (.lst c)/\bf M ρ b e c
def eI(M:Md)(n:Nat)(F:dG):Sp:=λf H Q _=>∃d S c r e,c.length=n/\bf M d H c f/\fR M d S H/\F c S=some (r,e)/\∀a v b,cq d H a b->fR M a e b->Ke M a H b v r->Q v b
mutual
def cb(m:Nat):D->Bool
 |.ref k=>decide (k<m)
 |.tup a=>bS m a
 |_=>true
def bS(m:Nat):List D->Bool
 | []=>true
 |d::ds=>cb m d&&bS m ds
end
def HE(m:Nat):O->Bool
 |.lst a=>bS m a
 |.frz a=>bS m a
 |.dct b=>bS m (b.map (·.2))
section
variable{M:Md}{ρ ρ':List Addr}{H:Hp}
mutual
theorem Rel.cut(e:ρ <+: ρ'):∀{d:D} {v:V},Rel M ρ' H d v->cb ρ.length d=true->Rel M ρ H d v
 |_,_,.non,_=>.non
 |_,_,.bl x,_=>.bl x
 |_,_,.int i,_=>.int i
 |_,_,.str x,_=>.str x
 |_,_,.tup h hs,b=>.tup h (bf.cut e hs (by simpa [cb] using b))
 | _,_,.ref (k:=k) (a:=a) h,b=>.ref (by
   obtain⟨t,rfl⟩:=e
   have c:k<ρ.length:=by simpa [cb] using b
   rwa [QHq c] at h)
 |_,_,.fn h,_=>.fn h
theorem bf.cut(e:ρ <+: ρ'):∀{ds:List D} {vs:List V},bf M ρ' H ds vs->bS ρ.length ds=true->bf M ρ H ds vs
 |_,_,.nil,_=>.nil
 | _,_,.cons h hs,b=>by
   have a:=b
   simp only[bS,QDq,QCq] at a
   exact .cons (Rel.cut e h a.1) (bf.cut e hs a.2)
end
theorem cx.cut(e:ρ <+: ρ'):∀{l:List (Key×D)} {kv:List (Key×V)},cx M ρ' H l kv->bS ρ.length (l.map (·.2))=true->cx M ρ H l kv
 | [],_,h,_=>h
 | (_,_)::_,_,⟨v,t,q,h,hs⟩,b=>by
   have a:=b
   simp only[bS,QDq,QCq] at a
   exact⟨v,t,q,h.cut e a.1,cx.cut e hs a.2⟩
theorem p0.cut{a:Addr}{o:O}(e:ρ <+: ρ')(h:p0 M ρ' H a o)(b:HE ρ.length o=true):p0 M ρ H a o:=by
 cases o with
 |lst i=>obtain⟨f,d,c⟩:=h;exact⟨f,d,c.cut e b⟩
 |frz i=>obtain⟨f,o,d,c⟩:=h;exact⟨f,o,d,c.cut e b⟩
 |dct j=>obtain⟨g,d,c⟩:=h;exact⟨g,d,c.cut e b⟩
mutual
theorem Rel.low:∀{d:D} {v:V},Rel M ρ H d v->cb ρ.length d=true
 |_,_,.non=>rfl
 |_,_,.bl x=>rfl
 |_,_,.int i=>rfl
 |_,_,.str x=>rfl
 |_,_,.tup h hs=>by simp only[cb];exact bf.low hs
 |_,_,.ref h=>by simp only[cb];exact Qeq (gQs.mp h).1
 |_,_,.fn h=>rfl
theorem bf.low:∀{ds:List D} {vs:List V},bf M ρ H ds vs->bS ρ.length ds=true
 |_,_,.nil=>rfl
 |_,_,.cons h hs=>by simp only[bS];rw[Rel.low h,bf.low hs];rfl
end
theorem cx.low:∀{l:List (Key×D)} {kv:List (Key×V)},cx M ρ H l kv->bS ρ.length (l.map (·.2))=true
 | [],_,_=>rfl
 |(_,_)::_,_,⟨v,t,q,h,hs⟩=>by simp only[QDq,bS];rw[h.low,cx.low hs];rfl
theorem p0.low{a:Addr}{o:O}(h:p0 M ρ H a o):HE ρ.length o=true:=by
 cases o with
 |lst d=>obtain⟨f,c,b⟩:=h;exact b.low
 |frz d=>obtain⟨f,o,c,b⟩:=h;exact b.low
 |dct e=>obtain⟨g,c,b⟩:=h;exact b.low
end
def pX(S a:aF):Prop:=S.length<=a.length/\∀k o,k<S.length->a[k]?=some o->S[k]?=some o\/HE S.length o=true
open Classical in
def settle(S:aF)(d:D)(a:aF):Option (Res×aF):=if pX S a then match d with
  | .ref k=>if k<S.length then some (.d (.ref k),a.take S.length) else match a[k]? with
    |some (.lst ds)=>if bS S.length ds=true then some (.l ds,a.take S.length) else none
    |_=>none
  |d=>if cb S.length d=true then some (.d d,a.take S.length) else none
 else none
open Classical in
def eB(S:aF)(ds:List D)(a:aF):Option (Res×aF):=if pX S a/\bS S.length ds=true then some (.l ds,a.take S.length) else none
noncomputable def eY(n:Nat)(b:cX):dG:=λc S=>(b (c.map some++List.replicate (n-c.length) none) S).bind λo=>match o with
 |.nx _ a=>settle S .non a
 |.rt d a=>settle S d a
 |.rl l a=>eB S l a
 |_=>none
noncomputable def Lg(n:Nat)(b:cX):dG:=λc S=>(b (c.map some++List.replicate (n-c.length) none) S).bind λo=>match o with
 |.nx _ a=>some (.d .non,a)
 |.rt d a=>some (.d d,a)
 |.rl l a=>some (.l l,a)
 |_=>none
def fR.clean{M:Md}{ρ b:List Addr}{S j:aF}{H e:Hp}(st:fR M ρ S H)(x:cq ρ H b e)(i:fR M b j e)(c:pX S j):fR M ρ (j.take S.length) e/\cq ρ H ρ e:=by
 refine⟨⟨?_,st.nd,λk a o f g=> ?_⟩,List.prefix_refl _,λ_ h=>.inl h,x.keep,x.grow⟩
 ·rw[Qxq,st.len]
  have:=c.1
  omega
 ·have l:k<ρ.length:=(gQs.mp f).1
  have d:k<S.length:=st.len▸l
  rw[List.getElem?_take_of_lt d] at g
  refine(i.obj k a o (dC x.pre f) g).cut x.pre ?_
  rcases c.2 k o d g with z|z
  ·exact(st.obj k a o f z).low
  ·rw[st.len];exact z
def wu{M:Md}{ρ f:List Addr}{S u h:aF}{H g:Hp}{d:D}{v:V}{r:Res}(st:fR M ρ S H)(x:cq ρ H f g)(b:fR M f u g)(q:Rel M f g d v)(e:settle S d u=some (r,h)):
  cq ρ H ρ g/\fR M ρ h g/\Ke M ρ H g v r:=by
 unfold settle at e
 split at e
 ·rename_i c
  obtain⟨o,p⟩:=st.clean x b c
  cases d with
  | ref k=>
    dsimp only at e
    split at e
    · rename_i l
      obtain⟨rfl,rfl⟩:=cv e
      exact⟨p,o,q.cut x.pre (by simp only[cb];rw[st.len];exact Qeq l)⟩
    · rename_i l
      split at e
      · rename_i B z
        split at e
        · rename_i n
          obtain⟨rfl,rfl⟩:=cv e
          cases q with
          | ref i=>
            rename_i a
            obtain⟨w,y,A⟩:=b.obj k a _ i z
            have s:a∉ρ:=λm=>by
              obtain⟨j,t⟩:=List.getElem?_of_mem m
              have:=lT b.nd (dC x.pre t) i
              subst this
              exact l (st.len▸(gQs.mp t).1)
            refine⟨p,o,a,w,rfl,(x.new a (mQg i)).resolve_left s,s,y,A.cut x.pre (by rw[st.len];exact n)⟩
        · cases e
      · cases e
  | _=>
    dsimp only at e
    split at e
    · rename_i n
      obtain⟨rfl,rfl⟩:=cv e
      exact⟨p,o,q.cut x.pre (by rw[st.len];exact n)⟩
    · cases e
 ·cases e
def Bd{M:Md}{ρ b:List Addr}{S h f:aF}{H d:Hp}{ds:List D}{a:Addr}{vs:List V}{r:Res}(st:fR M ρ S H)(x:cq ρ H b d)(g:fR M b h d)(fr:H a=none)(i:a∉b)(j:d a=some (.lst vs))(n:bf M b d ds vs)(e:eB S ds h=some (r,f)):
  cq ρ H ρ d/\fR M ρ f d/\Ke M ρ H d (.ref a) r:=by
 unfold eB at e
 split at e
 ·rename_i c
  obtain⟨k,l⟩:=st.clean x g c.1
  obtain⟨rfl,rfl⟩:=cv e
  exact⟨l,k,a,vs,rfl,fr,λm=>i (x.pre.subset m),j,n.cut x.pre (by rw[st.len];exact c.2)⟩
 ·cases e
def AN{M:Md}{ρ:List Addr}{H:Hp}{ds:List D}{vs:List V}{N:List Str}(r:bf M ρ H ds vs):En M ρ H (ds.map some++List.replicate (N.length-ds.length) none) (L2.start N vs) where
 len:=by unfold L2.start;simp[r.length]
 get:=λi d q=>by
  unfold L2.start
  by_cases c:i<ds.length
  ·rw[QHq (by rw[lQm];exact c),gQm] at q
   obtain⟨g,b,a⟩:=oQm.mp q
   cases a
   obtain⟨v,e,f⟩:=r.get b
   exact⟨v,by rw[QHq (by rw[lQm,←r.length];exact c),gQm,e];rfl,f⟩
  ·rw[QQq (by rw[lQm];omega)] at q
   have:=mQg q
   rw[List.mem_replicate] at this
   cases this.2
section
variable{P:Program}{w:World}{K:PySem.W.Frag}{mg:Str->Option Value}{base:Heap}
def bA{x c:Str}{st:Stmt}{f:Addr}{I:FuncData}{N ps:List Str}{k:Nat}{b:cX}(F:eK K x c st f I)(S:aJ N ps (aD st))
  (h:∀(g:Value) (A:Around) (outer:List Env) (s:Shared) (H:Hp) (E:XK),er k (A.deeper (envOfC c (aD st) s.heap.objs.size f g))→
   uc (Af d_ P w K mg base N c (aD st) f g A outer s H E).nox (e_ st) (tS ⟨K,mg⟩ b)):bF P w K mg base d_ (k+1) f I ps (eI ⟨K,mg⟩ ps.length (eY N.length b)):=by
 refine F.ok S (λC H Q E ⟨L,S,W,r,S',G,y,_⟩=>by rw[←y.length];exact G) λg A outer s H C Q E M ⟨L,S,W,r,S',G,y,t,X,q⟩=>⟨_,h g A outer s H E M,?_⟩
 obtain⟨o,U,e⟩:=av X
 refine⟨L,_,S,o,⟨AN y,t⟩,U,?_⟩
 cases o with
 |nx a0 J=>exact λn a1 B p u=>by obtain⟨l,j,m⟩:=wu t p u.st .non e;exact q _ _ _ l j m
 |rt d J=>exact λn v B p i z=>by obtain⟨l,j,m⟩:=wu t p i z e;exact q _ _ _ l j m
 |rl d J=>exact λn a C B p i R Y Z z=>by obtain⟨l,j,m⟩:=Bd t p i R Y Z z e;exact q _ _ _ l j m
 |bk=>cases e
 |ct=>cases e
def KW{x c:Str}{st:Stmt}{f:Addr}{z:FuncData}{N ps:List Str}{k:Nat}{b:cX}(F:eK K x c st f z)(S:aJ N ps (aD st))
  (h:∀(g:Value) (A:Around) (outer:List Env) (s:Shared) (H:Hp) (E:XK),er k (A.deeper (envOfC c (aD st) s.heap.objs.size f g))→
   uc (Af d_ P w K mg base N c (aD st) f g A outer s H E).nox (e_ st) (tS ⟨K,mg⟩ b)):bF P w K mg base d_ (k+1) f z ps (eI ⟨K,mg⟩ ps.length (Lg N.length b)):=by
 refine F.ok S (λn H Q E ⟨C,S,L,r,Z,y,p,_⟩=>by rw[←p.length];exact y) λg A outer s H n Q E G ⟨C,S,L,r,Z,y,p,X,M,q⟩=>⟨_,h g A outer s H E G,?_⟩
 obtain⟨o,J,e⟩:=av M
 refine⟨C,_,S,o,⟨AN p,X⟩,J,?_⟩
 cases o with
 |nx W B=>cases e;exact λj Y u l m=>q _ _ _ l m.st .non
 |rt d B=>cases e;exact λj v u l i t=>q _ _ _ l i t
 |rl d B=>cases e;exact λj a n u l i I R U t=>q _ _ _ l i ⟨a,n,rfl,I,R,U,t⟩
 |bk=>cases e
 |ct=>cases e
end
section
variable{X:Cx}{x:Str}{k n:Nat}{f:Addr}{fd:FuncData}{ps:List Str}{F:dG}{e:Expr}{es:List Expr}{g:fW}{p pos:Pos}
noncomputable def aA(F:dG)(g:fW):bE:=λb S=>(g b S).bind λ(h,a)=>(F h a).bind λ(r,c)=>match r with
 |.d x=>some (x,c)
 |.l _=>none
def dj(F:dG)(g:fW):fW:=λc S=>(g c S).bind λ(a,b)=>(F a b).bind λ(r,h)=>match r with
 |.d _=>none
 |.l a=>some (a,h)
def nA(n:Nat)(g:fW):Prop:=∀b S a c,g b S=some (a,c)->a.length=n
def B3:nA 0 ax:=λ_ _ _ _ e=>by cases e;rfl
def mj{n:Nat}{f:bE}{g:fW}(h:nA n g):nA (n+1) (au f g):=λi S m o e=>by
 obtain⟨⟨d,c⟩,l,e⟩:=av e
 obtain⟨⟨a,j⟩,b,e⟩:=av e
 cases e
 rw[Qnq,h _ _ _ _ b]
def Cn{M:Md}(w:nA n g):∀c H Q,tD M (aA F g) c H Q->Gw (eI M n F) [] E0 (ze M g) c H Q:=λc H Q C=>by
 obtain⟨G,t,S,d,J,ok,e,q⟩:=C
 obtain⟨⟨a,m⟩,j,e⟩:=av e
 obtain⟨⟨r,y⟩,u,e⟩:=av e
 refine⟨G,t,S,a,m,ok,j,λb I H1 A h s=>⟨b,m,a,r,y,w _ _ _ _ j,by rw[List.append_nil];exact s,h,u,λo v H2 z i B=> ?_⟩⟩
 cases r with
 |d x=>obtain⟨rfl,rfl⟩:=cv e;exact q _ _ _ (A.trans z) i B
 |l a=>cases e
def Hr{M:Md}(A:nA n g):∀h H Q,tL M (dj F g) h H Q->Gw (eI M n F) [] E0 (ze M g) h H Q:=λh H Q I=>by
 obtain⟨J,y,S,d,K,ok,e,q⟩:=I
 obtain⟨⟨b,s⟩,m,e⟩:=av e
 obtain⟨⟨r,B⟩,z,e⟩:=av e
 refine⟨J,y,S,b,s,ok,m,λc u H1 o i w=>⟨c,s,b,r,B,A _ _ _ _ m,by rw[List.append_nil];exact w,i,z,λt v H2 C j G=> ?_⟩⟩
 cases r with
 |d x=>cases e
 | l b=>
   obtain⟨rfl,rfl⟩:=cv e
   obtain⟨a,u,rfl,fr,na,ha,rr⟩:=G
   exact q _ _ _ _ (o.trans C) j (o.grow _ fr) na ha rr
def JB(G:bF X.prog X.w X.K X.mg X.base d_ k f fd ps (eI (md X) n F))(c:er k X.A)(d:Gl X x)(b:X.mg x=some (.ref f))(l:PySem.W.keepIn X.K (.ref f)=true)(h:Binds X.K fd ps [])(j:PA X (e::es) (ze (md X) g))(i:nA n g)
  (a:(x==("__debug__":Str))=false:=by decide) (he:starEach (e::es) X.env=(false,eval e X.env)::starEach es X.env:=by rfl) (hpl:(backTo pos (starEach es X.env)).any (·.1)=false:=by rfl):
  PE X (.Call (.Name x p) (e::es) [] pos) (tD (md X) (aA F g)):=kN (Dq G c d b l h .nil E_ j a he hpl) (Cn i)
def Kn(G:bF X.prog X.w X.K X.mg X.base d_ k f fd ps (eI (md X) n F))(c:er k X.A)(d:Gl X x)(b:X.mg x=some (.ref f))(l:PySem.W.keepIn X.K (.ref f)=true)(h:Binds X.K fd ps [])(j:PA X (e::es) (ze (md X) g))(i:nA n g)
  (a:(x==("__debug__":Str))=false:=by decide) (he:starEach (e::es) X.env=(false,eval e X.env)::starEach es X.env:=by rfl) (hpl:(backTo pos (starEach es X.env)).any (·.1)=false:=by rfl):
  PE X (.Call (.Name x p) (e::es) [] pos) (tL (md X) (dj F g)):=kN (Dq G c d b l h .nil E_ j a he hpl) (Hr i)
end
def gI{α:Type}(xs:List α)(lo hi:Option Int):List α:=(xs.drop (HT.eX xs.length 0 lo)).take (HT.eX xs.length xs.length hi-HT.eX xs.length 0 lo)
def bf.cut3{M:Md}{ρ:List Addr}{H:Hp}{ds:List D}{vs:List V}{lo hi:Option Int}(h:bf M ρ H ds vs):bf M ρ H (gI ds lo hi) (Bq vs lo hi):=by
 unfold gI Bq
 rw[h.length]
 exact(h.drop _).take _
def Ho{α:Type}{xs:List α}{lo hi:Option Int}(b:HT.eX xs.length 0 lo=0)(a:HT.eX xs.length xs.length hi=xs.length):gI xs lo hi=xs:=by
 unfold gI
 rw[b,a]
 simp
abbrev Lc:=cN->aF->Option (Option Int×aF)
def MY(M:Md)(f:Lc):TO:=λg H Q=>∃e c S o d,Ok M e c S g H/\f c S=some (o,d)/\∀a b,cq e H a b->fR M a d b->Q o b
section
variable{X:Cx}{a b c e:Expr}{pos:Pos}{st:Stmt}
def qd:Lc:=λ_ S=>some (none,S)
def oV(f:bE):Lc:=λh S=>(f h S).bind λ(d,g)=>match d with
 |.int i=>some (some i,g)
 |_=>none
def OD{o:Option Expr}{t t':TO}(h:PO X o t)(w:∀f H Q,t' f H Q->t f H Q):PO X o t':=λd s f H Q I q=>h d s f H Q I (w _ _ _ q)
def y8:PO X none (MY (md X) qd):=OD Iy λd H Q ⟨h,f,S,o,g,ok,e,q⟩=>by cases e;exact q _ _ cq.refl ok.st
def yj{f:bE}(h:PE X e (tD (md X) f)):PO X (some e) (MY (md X) (oV f)):=OD (Hx h) λp H Q l=>by
 obtain⟨m,i,S,o,s,ok,e,q⟩:=l
 obtain⟨⟨d,k⟩,g,e⟩:=av e
 dsimp only at e
 split at e
 ·obtain⟨rfl,rfl⟩:=cv e
  refine⟨m,i,S,_,k,ok,g,λj v n x st r=> ?_⟩
  cases r
  exact⟨_,rfl,q _ _ x st⟩
 ·cases e
def oY(f:bE)(lo hi:Lc):bE:=λg S=>(f g S).bind λ(d,j)=>(lo g j).bind λ(l,k)=>(hi g k).bind λ(h,i)=>match d with
 |.tup m=>some (.tup (gI m l h),i)
 |_=>none
def sR{lo hi:Option Expr}{I:Pos}{f:bE}{l h:Lc}(he:PE X e (tD (md X) f))(hl:PO X lo (MY (md X) l))(N:PO X hi (MY (md X) h)):PE X (.Subscript e (.Slice lo hi none I) pos) (tD (md X) (oY f l h)):=
 kN (F2 HR he hl N) λY H Q U=>by
  obtain⟨W,n,S,d,Z,ok,e,q⟩:=U
  obtain⟨⟨x,C⟩,G,e⟩:=av e
  obtain⟨⟨F,B⟩,M,e⟩:=av e
  obtain⟨⟨y,K⟩,P,e⟩:=av e
  cases x with
  | tup w=>
    dsimp only at e
    obtain⟨rfl,rfl⟩:=cv e
    refine⟨W,n,S,_,C,ok,G,λo v H1 t j J=>⟨o,n,C,F,B,ok.to t j,M,λm H2 s u=>⟨m,n,B,y,K,(ok.to t j).to s u,P,λR H3 A i=> ?_⟩⟩⟩
    have g:=(t.trans s).trans A
    have L:=J.ext (s.trans A)
    cases L with
    | tup z k=>
      refine⟨_,_,rfl,gW.of z,λc=> ?_,λc p r=> ?_⟩
      · have:gI w F y=w:=Ho (by rw[k.length];exact c.1) (by rw[k.length];exact c.2)
        rw[this] at q
        exact q _ _ _ g i (.tup z k)
      · exact q _ _ _ (g.trans (cq.laid r)) (i.lay r) (.tup bN (k.cut3.ext (cq.laid r)))
  |_=>cases e
open Classical in
def sN(f g:dF):fW:=λd S=>(f d S).bind λ(p,i)=>(g d i).bind λ(r,h)=>if p.2.isM=true/\r.2.isM=true/\p.2.stays h p.1/\p.1.length+r.1.length<=sizeLine then some (p.1++r.1,h) else none
def DA{f g:dF}(G:PE X a (tQ (md X) f))(M:PE X b (tQ (md X) g)):PE X (.BinOp a .Add b pos) (tL (md X) (sN f g)):=kN (rE KG G M) λU H Q N=>by
 obtain⟨P,n,S,d,W,ok,e,q⟩:=N
 obtain⟨⟨⟨y,t⟩,v⟩,w,e⟩:=av e
 obtain⟨⟨⟨K,x⟩,J⟩,F,e⟩:=av e
 dsimp only at e
 split at e
 ·rename_i c
  obtain⟨rfl,rfl⟩:=cv e
  refine⟨P,n,S,y,t,v,ok,w,λk a R H1 s l B A=>⟨k,n,v,K,x,J,ok.to s l,F,λz b C H2 r i I u=> ?_⟩⟩
  obtain⟨m,L,o⟩:=B.to A r i c.2.2.1
  have h:=s.trans r
  refine⟨_,_,m,C,rfl,rfl,L.sqM c.1,I.sqM c.2.1,by rw[←o.length,←u.length];exact c.2.2.2,λp j=> ?_⟩
  exact q _ _ _ _ (h.trans (cq.laid j)) (i.lay j) (h.grow _ j) (dv h i j) bN ((o.append u).ext (cq.laid j))
 ·cases e
open Classical in
def Ij(f:dF)(g:bE):fW:=λd S=>(f d S).bind λ(p,i)=>(g d i).bind λ(r,h)=>match r with
 |.int k=>if p.2.isM=true/\p.2.stays h p.1/\ -(2^63)<=k/\k<2^63/\p.1.length*k.toNat<=sizeLine then some ((List.replicate k.toNat p.1).flatten,h) else none
 |_=>none
def ON{f:dF}{g:bE}(G:PE X a (tQ (md X) f))(K:PE X b (tD (md X) g)):PE X (.BinOp a .Mult b pos) (tL (md X) (Ij f g)):=kN (rE JT G K) λR H Q M=>by
 obtain⟨N,o,S,d,U,ok,e,q⟩:=M
 obtain⟨⟨⟨z,t⟩,x⟩,y,e⟩:=av e
 obtain⟨⟨r,I⟩,F,e⟩:=av e
 cases r with
 | int k=>
   dsimp only at e
   split at e
   · rename_i c
     obtain⟨rfl,rfl⟩:=cv e
     refine⟨N,o,S,z,t,x,ok,y,λl a P H1 v m C B=>⟨l,o,x,_,I,ok.to v m,F,λA w H2 u i L=> ?_⟩⟩
     obtain⟨n,J,s⟩:=C.to B u i c.2.1
     have h:=v.trans u
     cases L
     refine⟨_,k,n,rfl,rfl,J.sqM c.1,c.2.2.1,c.2.2.2.1,by rw[←s.length];exact c.2.2.2.2,λp j=> ?_⟩
     exact q _ _ _ _ (h.trans (cq.laid j)) (i.lay j) (h.grow _ j) (dv h i j) bN ((s.rep _).ext (cq.laid j))
   · cases e
 |_=>cases e
open Classical in
def eqQ(d:Bool)(f g:dF):bE:=λi S=>(f i S).bind λ(p,l)=>(g i l).bind λ(r,j)=>if p.2.isL=true/\r.2.isL=true/\p.2.stays j p.1 then(iU p.1).bind λh=>(iU r.1).bind λk=>some (.bl (if d then !ET h k else ET h k),j) else none
def L1{h:Bool}{f g:dF}:∀l H Q,tD (md X) (eqQ h f g) l H Q->Gx (KB X.K h) (tQ (md X) f) (tQ (md X) g) l H Q:=λl H Q N=>by
 obtain⟨P,n,S,d,Y,ok,e,q⟩:=N
 obtain⟨⟨⟨v,t⟩,r⟩,s,e⟩:=av e
 obtain⟨⟨⟨I,u⟩,G⟩,C,e⟩:=av e
 dsimp only at e
 split at e
 ·rename_i c
  obtain⟨W,L,e⟩:=av e
  obtain⟨U,z,e⟩:=av e
  obtain⟨rfl,rfl⟩:=cv e
  refine⟨P,n,S,v,t,r,ok,s,λk a R H1 p m A x=>⟨k,n,r,I,u,G,ok.to p m,C,λw b y H2 o i F M=> ?_⟩⟩
  obtain⟨j,J,B⟩:=A.to x o i c.2.2
  obtain⟨rfl,f1⟩:=lS B L
  obtain⟨rfl,f2⟩:=lS M z
  exact⟨a,b,j,y,rfl,rfl,J.sqL c.1,F.sqL c.2.1,f1,f2,q _ _ _ (p.trans o) i (.bl _)⟩
 ·cases e
def OI{f g:dF}(h:X.A.units<cLine)(i:PE X a (tQ (md X) f))(d:PE X b (tQ (md X) g)):PT X (.Compare a [.Eq] [b] pos) (tB (md X) (aI (eqQ false f g))):=qP L1 (kC (KI h) i d (dQ _))
open Classical in
def dB(f:dF):bE:=λg S=>(f g S).bind λ(p,d)=>if p.2.isL=true/\p.2.stays d p.1 then some (.bl (!p.1.isEmpty),d) else none
def Ds{f:dF}:∀j H Q,tD (md X) (dB f) j H Q->Gx (Fo X.K) (tQ (md X) f) (tL (md X) (bt ax)) j H Q:=λj H Q A=>by
 obtain⟨B,m,S,d,J,ok,e,q⟩:=A
 obtain⟨⟨⟨r,t⟩,l⟩,p,e⟩:=av e
 dsimp only at e
 split at e
 ·rename_i c
  obtain⟨rfl,rfl⟩:=cv e
  refine⟨B,m,S,r,t,l,ok,p,λi a F H1 o k v u=>⟨i,m,l,[],l,ok.to o k,rfl,λs b G H2 n g C I y z=> ?_⟩⟩
  obtain⟨h,x,w⟩:=v.to u n g c.2
  cases z
  refine⟨a,b,h,rfl,rfl,x.sqL c.1,iX.of y,?_⟩
  rw[←w.isEmpty]
  exact q _ _ _ (o.trans n) g (.bl _)
 ·cases e
def Ji:PE X (.List [] pos) (tL (md X) (bt ax)):=fT aZ
def Na{f:dF}{p:Pos}(d:X.A.units<cLine)(g:PE X a (tQ (md X) f)):PE X (.Compare a [.NotEq] [.List [] p] pos) (tD (md X) (dB f)):=kN (yh (zF d) g Ji (dQ _)) Ds
def tw{f:dF}{p:Pos}(d:X.A.units<cLine)(g:PE X a (tQ (md X) f)):PT X (.Compare a [.NotEq] [.List [] p] pos) (tB (md X) (aI (dB f))):=qP Ds (kC (zF d) g Ji (dQ _))
def fR.putL{M:Md}{ρ:List Addr}{S:aF}{H:Hp}{k:Nat}{a:Addr}{ds g:List D}{ws:List V}(st:fR M ρ S H)(i:ρ[k]?=some a)(h:S[k]?=some (.lst ds))(r:bf M ρ H g ws):fR M ρ (S.set k (.lst g)) (upd H a (.lst ws))/\cq ρ H ρ (upd H a (.lst ws)):=by
 obtain⟨l,f,j⟩:=st.obj k a _ i h
 exact st.put i h ⟨ws,bN,r.off f⟩ λx d=>by rw[f] at d;cases d;exact id
def rQ(m:List D->List D->Option (List D×D))(f:bE)(g:fW):bE:=λi S=>(f i S).bind λ(x,h)=>match x with
 | .ref k=>(g i h).bind λ(n,j)=>match h[k]?,j[k]? with
   |some (.lst _),some (.lst ds)=>(m ds n).bind λ(l,d)=>some (d,j.set k (.lst l))
   |_,_=>none
 |_=>none
def Ms(M:Md)(r:V->List V->Hp->VK->Prop)(m:List D->List D->Option (List D×D)):Prop:=∀{f:List Addr} {H:Hp} {a:Addr} {h k i:List D} {d:D} {l g:List V} {Q:VK},H a=some (.lst l)->bf M f H h l->bf M f H k g->m h k=some (i,d)→
 (∀j w,bf M f H i j->Rel M f H d w->Q w (upd H a (.lst j)))->r (.ref a) g H Q
def NT{m:List D->List D->Option (List D×D)}{r:V->List V->Hp->VK->Prop}{f:bE}{g:fW}(J:Ms (md X) r m):∀p H Q,tD (md X) (rQ m f g) p H Q->M7 X.K "list" r (tD (md X) f) (ze (md X) g) p H Q:=λp H Q qq=>by
 obtain⟨ρ,u,S,d,S',ok,e,q⟩:=qq
 obtain⟨⟨x,C⟩,F,e⟩:=av e
 cases x with
 | ref k=>
   dsimp only at e
   obtain⟨⟨I,U⟩,P,e⟩:=av e
   dsimp only at e
   split at e
   · rename_i Z ds s i
     obtain⟨⟨es,d'⟩,W,e⟩:=av e
     obtain⟨rfl,rfl⟩:=cv e
     refine⟨ρ,u,S,_,C,ok,F,λn v H1 B j L=> ?_⟩
     cases L with
     | ref y=>
       rename_i a
       obtain⟨t,N,_⟩:=j.obj k a _ y s
       refine⟨.inl ⟨rfl,t,iX.of N⟩,n,u,C,I,U,ok.to B j,P,λG us H2 A l Y=> ?_⟩
       have h:=dC A.pre y
       obtain⟨vs,M,R⟩:=l.obj k a _ h i
       refine J M R Y W λws w rw rd=> ?_
       obtain⟨o,z⟩:=l.putL h i rw
       exact q _ _ _ ((B.trans A).trans z) o (rd.ext z)
   · cases e
 |_=>cases e
def fX:List D->List D->Option (List D×D):=λd f=>match f with
 | [y]=>if d.length<sizeLine then some (d++ [y],.non) else none
 |_=>none
def KZ{M:Md}:Ms M CQ fX:=by
 intro n H a l o m d j k Q i g f e q
 unfold fX at e
 split at e
 ·split at e
  ·rename_i hl
   obtain⟨rfl,rfl⟩:=cv e
   cases f with
   | cons f h=>
     cases h
     exact⟨a,j,_,rfl,rfl,i,by rw[←g.length];exact hl,q _ _ (g.append (.cons f .nil)) .non⟩
  ·cases e
 ·cases e
def eV{f:bE}{g:bE}{o:Expr}{h d:Pos}(m:PE X o (tD (md X) f))(n:PE X e (tD (md X) g))(j:attributeBase o "append" X.env (eval o X.env)=eval o X.env:=by rfl) (k:((backTo d (starEach [e] X.env)).all (λx=> !x.1)&&(backToKw d (keywordEach [] X.env)).all (λx=>x.1.isSome)
   &&decide ([e].length+([]:List Keyword).length+(if ([]:List Keyword).isEmpty then 0 else 1)<30))=true:=by rfl)
  (i:(h.endLine==d.line)=true:=by rfl) (l:starEach [e] X.env= [(false,eval e X.env)]:=by rfl):PE X (.Call (.Attribute o "append" h) [e] [] d) (tD (md X) (rQ fX f (au g ax))):=
 kN (AQ PySem.F.plainAttrs_list PySem.F.slot_list_append PySem.F.type_list_append qx m (aB n aZ l) j k i l) (NT KZ)
end
section
variable{X:Cx}{a b c e:Expr}{pos:Pos}{st:Stmt}
def Cb(f:bE)(g:dF):bE:=λh S=>(f h S).bind λ(x,d)=>match x with
 | .ref k=>(g h d).bind λ(p,i)=>match d[k]?,i[k]? with
   |some (.lst _),some (.lst ds)=>if p.2.isM=true/\ds.length+p.1.length<=sizeLine then some (.non,i.set k (.lst (ds++p.1))) else none
   |_,_=>none
 |_=>none
def LA{f:bE}{g:dF}:∀o H Q,tD (md X) (Cb f g) o H Q->M7 X.K "list" Dm (tD (md X) f) (EX (tQ (md X) g) Ky) o H Q:=λo H Q Z=>by
 obtain⟨ρ,u,S,d,S',ok,e,q⟩:=Z
 obtain⟨⟨x,B⟩,C,e⟩:=av e
 cases x with
 | ref k=>
   dsimp only at e
   obtain⟨⟨⟨G,t⟩,U⟩,M,e⟩:=av e
   dsimp only at e
   split at e
   · rename_i Y ds p i
     split at e
     · rename_i c
       obtain⟨rfl,rfl⟩:=cv e
       refine⟨ρ,u,S,_,B,ok,C,λm v H1 z j J=> ?_⟩
       cases J with
       | ref w=>
         rename_i a
         obtain⟨r,L,_⟩:=j.obj k a _ w p
         refine⟨.inl ⟨rfl,r,iX.of L⟩,m,u,B,G,t,U,ok.to z j,M,λF b P H2 y l R A=> ?_⟩
         have h:=dC y.pre w
         obtain⟨I,W,s⟩:=l.obj k a _ h i
         refine⟨a,b,I,P,rfl,rfl,W,R.sqM c.1,by rw[←s.length,←A.length];exact c.2,?_⟩
         obtain⟨n,N⟩:=l.putL h i (s.append A)
         exact q _ _ _ ((z.trans y).trans N) n .non
     · cases e
   · cases e
 |_=>cases e
def Gb{f:bE}{g:dF}{o:Expr}{h d:Pos}(m:PE X o (tD (md X) f))(n:PE X e (tQ (md X) g))(j:attributeBase o "extend" X.env (eval o X.env)=eval o X.env:=by rfl) (k:((backTo d (starEach [e] X.env)).all (λx=> !x.1)&&(backToKw d (keywordEach [] X.env)).all (λx=>x.1.isSome)
   &&decide ([e].length+([]:List Keyword).length+(if ([]:List Keyword).isEmpty then 0 else 1)<30))=true:=by rfl)
  (i:(h.endLine==d.line)=true:=by rfl) (l:starEach [e] X.env= [(false,eval e X.env)]:=by rfl):PE X (.Call (.Attribute o "extend" h) [e] [] d) (tD (md X) (Cb f g)):=
 kN (AQ PySem.F.plainAttrs_list PySem.F.slot_list_extend PySem.F.type_list_extend EM m (cP n fq l) j k i l) LA
def K5(f g:bE):mI:=λd h S=>(f h S).bind λ(x,m)=>(g h m).bind λ(y,l)=>match x,y with
 | .ref k,.int i=>match l[k]? with
   |some (.lst ds)=>(GU ds.length i).bind λj=>some (h,l.set k (.lst (ds.set j d)))
   |_=>none
 |_,_=>none
def NK{f g:bE}:∀v p H Q,tG (md X) (K5 f g) v p H Q->LL (tD (md X) f) (tD (md X) g) Jc v p H Q:=λv p H Q U=>by
 obtain⟨W,u,S,d,K,S',ok,r,e,q⟩:=U
 obtain⟨⟨x,F⟩,G,e⟩:=av e
 obtain⟨⟨y,M⟩,L,e⟩:=av e
 cases x with
 | ref k=>
   cases y with
   | int i=>
     dsimp only at e
     split at e
     · rename_i Y w
       obtain⟨j,P,e⟩:=av e
       obtain⟨rfl,rfl⟩:=cv e
       refine⟨W,u,S,_,F,ok,G,λn v1 H1 C s m=>⟨n,u,F,_,M,ok.to C s,L,λI Z H2 B l R=> ?_⟩⟩
       cases R
       have m:=m.ext B
       cases m with
       | ref z=>
         obtain⟨J,N,t⟩:=l.obj k _ _ z w
         have h:=C.trans B
         obtain⟨o,A⟩:=l.putL z w (bf.set (r.ext h) j t)
         exact⟨_,J,i,j,rfl,rfl,N,by rw[←t.length];exact P,q _ _ _ (h.trans A) ((ok.to h l).to A o)⟩
     · cases e
   |_=>cases e
 |_=>cases e
def OF{o i:Expr}{f g:bE}(d:PE X o (tD (md X) f))(hi:PE X i (tD (md X) g))
  (h:∀v,assign (.Subscript o i pos) X.env v=(do
   let ov←holding [v] (eval o X.env)
   let iv←holding [v,ov] (eval i X.env)
   standAt pos
   holding [v,ov,iv] (setItem ov iv v)
   release [v,ov,iv] []):=by intro _;rfl):PG X (.Subscript o i pos) (tG (md X) (K5 f g)):=Oc (Kg d hi set_list h) NK
def AM(i j:Nat)(f:fW):cX:=λd S=>(f d S).bind λ(h,g)=>match h with
 | [v,w]=>some (.nx ((d.set i (some v)).set j (some w)) g)
 |_=>none
def Fh{i j:Nat}{f:fW}(h:PS X st (Ly i j (ze (md X) f))):PS X st (tS (md X) (AM i j f)):=Ef h λD w H n=>by
 obtain⟨p,k,S,o,ok,e,q⟩:=n
 obtain⟨⟨u,m⟩,g,e⟩:=av e
 dsimp only at e
 split at e
 ·cases e
  refine⟨p,k,S,_,m,ok,g,λl v t x st r=> ?_⟩
  cases r with
  | cons r d=>
    cases d with
    | cons s d=>
      cases d
      exact⟨_,_,rfl,q _ _ _ x ⟨((ok.en.ext x).set r).set s,st⟩⟩
 ·cases e
end
def eg(cells:List (Str×Addr)):List (Str×NameKind)->List (Str×Addr)->List (Str×Addr)
 | [],acc=>acc
 |(n,k)::r,acc=>if (k==.free)=true then eg cells r ((n,(cells.lookup n).getD 0)::acc) else eg cells r acc
theorem rf{env:Env}:∀(names:List (Str×NameKind)) (b:List (Str×Addr)),(∀y∈names,y.2=.free->(env.cells.lookup y.1).isSome=true)→
  (forIn names b λ(x:Str×NameKind) (cs:List (Str×Addr))=>(do
   if (x.2==NameKind.free)=true then do
    let c←cellOf env x.1
    pure (ForInStep.yield ((x.1,c)::cs))
   else pure (ForInStep.yield cs):Sem (ForInStep (List (Str×Addr)))))=(pure (eg env.cells names b):Sem _)
 | [],b,_=>rfl
 | (n,k)::r,b,h=>by
   rw[List.forIn_cons]
   unfold eg
   by_cases c:(k==NameKind.free)=true
   · obtain⟨a,e⟩:=Option.isSome_iff_exists.mp (h (n,k) QBq (by simpa using c))
     simp only[c,if_true]
     have f:cellOf env n=pure a:=by
       unfold cellOf
       rw[e]
     rw[f,pure_bind,pure_bind,e]
     exact rf r _ λy d=>h y (Qpq _ d)
   · simp only[c,Bool.false_eq_true,if_false]
     rw[pure_bind]
     exact rf r _ λy d=>h y (Qpq _ d)
def Fq{a:Scope}{env:Env}(h:∀y∈a.names,y.2=.free->(env.cells.lookup y.1).isSome=true):closureFor a env=pure (eg env.cells a.names []):=by
 unfold closureFor
 have:=rf a.names [] h
 rw[bind_pure]
 exact this
theorem tP{cells:List (Str×Addr)}:∀(names:List (Str×NameKind)) (a:List (Str×Addr)) (p:Str×Addr),p∈eg cells names a->p∈a\/∃n,(n,NameKind.free)∈names/\p=(n,(cells.lookup n).getD 0)
 | [],a,p,h=>.inl h
 | (n,k)::r,a,p,h=>by
   unfold eg at h
   split at h
   · rename_i c
     rcases tP r _ p h with h|⟨m,d,b⟩
     · rcases Qsq.mp h with h|h
       · exact .inr ⟨n,by rw[show k=NameKind.free by simpa using c];exact QBq,h⟩
       · exact .inl h
     · exact .inr ⟨m,Qpq _ d,b⟩
   · rcases tP r _ p h with h|⟨m,d,b⟩
     · exact .inl h
     · exact .inr ⟨m,Qpq _ d,b⟩
theorem tZ{cells:List (Str×Addr)}{x:Str}:∀(names:List (Str×NameKind)) (a:List (Str×Addr)),((x,NameKind.free)∈names\/∃c,(x,c)∈a)->∃c,(x,c)∈eg cells names a
 | [],a,h=>by
   rcases h with h|h
   · cases h
   · exact h
 | (n,k)::r,a,h=>by
   unfold eg
   split
   · rename_i c
     refine tZ r _ ?_
     rcases h with h|⟨c,h⟩
     · rcases Qsq.mp h with h|h
       · cases h;exact .inr ⟨_,QBq⟩
       · exact .inl h
     · exact .inr ⟨c,Qpq _ h⟩
   · rename_i c
     refine tZ r _ ?_
     rcases h with h|h
     · rcases Qsq.mp h with h|h
       · cases h;exact absurd rfl c
       · exact .inl h
     · exact .inr h
theorem mR{x:Str}{c:Addr}:∀{l:List (Str×Addr)},(x,c)∈l->∃a,l.lookup x=some a
 | [],h=>by cases h
 | (n,d)::r,h=>by
   unfold List.lookup
   by_cases e:(x==n)=true
   · rw[e];exact⟨d,rfl⟩
   · have b:(x==n)=false:=by simpa using e
     rw[b]
     rcases Qsq.mp h with h|h
     · cases h;simp at e
     · exact mR h
def vj(b:List Str)(a:Str->Option NameKind)(names:List (Str×NameKind)):List (Option Nat)->List Str->Bool
 |some j::js,x::N=>(b[j]? ==some x)&&(a x==some .cell||a x==some .free)&&(names.lookup x==some .free)&&vj b a names js N
 |none::js,_::N=>vj b a names js N
 |_,_=>true
theorem uN{b:List Str}{a:Str->Option NameKind}{names:List (Str×NameKind)}:∀{js:List (Option Nat)} {N:List Str} {k j:Nat} {x:Str},vj b a names js N=true->js[k]?=some (some j)->N[k]?=some x->b[j]?=some x/\(a x=some .cell\/a x=some .free)/\names.lookup x=some .free
 | some i::js,y::N,0,j,x,h,h1,h2=>by
   cases h1
   cases h2
   simp only[vj,QCq,Bool.or_eq_true,beq_iff_eq] at h
   exact⟨h.1.1.1,h.1.1.2,h.1.2⟩
 | some i::js,y::N,k+1,j,x,h,h1,h2=>by
   simp only[vj,QCq] at h
   exact uN h.2 (by simpa using h1) (by simpa using h2)
 |none::js,y::N,0,j,x,h,h1,h2=>by cases h1
 |none::js,y::N,k+1,j,x,h,h1,h2=>uN (k:=k) (by simpa [vj] using h) (by simpa using h1) (by simpa using h2)
 | [],N,k,j,x,h,h1,h2=>by simp at h1
 |some i::js,[],k,j,x,h,h1,h2=>by simp at h2
 |none::js,[],k,j,x,h,h1,h2=>by simp at h2
theorem oB{env:Env}{x:Str}:∀{names:List (Str×NameKind)},names.lookup x=some .free->(names.map λ(n,k)=>if (k==NameKind.free&&env.scope.kind==.function&&env.kindOf n==some .cell) then(n,NameKind.cell) else(n,k)).lookup x=some .cell∨
  (names.map λ(n,k)=>if (k==NameKind.free&&env.scope.kind==.function&&env.kindOf n==some .cell) then(n,NameKind.cell) else(n,k)).lookup x=some .free
 | [],h=>by cases h
 | (n,k)::r,h=>by
   unfold List.lookup at h
   rw[QDq]
   by_cases e:(x==n)=true
   · rw[e] at h
     cases h
     dsimp only
     split
     · left;unfold List.lookup;rw[e]
     · right;unfold List.lookup;rw[e]
   · have a:(x==n)=false:=by simpa using e
     rw[a] at h
     have b:=oB (env:=env) h
     dsimp only
     split <;>(unfold List.lookup;rw[a];exact b)
def aS.gen{X:Cx}{N:List Str}{js:List (Option Nat)}{d:Scope}(k:d.kind=.function)(o:d.names.all (λy=>y.2 !=.cell)=true)(w:d.names.all (λy=>y.2 !=.local||d.names.lookup y.1==some .local)=true)
  (p:d.names.all (λy=>y.2 !=.free||(X.env.cells.lookup y.1).isSome)=true) (s:vj X.N X.env.kindOf d.names js N=true) (t:js.length=N.length):aS X N js d (eg X.env.cells d.names []) where
 kind:=k
 nocell:=λy f=>by
  have:=QUq.mp o y f
  simpa using this
 names:=λy f e=>by
  have:=QUq.mp w y f
  rw[e] at this
  simpa using this
 clos:=Fq λy f e=>by
  have:=QUq.mp p y f
  rw[e] at this
  simpa using this
 sub:=λx c h=>by
  rcases tP _ _ _ (PySem.mem_of_lookup h) with h|⟨n,l,e⟩
  ·cases h
  ·cases e
   have:=QUq.mp p _ l
   have u:(X.env.cells.lookup x).isSome=true:=by simpa using this
   obtain⟨c,g⟩:=Option.isSome_iff_exists.mp u
   rw[g]
   rfl
 has:=λx h=>by
  have m:(x,NameKind.free)∈d.names:=by
   have:∃k,(relabel d X.env).names.lookup x=some k/\(k=.cell\/k=.free):=by
    rcases h with h|h
    ·exact⟨_,h,.inl rfl⟩
    ·exact⟨_,h,.inr rfl⟩
   obtain⟨B,v,g⟩:=this
   have q:=PySem.mem_of_lookup v
   unfold relabel at q
   obtain⟨⟨n,r⟩,f,i⟩:=Qkq.mp q
   dsimp only at i
   split at i
   ·rename_i c
    cases i
    simp only[QCq] at c
    have:r=NameKind.free:=by simpa using c.1.1
    rw[←this]
    exact f
   ·cases i
    rcases g with z|z
    ·have:=QUq.mp o _ f
     rw[z] at this
     simp at this
    ·rw[←z];exact f
  obtain⟨c,g⟩:=tZ (cells:=X.env.cells) d.names [] (.inl m)
  exact mR g
 cap:=λk j x A l=>by
  obtain⟨a,b,c⟩:=uN s A l
  refine⟨a,b,?_⟩
  unfold relabel
  exact oB c
 len:=t
structure fD(P:Program)(w:World)(K:PySem.W.Frag)(mg:Str->Option Value)(base:Heap)(k:Nat)(x:Str)(ps:List Str)(F:dG):Prop where
 ex:∃f fd,bF P w K mg base d_ k f fd ps (eI ⟨K,mg⟩ ps.length F)/\Binds K fd ps []/\PySem.W.keepIn K (.ref f)=true/\mg x=some (.ref f)
section
variable{X:Cx}{x:Str}{k n:Nat}{ps:List Str}{F:dG}{e:Expr}{es:List Expr}{g:fW}{p pos:Pos}
def Mr(C:fD X.prog X.w X.K X.mg X.base k x ps F)(c:er k X.A)(d:Gl X x)(j:PA X (e::es) (ze (md X) g))(i:nA ps.length g)
  (a:(x==("__debug__":Str))=false:=by decide) (he:starEach (e::es) X.env=(false,eval e X.env)::starEach es X.env:=by rfl) (hpl:(backTo pos (starEach es X.env)).any (·.1)=false:=by rfl):
  PE X (.Call (.Name x p) (e::es) [] pos) (tD (md X) (aA F g)):=by
 obtain⟨f,l,G,b,h,m⟩:=C.ex
 exact JB G c d m h b j i a he hpl
def LK(C:fD X.prog X.w X.K X.mg X.base k x ps F)(c:er k X.A)(d:Gl X x)(j:PA X (e::es) (ze (md X) g))(i:nA ps.length g)
  (a:(x==("__debug__":Str))=false:=by decide) (he:starEach (e::es) X.env=(false,eval e X.env)::starEach es X.env:=by rfl) (hpl:(backTo pos (starEach es X.env)).any (·.1)=false:=by rfl):
  PE X (.Call (.Name x p) (e::es) [] pos) (tL (md X) (dj F g)):=by
 obtain⟨f,l,G,b,h,m⟩:=C.ex
 exact Kn G c d m h b j i a he hpl
end
def fD.mono{P:Program}{w:World}{K:PySem.W.Frag}{mg:Str->Option Value}{base:Heap}{j k:Nat}{x:Str}{ps:List Str}{F:dG}(C:fD P w K mg base j x ps F)(h:j<=k):fD P w K mg base k x ps F:=by
 obtain⟨f,a,G,b,c,m⟩:=C.ex
 exact⟨f,a,G.mono h,b,c,m⟩
structure Bl(mg:Str->Option Value):Prop where
 len:mg "len"=none
 tuple:mg "tuple"=none
 list:mg "list"=none
 dict:mg "dict"=none
 set:mg "set"=none
 int:mg "int"=none
 str:mg "str"=none
 bool:mg "bool"=none
 all:mg "all"=none
 any:mg "any"=none
 range:mg "range"=none
 zip:mg "zip"=none
 sorted:mg "sorted"=none
 isi:mg "isinstance"=none
 min:mg "min"=none
 max:mg "max"=none
 abs:mg "abs"=none
 enum:mg "enumerate"=none
open AutoSeq1 in
def og(l:Addr)(items:Array Value)(n:Nat)(b:Addr)(a:Array Value)(j:Nat)(k:Option Addr)(p:Array (Option Value))(m:¬(!items.isEmpty&&Builtin.List.listTooLong (items.size+a.size))=true)(e:items.size<=sizeLine)(f:items.size+a.size<=sizeLine+1):
  Meets (Builtin.«list.extend» ⟨[.ref l,.ref b],[]⟩) (λ_ R s=>s.heap.get? l=some {cls:=.type "list",dict:=none,data:=.seq items n,slots:= #[]}/\s.heap.get? b=some {cls:=.type "tuple",dict:=k,data:=.seq a j,slots:=p}/\R (.ok (.ret Value.none)) {s with heap:=s.heap.update l (Obj.mapSeq λx=>x++a),toks:=s.toks}):=
 .of_wp λi w A R s h=>by
  obtain⟨v,g,d,q,r⟩:=s;obtain⟨hl,o,h⟩:=h;have z:=idx_int;have y:=AutoSeq1.sub_tuple_tuple;have t:=AutoSeq1.sub_list_list;have B:=AutoSeq1.sub_tuple_list;have u:=AutoSeq1.sub_list_tuple;
  have c:(items++a).size<=sizeLine+1:=by rw[Array.size_append];exact f
  wp_walk using (wpAny_updateSeq hl rfl (hz:=e) (_hz':=c)),AutoSeq1.wpAny_loadPart' hl,AutoSeq1.wpAny_loadPart' o;exact⟨_,rfl,h⟩
section
variable{X:Cx}{a b c e:Expr}{pos:Pos}{st:Stmt}
def Hs:N8 X "list.extend" (λx vs H Q=>∃l b xs i,x=.ref l/\vs= [.ref b]/\H l=some (.lst xs)/\gW X.K H b i/\xs.length+i.length<=sizeLine/\Q .non (upd H l (.lst (xs++i)))):=by
 intro o s P H x vs v N Q I t J h
 obtain⟨l,b,xs,i,rfl,rfl,hH,hB,hz,q⟩:=h
 cases t
 obtain⟨u,rfl,ru⟩:=J.one
 cases ru
 obtain⟨z,f,n,r,hl,e⟩:=I.lstM hH
 obtain⟨d,p,⟨⟨L,A,G,M⟩,y,k,w,m⟩,C⟩:=I.tuple hB
 have B:=p.length
 simp only at k m
 subst k m
 have j:f.toArray.size+d.toArray.size<=sizeLine:=by rw[Qjq,Qjq];omega
 have g:¬(!f.toArray.isEmpty&&Builtin.List.listTooLong (f.toArray.size+d.toArray.size))=true:=by
  rw[tM j,Bool.and_false]
  exact Qtq
 refine call_meets F.slot_list_extend ⟨_,e,rfl⟩ F.entry_list_extend (F.args_list_extend_2 _ _)
  (og l f.toArray n b d.toArray w A M g (by rw[Qjq];omega) (by omega)) ⟨e,y,?_⟩
 refine⟨.non,_,I.lset (its':=f++d) hH e (by simp) (r.append p) ?_,rfl,q⟩
 rw[lQa]
 omega
def w6(f:bE)(g:dF):bE:=λh S=>(f h S).bind λ(x,d)=>match x with
 | .ref k=>(g h d).bind λ(p,i)=>match d[k]?,i[k]? with
   |some (.lst _),some (.lst ds)=>if p.2.isL=false/\ds.length+p.1.length<=sizeLine then some (.non,i.set k (.lst (ds++p.1))) else none
   |_,_=>none
 |_=>none
def Km{f:bE}{g:dF}:∀r H Q,tD (md X) (w6 f g) r H Q->M7 X.K "list" (λx vs H Q=>∃l b xs n,x=.ref l/\vs= [.ref b]/\H l=some (.lst xs)/\gW X.K H b n/\xs.length+n.length<=sizeLine/\Q .non (upd H l (.lst (xs++n)))) (tD (md X) f) (EX (tQ (md X) g) Ky) r H Q:=λr H Q qq=>by
 obtain⟨ρ,y,S,d,S',ok,e,q⟩:=qq
 obtain⟨⟨x,F⟩,G,e⟩:=av e
 cases x with
 | ref k=>
   dsimp only at e
   obtain⟨⟨⟨J,t⟩,W⟩,N,e⟩:=av e
   dsimp only at e
   split at e
   · rename_i Z ds s i
     split at e
     · rename_i c
       obtain⟨rfl,rfl⟩:=cv e
       refine⟨ρ,y,S,_,F,ok,G,λo v H1 B j L=> ?_⟩
       cases L with
       | ref z=>
         rename_i a
         obtain⟨u,M,_⟩:=j.obj k a _ z s
         refine⟨.inl ⟨rfl,u,iX.of M⟩,o,y,F,J,t,W,ok.to B j,N,λI b R H2 A m U C=> ?_⟩
         have h:=dC A.pre z
         obtain⟨vs,Y,w⟩:=m.obj k a _ h i
         refine⟨a,b,vs,R,rfl,rfl,Y,U.sqT c.1,by rw[←w.length,←C.length];exact c.2,?_⟩
         obtain⟨p,P⟩:=m.putL h i (w.append C)
         exact q _ _ _ ((B.trans A).trans P) p .non
     · cases e
   · cases e
 |_=>cases e
def K_{f:bE}{g:dF}{o:Expr}{h d:Pos}(m:PE X o (tD (md X) f))(n:PE X e (tQ (md X) g))(j:attributeBase o "extend" X.env (eval o X.env)=eval o X.env:=by rfl) (k:((backTo d (starEach [e] X.env)).all (λx=> !x.1)&&(backToKw d (keywordEach [] X.env)).all (λx=>x.1.isSome)
   &&decide ([e].length+([]:List Keyword).length+(if ([]:List Keyword).isEmpty then 0 else 1)<30))=true:=by rfl)
  (i:(h.endLine==d.line)=true:=by rfl) (l:starEach [e] X.env= [(false,eval e X.env)]:=by rfl):PE X (.Call (.Attribute o "extend" h) [e] [] d) (tD (md X) (w6 f g)):=
 kN (AQ PySem.F.plainAttrs_list PySem.F.slot_list_extend PySem.F.type_list_extend Hs m (cP n fq l) j k i l) Km
def pK(x:V):List V->Option Nat
 | []=>none
 |y::r=>if sA y x=true then some 0 else(pK x r).map (·+1)
theorem Dw{x:V}:∀{xs:List V} {j:Nat},pK x xs=some j->(∃y,xs[j]?=some y/\sA y x=true)/\∀m y,m<j->xs[m]?=some y->sA y x=false
 | [],_,h=>by cases h
 | y::r,j,h=>by
   unfold pK at h
   split at h
   · rename_i c
     cases h
     exact⟨⟨y,rfl,c⟩,λm _ d=>absurd d (Nat.not_lt_zero _)⟩
   · rename_i c
     obtain⟨i,l,rfl⟩:=oQm.mp h
     obtain⟨⟨z,k,g⟩,n⟩:=Dw l
     refine⟨⟨z,by simpa using k,g⟩,λm w d f=> ?_⟩
     cases m with
     |zero=>cases f;simpa using c
     |succ m=>exact n m w (by omega) (by simpa using f)
def GJ:N5 X "list.index" (λx vs H Q=>∃a xs y j,x=.ref a/\vs= [y]/\iX X.K H a xs/\hJ y=true/\xs.all hJ=true/\pK y xs=some j/\Q (.int (j:Nat)) H):=by
 intro G s σ H x vs v us Q I M W h
 obtain⟨a,xs,y,j,rfl,rfl,hq,fy,fs,hj,q⟩:=h
 cases M
 obtain⟨u,rfl,ru⟩:=W.one
 obtain⟨f,r,L,hz⟩:=I.list hq
 obtain⟨⟨a0,dd,U,sl⟩,n,e,B,g,C⟩:=L
 simp only at B g C
 subst B g C
 obtain⟨⟨z,k,P⟩,R⟩:=Dw hj
 have hl:=r.length
 have Y:j<xs.length:=(gQs.mp k).1
 obtain⟨w,o,p⟩:=r.get k
 have l:f.toArray[j]'(by rw[Qjq];omega)=w:=by
  have:=(gQs.mp o).2
  simpa using this
 have J:=lj
 refine call_meets PySem.F.slot_list_index ⟨_,e,rfl⟩ PySem.F.entry_list_index (PySem.F.args_list_index_2 _ _)
  (SeqAt.list_indexAt a f.toArray n none sl u (A8 y) j (by rw[Qjq];omega) (by omega) (by rw[l,xY p (QUq.mp fs z (mQg k))];exact P) λm S A=> ?_)
  ⟨e,λw o=>jT ru fy r fs w (by simpa using o),⟨.int j,H,I.tok _,⟨_,rfl⟩,q⟩⟩
 have d:m<xs.length:=by rw[Qjq] at S;omega
 obtain⟨Z,i,t⟩:=r.get (gQe d)
 have N:f.toArray[m]=Z:=by
  have:=(gQs.mp i).2
  simpa using this
 rw[N,xY t (QUq.mp fs _ (List.getElem_mem d))]
 exact R m _ A (gQe d)
end
end DL
namespace Zq
open PySem
def It(t:Bool)(h:Heap)(i a:Addr)(k:Nat):Prop:=if t=true then h.IsTupleIter i a k else h.IsListIter i a k
def Sq(t:Bool)(h:Heap)(a:Addr)(xs:Array Value):Prop:=if t=true then h.IsTuple a xs else h.IsList a xs
section
variable{t t2:Bool}{h h':Heap}{i j a b z O T:Addr}{k:Nat}{xs ys:Array Value}
theorem It.at(g:It t h i a k)(f:∀o,h.get? i=some o->h'.get? i=some o):It t h' i a k:=by
 cases t with
 |true=>exact(show h.IsTupleIter i a k from g).at f
 |false=>exact(show h.IsListIter i a k from g).at f
def It.ext{c:Addr}(g:It t h i a k)(f:Heap.ExtBut c h h')(n:i≠c):It t h' i a k:=g.at λo e=>f i o n e
def Sq.at(g:Sq t h a xs)(f:∀o,h.get? a=some o->h'.get? a=some o):Sq t h' a xs:=by
 cases t with
 |true=>obtain⟨o,e,r⟩:=(show h.IsTuple a xs from g);exact(show h'.IsTuple a xs from⟨o,f o e,r⟩)
 |false=>obtain⟨o,e,r⟩:=(show h.IsList a xs from g);exact(show h'.IsList a xs from⟨o,f o e,r⟩)
def Sq.ext{c:Addr}(g:Sq t h a xs)(f:Heap.ExtBut c h h')(n:a≠c):Sq t h' a xs:=g.at λo e=>f a o n e
def It.obj(g:It t h i a k):∃o,h.get? i=some o/\∀v,o.data≠.cell v:=by
 cases t with
 |true=>obtain⟨o,e,_,d⟩:=(show h.IsTupleIter i a k from g);exact⟨o,e,λv n=>by rw[d] at n;cases n⟩
 |false=>obtain⟨o,e,_,d⟩:=(show h.IsListIter i a k from g);exact⟨o,e,λv n=>by rw[d] at n;cases n⟩
end
section
variable{prog:Program}{w:World}{A:Around}{E:Value->Shared->Prop}{s:Shared}{t t2:Bool}{z T O i j a b:Addr}{k:Nat}{xs ys:Array Value}{x y u v:Value}
def draw{Q:Value->Shared->Prop}(e:It t s.heap i a k)(c:Sq t s.heap a xs)(d:xs[k]?=some v)
  (q:∀h',It t h' i a (k+1)->Heap.SameBut i s.heap h'->Q v {s with heap:=h'}):wpAny (model prog w) A (Builtin.SmallTypes.nextOf (.ref i)) Q E s:=by
 cases t with
 |true=>exact Zp.Mz e c d q
 |false=>exact wpAny_nextOf_list_item e c d q
def zr{Q:Value->Shared->Prop}(d:A.handled=none)(g:It t s.heap i a k)(c:Sq t s.heap a xs)(f:xs[k]?=none)
  (q:∀h' e,Heap.ExtBut i s.heap h'->(∃o,h'.get? e=some o/\o.cls=.type "StopIteration")->E (.ref e) {s with heap:=h'}):wpAny (model prog w) A (Builtin.SmallTypes.nextOf (.ref i)) Q E s:=by
 cases t with
 |true=>exact Zp.Mt d g c f q
 |false=>exact wpAny_nextOf_list_end d g c f q
abbrev kT(h:Heap)(z T O:Addr)(d c:Value):Prop:=
 h.get? z=some {cls:=.type "zip",dict:=none,data:=.fields #[d,c,.bool false,.ref T,.ref O],slots:= #[]}
def item(D:ZipApart z T O i j a b){Q:Value->Shared->Prop}(m:kT s.heap z T O .none (.bool false))(gT:IsPair s.heap T (.ref i) (.ref j))(gO:IsPair s.heap O u v)(gi:It t s.heap i a k)(gj:It t2 s.heap j b k)
  (ga:Sq t s.heap a xs) (gb:Sq t2 s.heap b ys) (ex:xs[k]?=some x) (ey:ys[k]?=some y)
  (q:∀h',kT h' z T O (rawInt s.heap.objs.size) (.bool false)->IsPair h' O x y->It t h' i a (k+1)->It t2 h' j b (k+1)->IsPair h' s.heap.objs.size x y->Zp.Rest z O i j s.heap h'->Q (.ref s.heap.objs.size) {s with heap:=h'}):
  wpAny (model prog w) A (Builtin.«zip.__next__» ⟨[.ref z],[]⟩) (λN s'=>∃r,N=.done (.ret r)/\Q r s') E s:=by
 refine(?_:wpAny _ _ (field (.ref z) 2 >>= _) _ _ _)
 refine Qaq (QMq m rfl (x:=.bool false) rfl ?_)
 refine(?_:wpAny _ _ (field (.ref z) 3 >>= _) _ _ _)
 refine Qaq (QMq m rfl (x:=.ref T) rfl (Qaq (wpAny_seqItems gT rfl ?_)))
 refine(?_:wpAny _ _ (Builtin.SmallTypes.ownedTupleIsFree (.ref z) >>= _) _ _ _)
 refine Qaq ?_
 unfold Builtin.SmallTypes.ownedTupleIsFree
 refine Qaq (QMq m rfl (x:=.none) rfl (Qgq ?_))
 simp only[if_true]
 refine Qaq (wpAny_rule (Qaq (QMq m rfl (x:=.ref O) rfl (Qaq (wpAny_setField_rec m (by simp) λh1 L f=> ?_)))))
 replace L:kT h1 z T O .ellipsis (.bool false):=L
 refine Qaq ?_
 simp only[List.zipIdx_cons,List.zipIdx_nil,List.forIn_nil,List.forIn_cons]
 refine Qaq (Qaq (wpAny_onRaise ?_))
 refine(?_:wpAny _ _ (Builtin.SmallTypes.nextOf (.ref i) >>= _) _ _ _)
 refine Qaq (draw (gi.ext f.extBut D.i1z) (ga.ext f.extBut D.l1z) ex λh2 i2 l=>Qgq ?_)
 have R:IsPair h2 O u v:=l.extBut _ _ D.TOi1 (f.extBut _ _ D.TOz gO)
 refine Qaq (wpAny_seqItems R rfl (Qaq (wpAny_updateSeq_pair R λh3 J h=>Qaq (wpAny_letGo (Qgq ?_)))))
 replace J:IsPair h3 O x v:=J
 refine Qaq (Qaq (wpAny_onRaise ?_))
 refine(?_:wpAny _ _ (Builtin.SmallTypes.nextOf (.ref j) >>= _) _ _ _)
 refine Qaq (draw (((gj.ext f.extBut D.i2z).ext l.extBut D.i12.symm).ext h.extBut D.TOi2.symm) (((gb.ext f.extBut D.l2z).ext l.extBut D.l2i1).ext h.extBut D.l2TO) ey λh4 j4 n=>Qgq ?_)
 have U:IsPair h4 O x v:=n.extBut _ _ D.TOi2 J
 refine Qaq (wpAny_seqItems U rfl (Qaq (wpAny_updateSeq_pair U λd F p=>Qaq (wpAny_letGo (Qgq (Qgq ?_))))))
 replace F:IsPair d O x y:=F
 refine Qaq (wpAny_seqItems F rfl (Qaq (wpAny_newTuple ?_)))
 have S:d.objs.size=s.heap.objs.size:=by rw[p.1,n.1,h.1,l.1,f.1]
 have Z:kT d z T O .ellipsis (.bool false):=p.extBut _ _ D.TOz.symm (n.extBut _ _ D.i2z.symm (h.extBut _ _ D.TOz.symm (l.extBut _ _ D.i1z.symm L)))
 have r5:Zp.Rest z O i j s.heap d:=λc o g G K M e=>p.extBut _ _ G (n.extBut _ _ M (h.extBut _ _ G (l.extBut _ _ K (f.extBut _ _ g e))))
 have i5:It t d i a (k+1):=((i2.ext h.extBut D.TOi1.symm).ext n.extBut D.i12).ext p.extBut D.TOi1.symm
 have j5:It t2 d j b (k+1):=j4.ext p.extBut D.TOi2.symm
 have Y:z<d.objs.size:=Qiq Z
 refine(?_:wpAny _ _ (Builtin.SmallTypes.ownedTupleHandOut (.ref z) (.ref d.objs.size) >>= _) _ _ _)
 refine Qaq ?_
 unfold Builtin.SmallTypes.ownedTupleHandOut
 have z6:kT (d.push {cls:=.type "tuple",data:=.seq #[x,y]}) z T O .ellipsis (.bool false):=Qcq _ Z
 refine Qaq (wpAny_setField_rec z6 (by simp) λh7 I X=> ?_)
 replace I:kT h7 z T O (rawInt d.objs.size) (.bool false):=I
 refine wpAny_setField_rec I (by simp) λH C W=> ?_
 replace C:kT H z T O (rawInt d.objs.size) (.bool false):=C
 have B:∀c o,c≠z->d.get? c=some o->H.get? c=some o:=λc o g e=>W.extBut _ _ g (X.extBut _ _ g (Qcq _ e))
 have P:IsPair H d.objs.size x y:=W.extBut _ _ (Nat.ne_of_gt Y) (X.extBut _ _ (Nat.ne_of_gt Y) (Qrq _ rfl))
 rw[S] at C P
 refine Qgq ⟨_,rfl,?_⟩
 refine(?_:Q (.ref d.objs.size) _)
 rw[S]
 exact q H C (B _ _ D.TOz F) (i5.at λo e=>B _ o D.i1z e) (j5.at λo e=>B _ o D.i2z e) P λc o g G K M e=>B c o g (r5 c o g G K M e)
def alive{α:Addr}{Q:Option Obj->Shared->Prop}(h:Q (s.heap.get? α) s):wpAny (model prog w) A (loadIfAlive α) Q E s:=λ_ _ _=>h
def again(D:ZipApart z T O i j a b){p:Addr}{N:Obj}{m:Value}{Q:Value->Shared->Prop}(g:kT s.heap z T O (rawInt p) m)(M:s.heap.get? p=some N)(Y:IsPair s.heap T (.ref i) (.ref j))(S:It t s.heap i a k)(Z:It t2 s.heap j b k)
  (L:Sq t s.heap a xs) (gb:Sq t2 s.heap b ys) (ex:xs[k]?=some x) (R:ys[k]?=some y)
  (q:∀h',kT h' z T O (rawInt p) (.bool true)->It t h' i a (k+1)->It t2 h' j b (k+1)->IsPair h' s.heap.objs.size x y->Zp.Rest z O i j s.heap h'->Q (.ref s.heap.objs.size) {s with heap:=h'}):
  wpAny (model prog w) A (Builtin.«zip.__next__» ⟨[.ref z],[]⟩) (λI F=>∃r,I=.done (.ret r)/\Q r F) E s:=by
 refine(?_:wpAny _ _ (field (.ref z) 2 >>= _) _ _ _)
 refine Qaq (QMq g rfl (x:=.bool false) rfl ?_)
 refine(?_:wpAny _ _ (field (.ref z) 3 >>= _) _ _ _)
 refine Qaq (QMq g rfl (x:=.ref T) rfl (Qaq (wpAny_seqItems Y rfl ?_)))
 refine(?_:wpAny _ _ (Builtin.SmallTypes.ownedTupleIsFree (.ref z) >>= _) _ _ _)
 refine Qaq ?_
 unfold Builtin.SmallTypes.ownedTupleIsFree
 refine Qaq (QMq g rfl (x:=rawInt p) rfl ?_)
 refine(?_:wpAny _ _ (loadIfAlive ((p:Int).toNat) >>= _) _ _ _)
 refine Qaq ?_
 rw[Int.toNat_natCast]
 refine alive ?_
 rw[M]
 refine(?_:wpAny _ _ (field (.ref z) 1 >>= _) _ _ _)
 refine Qaq (QMq g rfl (x:=m) rfl ?_)
 have H:wpAny (model prog w) A (if (m !=Value.bool true)=true then(do let _←setField (.ref z) 1 (.bool true);pure false) else pure false)
   (λr F=>r=false/\∃l,F={s with heap:=l}/\kT l z T O (rawInt p) (.bool true)/\Heap.SameBut z s.heap l) E s:=by
  by_cases c:(m !=Value.bool true)=true
  ·rw[Qhq c]
   exact Qaq (wpAny_setField_rec g (by simp) λl J d=>Qgq ⟨rfl,l,rfl,J,d⟩)
  ·rw[Quq c]
   have e:m=Value.bool true:=by simpa using c
   subst e
   exact Qgq ⟨rfl,s.heap,rfl,g,Heap.SameBut.refl _ _⟩
 refine QRq H (λr F G=> ?_) λ_ _ h=>h
 obtain⟨rfl,l,rfl,J,d⟩:=G
 simp only[Bool.false_eq_true,if_false]
 refine Qaq ?_
 simp only[List.forIn_toArray,List.forIn_cons,List.forIn_nil]
 refine Qaq (Qaq (QLq ?_))
 refine(?_:wpAny _ _ (Builtin.SmallTypes.nextOf (.ref i) >>= _) _ _ _)
 refine Qaq (draw (S.ext d.extBut D.i1z) (L.ext d.extBut D.l1z) ex λh2 i2 n=>Qgq (Qgq ?_))
 refine Qaq (Qaq (QLq ?_))
 refine(?_:wpAny _ _ (Builtin.SmallTypes.nextOf (.ref j) >>= _) _ _ _)
 refine Qaq (draw ((Z.ext d.extBut D.i2z).ext n.extBut D.i12.symm) ((gb.ext d.extBut D.l2z).ext n.extBut D.l2i1) R λf X C=>Qgq (Qgq (Qgq ?_)))
 refine Qaq (wpAny_newTuple ?_ (by show 2<=_;decide))
 have U:f.objs.size=s.heap.objs.size:=by rw[C.1,n.1,d.1]
 have B:∀c o,f.get? c=some o->(f.push {cls:=.type "tuple",data:=.seq #[x,y]}).get? c=some o:=λc o e=>Qcq _ e
 have K:IsPair (f.push {cls:=.type "tuple",data:=.seq #[x,y]}) f.objs.size x y:=Qrq _ rfl
 have z8:kT (f.push {cls:=.type "tuple",data:=.seq #[x,y]}) z T O (rawInt p) (.bool true):=B _ _ (C.extBut _ _ D.i2z.symm (n.extBut _ _ D.i1z.symm J))
 refine Qgq ⟨_,rfl,?_⟩
 refine(?_:Q (.ref f.objs.size) _)
 rw[U] at K⊢
 exact q _ z8 ((i2.ext C.extBut D.i12).at λo e=>B _ o e) (X.at λo e=>B _ o e) K λc o P c2 W c4 e=>B c o (C.extBut _ _ c4 (n.extBut _ _ W (d.extBut _ _ P e)))
def stop(D:ZipApart z T O i j a b){Q:Fin->Shared->Prop}(N:A.handled=none)(d:kT s.heap z T O .none (.bool false))(J:IsPair s.heap T (.ref i) (.ref j))(H:It t s.heap i a k)(C:Sq t s.heap a xs)(ex:xs[k]?=none)
  (q:∀h' e,Zp.Rest z O i j s.heap h'->(∃o,h'.get? e=some o/\o.cls=.type "StopIteration")->E (.ref e) {s with heap:=h'}):
  wpAny (model prog w) A (Builtin.«zip.__next__» ⟨[.ref z],[]⟩) Q E s:=by
 refine(?_:wpAny _ _ (field (.ref z) 2 >>= _) _ _ _)
 refine Qaq (QMq d rfl (x:=.bool false) rfl ?_)
 refine(?_:wpAny _ _ (field (.ref z) 3 >>= _) _ _ _)
 refine Qaq (QMq d rfl (x:=.ref T) rfl (Qaq (wpAny_seqItems J rfl ?_)))
 refine(?_:wpAny _ _ (Builtin.SmallTypes.ownedTupleIsFree (.ref z) >>= _) _ _ _)
 refine Qaq ?_
 unfold Builtin.SmallTypes.ownedTupleIsFree
 refine Qaq (QMq d rfl (x:=.none) rfl (Qgq ?_))
 simp only[if_true]
 refine Qaq (wpAny_rule (Qaq (QMq d rfl (x:=.ref O) rfl (Qaq (wpAny_setField_rec d (by simp) λI g f=> ?_)))))
 replace g:kT I z T O .ellipsis (.bool false):=g
 refine Qaq ?_
 simp only[List.zipIdx_cons,List.zipIdx_nil,List.forIn_nil,List.forIn_cons]
 refine Qaq (Qaq (wpAny_onRaise ?_))
 refine(?_:wpAny _ _ (Builtin.SmallTypes.nextOf (.ref i) >>= _) _ _ _)
 refine Qaq (zr N (H.ext f.extBut D.i1z) (C.ext f.extBut D.l1z) ex λK e B F=> ?_)
 obtain⟨G,h,r⟩:=F
 have m:kT K z T O .ellipsis (.bool false):=B _ _ D.i1z.symm g
 have L:e≠z:=λn=>by rw[n,m] at h;cases h;simp at r
 exact wpAny_setField_rec m (by simp) λM _ p=>q M e (λc o l _ P _ n=>p.extBut _ _ l (B _ _ P (f.extBut _ _ l n))) ⟨G,p.extBut _ _ L h,r⟩
def Ln(D:ZipApart z T O i j a b){p:Addr}{I:Obj}{g:Value}{Q:Fin->Shared->Prop}(P:A.handled=none)(d:kT s.heap z T O (rawInt p) g)(H:s.heap.get? p=some I)(L:IsPair s.heap T (.ref i) (.ref j))(K:It t s.heap i a k)(G:Sq t s.heap a xs)(ex:xs[k]?=none)
  (q:∀h' e,Zp.Rest z O i j s.heap h'->(∃o,h'.get? e=some o/\o.cls=.type "StopIteration")->E (.ref e) {s with heap:=h'}):
  wpAny (model prog w) A (Builtin.«zip.__next__» ⟨[.ref z],[]⟩) Q E s:=by
 refine(?_:wpAny _ _ (field (.ref z) 2 >>= _) _ _ _)
 refine Qaq (QMq d rfl (x:=.bool false) rfl ?_)
 refine(?_:wpAny _ _ (field (.ref z) 3 >>= _) _ _ _)
 refine Qaq (QMq d rfl (x:=.ref T) rfl (Qaq (wpAny_seqItems L rfl ?_)))
 refine(?_:wpAny _ _ (Builtin.SmallTypes.ownedTupleIsFree (.ref z) >>= _) _ _ _)
 refine Qaq ?_
 unfold Builtin.SmallTypes.ownedTupleIsFree
 refine Qaq (QMq d rfl (x:=rawInt p) rfl ?_)
 refine(?_:wpAny _ _ (loadIfAlive ((p:Int).toNat) >>= _) _ _ _)
 refine Qaq ?_
 rw[Int.toNat_natCast]
 refine alive ?_
 rw[H]
 refine(?_:wpAny _ _ (field (.ref z) 1 >>= _) _ _ _)
 refine Qaq (QMq d rfl (x:=g) rfl ?_)
 have B:wpAny (model prog w) A (if (g !=Value.bool true)=true then(do let _←setField (.ref z) 1 (.bool true);pure false) else pure false)
   (λr C=>r=false/\∃f,C={s with heap:=f}/\kT f z T O (rawInt p) (.bool true)/\Heap.SameBut z s.heap f) E s:=by
  by_cases c:(g !=Value.bool true)=true
  ·rw[Qhq c]
   exact Qaq (wpAny_setField_rec d (by simp) λf F l=>Qgq ⟨rfl,f,rfl,F,l⟩)
  ·rw[Quq c]
   have e:g=Value.bool true:=by simpa using c
   subst e
   exact Qgq ⟨rfl,s.heap,rfl,d,Heap.SameBut.refl _ _⟩
 refine QRq B (λr C m=> ?_) λ_ _ h=>h
 obtain⟨rfl,f,rfl,F,l⟩:=m
 simp only[Bool.false_eq_true,if_false]
 refine Qaq ?_
 simp only[List.forIn_toArray,List.forIn_cons,List.forIn_nil]
 refine Qaq (Qaq (QLq ?_))
 refine(?_:wpAny _ _ (Builtin.SmallTypes.nextOf (.ref i) >>= _) _ _ _)
 refine Qaq (zr P (K.ext l.extBut D.i1z) (G.ext l.extBut D.l1z) ex λM e R N=> ?_)
 exact q M e (λc o J _ S _ n=>R _ _ S (l.extBut _ _ J n)) N
def Zs(h:Heap)(z T O i j:Addr):Prop:=kT h z T O .none (.bool false)/\(∃u v,IsPair h O u v)\/∃(p:Addr) (c:Obj) (d:Value),kT h z T O (rawInt (p:Nat)) d/\h.get? p=some c/\p≠z/\p≠O/\p≠i/\p≠j
def Zs.but{h h':Heap}{S:Addr}(g:Zs h z T O i j)(f:∀c o,c≠S->h.get? c=some o->h'.get? c=some o)(e:z≠S)(B:O≠S)(F:∃o,h'.get? S=some o):Zs h' z T O i j:=by
 rcases g with⟨d,u,v,C⟩|⟨p,q,l,d,m,n⟩
 ·exact .inl ⟨f _ _ e d,u,v,f _ _ B C⟩
 ·by_cases c:p=S
  ·subst c
   obtain⟨o,r⟩:=F
   exact .inr ⟨p,o,l,f _ _ e d,r,n⟩
  ·exact .inr ⟨p,q,l,f _ _ e d,f _ _ c m,n⟩
def Gz(D:ZipApart z T O i j a b){Q:Option Value->Shared->Prop}(d:Zs s.heap z T O i j)(L:IsPair s.heap T (.ref i) (.ref j))(m:It t s.heap i a k)(n:It t2 s.heap j b k)
  (G:Sq t s.heap a xs) (M:Sq t2 s.heap b ys) (ex:xs[k]?=some x) (K:ys[k]?=some y)
  (q:∀h',Zs h' z T O i j->It t h' i a (k+1)->It t2 h' j b (k+1)->IsPair h' s.heap.objs.size x y->Zp.Rest z O i j s.heap h'->Q (some (.ref s.heap.objs.size)) {s with heap:=h'}):
  wpAny (model prog w) A (pyNext (.ref z)) Q E s:=by
 unfold pyNext
 have l:∀{c o},s.heap.get? c=some o->s.heap.objs.size≠c:=λe=>Nat.ne_of_gt (Qiq e)
 obtain⟨X,S,_⟩:=m.obj
 obtain⟨Y,W,_⟩:=n.obj
 rcases d with⟨d,u,v,P⟩|⟨p,U,Z,d,H,N,I,R,J⟩
 ·have f:s.TypeIs (.ref z) "zip":=⟨_,d,rfl⟩
  exact Qaq (wpAny_attempt (QiQ (name:=Str.ofString "__next__") f F.slot_zip_next (wpAny_call_entry F.slot_zip_next f F.entry_zip_next
   (item D d L P m n G M ex K λh' r a2 C B h g=>Qgq (q h' (.inr ⟨_,_,_,r,h,l d,l P,l S,l W⟩) C B h g)) (F.args_zip_next_1 _))))
 ·have f:s.TypeIs (.ref z) "zip":=⟨_,d,rfl⟩
  exact Qaq (wpAny_attempt (QiQ (name:=Str.ofString "__next__") f F.slot_zip_next (wpAny_call_entry F.slot_zip_next f F.entry_zip_next
   (again D d H L m n G M ex K λh' r C B h g=>Qgq (q h' (.inr ⟨p,U,_,r,g _ _ N I R J H,N,I,R,J⟩) C B h g)) (F.args_zip_next_1 _))))
def zB(D:ZipApart z T O i j a b){Q:Option Value->Shared->Prop}(n:A.handled=none)(c:Zs s.heap z T O i j)(m:IsPair s.heap T (.ref i) (.ref j))(l:It t s.heap i a k)(h:Sq t s.heap a xs)(ex:xs[k]?=none)
  (q:∀h',Zp.Rest z O i j s.heap h'->Q none {s with heap:=h'}):wpAny (model prog w) A (pyNext (.ref z)) Q E s:=by
 unfold pyNext
 rcases c with⟨c,u,v,H⟩|⟨p,C,G,c,B,_⟩
 ·have d:s.TypeIs (.ref z) "zip":=⟨_,c,rfl⟩
  exact Qaq (wpAny_attempt (QiQ (name:=Str.ofString "__next__") d F.slot_zip_next (wpAny_call_entry F.slot_zip_next d F.entry_zip_next
   (stop D n c m l h ex λh' e r ⟨o,f,g⟩=>Qaq (wpAny_isInstance (T:="StopIteration") (b:=true) ⟨o,f,g⟩ isSubtype_stop (Qgq (q _ r)))) (F.args_zip_next_1 _))))
 ·have d:s.TypeIs (.ref z) "zip":=⟨_,c,rfl⟩
  exact Qaq (wpAny_attempt (QiQ (name:=Str.ofString "__next__") d F.slot_zip_next (wpAny_call_entry F.slot_zip_next d F.entry_zip_next
   (Ln D n c B m l h ex λh' e r ⟨o,f,g⟩=>Qaq (wpAny_isInstance (T:="StopIteration") (b:=true) ⟨o,f,g⟩ isSubtype_stop (Qgq (q _ r)))) (F.args_zip_next_1 _))))
end
def Nn(t:Bool):String:=if t=true then "tuple_iterator" else "list_iterator"
abbrev H1(t:Bool)(h:Heap)(a:Addr):Heap:=h.push {cls:=.type (Nn t),data:=.fields #[.ref a,.int 0 0]}
abbrev H2(t t2:Bool)(h:Heap)(a b:Addr):Heap:=(H1 t h a).push {cls:=.type (Nn t2),data:=.fields #[.ref b,.int 0 0]}
abbrev H3(t t2:Bool)(h:Heap)(a b:Addr):Heap:=(H2 t t2 h a b).push {cls:=.type "tuple",data:=.seq #[.ref h.objs.size,.ref (H1 t h a).objs.size]}
abbrev H4(t t2:Bool)(h:Heap)(a b:Addr):Heap:=(H3 t t2 h a b).push {cls:=.type "tuple",data:=.seq #[.none,.none]}
abbrev H5(t t2:Bool)(h:Heap)(a b:Addr):Heap:=(H4 t t2 h a b).push {cls:=.type "zip",data:=.fields #[.none,.bool false,.bool false,.ref (H2 t t2 h a b).objs.size,.ref (H3 t t2 h a b).objs.size]}
def Sq.push{t:Bool}{h:Heap}{a:Addr}{xs:Array Value}(g:Sq t h a xs)(o:Obj):Sq t (h.push o) a xs:=g.at λ_ e=>Qcq _ e
def qW(t t2:Bool)(a b:Addr)(xs ys:Array Value):Meets (Builtin.«zip.__new__» ⟨[.type "zip",.ref a,.ref b],[]⟩) (λ_ R s=>Sq t s.heap a xs/\Sq t2 s.heap b ys/\R (.ok (.ret (.ref (H4 t t2 s.heap a b).objs.size))) {s with heap:=H5 t t2 s.heap a b}):=
 .of_wp λm w A R s h=>by
  obtain⟨i,g,d,e,f⟩:=s
  obtain⟨l,n,h⟩:=h
  have o:=sub_zip
  have c:=n.push {cls:=.type (Nn t),data:=.fields #[.ref a,.int 0 0]}
  cases t <;>cases t2
  ·have j:Heap.IsList (Shared.heap ⟨i,g,d,e,f⟩) a xs:=l
   have k:Heap.IsList (Shared.heap ⟨i.push {cls:=.type "list_iterator",data:=.fields #[.ref a,.int 0 0]},g,d,e,f⟩) b ys:=c
   wp_walk using wpAny_pyIter_list j,wpAny_pyIter_list k
   exact⟨_,rfl,h⟩
  ·have j:Heap.IsList (Shared.heap ⟨i,g,d,e,f⟩) a xs:=l
   have k:Heap.IsTuple (Shared.heap ⟨i.push {cls:=.type "list_iterator",data:=.fields #[.ref a,.int 0 0]},g,d,e,f⟩) b ys:=c
   wp_walk using wpAny_pyIter_list j,wpAny_pyIter_tuple k
   exact⟨_,rfl,h⟩
  ·have j:Heap.IsTuple (Shared.heap ⟨i,g,d,e,f⟩) a xs:=l
   have k:Heap.IsList (Shared.heap ⟨i.push {cls:=.type "tuple_iterator",data:=.fields #[.ref a,.int 0 0]},g,d,e,f⟩) b ys:=c
   wp_walk using wpAny_pyIter_tuple j,wpAny_pyIter_list k
   exact⟨_,rfl,h⟩
  ·have j:Heap.IsTuple (Shared.heap ⟨i,g,d,e,f⟩) a xs:=l
   have k:Heap.IsTuple (Shared.heap ⟨i.push {cls:=.type "tuple_iterator",data:=.fields #[.ref a,.int 0 0]},g,d,e,f⟩) b ys:=c
   wp_walk using wpAny_pyIter_tuple j,wpAny_pyIter_tuple k
   exact⟨_,rfl,h⟩
section
variable{prog:Program}{w:World}{A:Around}{E:Value->Shared->Prop}{s:Shared}
def Jk{t t2:Bool}{a b:Addr}{xs ys:Array Value}{Q:Value->Shared->Prop}(m:Sq t s.heap a xs)(r:Sq t2 s.heap b ys)
  (q:∀h',kT h' (s.heap.objs.size+4) (s.heap.objs.size+2) (s.heap.objs.size+3) .none (.bool false)->IsPair h' (s.heap.objs.size+2) (.ref s.heap.objs.size) (.ref (s.heap.objs.size+1))->IsPair h' (s.heap.objs.size+3) .none .none→
   It t h' s.heap.objs.size a 0->It t2 h' (s.heap.objs.size+1) b 0->(∀c o,s.heap.get? c=some o->h'.get? c=some o)->Q (.ref (s.heap.objs.size+4)) {s with heap:=h'}):
  wpAny (model prog w) A (call (.type "zip") [.ref a,.ref b]) Q E s:=by
 refine callType_new F.called_zip (by decide) (F.typeCall_zip_2 _ _) (F.newCall_zip_2 _ _) (λg=>F.args_object_init_3 g _ _) F.entry_zip_new (qW t t2 a b xs ys) ⟨m,r,?_⟩
 have d:(H1 t s.heap a).objs.size=s.heap.objs.size+1:=Heap.size_push ..
 have f:(H2 t t2 s.heap a b).objs.size=s.heap.objs.size+2:=by rw[Heap.size_push,d]
 have h:(H3 t t2 s.heap a b).objs.size=s.heap.objs.size+3:=by rw[Heap.size_push,f]
 have k:(H4 t t2 s.heap a b).objs.size=s.heap.objs.size+4:=by rw[Heap.size_push,h]
 have e:(H5 t t2 s.heap a b).get? (H4 t t2 s.heap a b).objs.size=some _:=Qrq _ rfl
 have j:(H5 t t2 s.heap a b).get? (H3 t t2 s.heap a b).objs.size=some _:=Qcq _ (Qrq _ rfl)
 have l:(H5 t t2 s.heap a b).get? (H2 t t2 s.heap a b).objs.size=some _:=Qcq _ (Qcq _ (Qrq _ rfl))
 have i:(H5 t t2 s.heap a b).get? (H1 t s.heap a).objs.size=some _:=Qcq _ (Qcq _ (Qcq _ (Qrq _ rfl)))
 have p:(H5 t t2 s.heap a b).get? s.heap.objs.size=some _:=Qcq _ (Qcq _ (Qcq _ (Qcq _ (Qrq _ rfl))))
 refine(?_:_/\_)
 rw[f,h,k] at e
 rw[d,f] at l
 rw[h] at j
 rw[d] at i
 rw[k]
 refine⟨⟨_,e,rfl⟩,q _ e l j ?_ ?_ λc o n=>Qcq _ (Qcq _ (Qcq _ (Qcq _ (Qcq _ n))))⟩
 ·cases t <;>exact⟨_,p,rfl,rfl⟩
 ·cases t2 <;>exact⟨_,i,rfl,rfl⟩
end
def qF:typeLookup (.type "zip") "__getattr__"=pure none:=by rw[typeLookup_type,builtinLookup_eq_fast];kernel_rfl
def kh:entryFor table "zip.__getattribute__"=some Builtin.«object.__getattribute__»:=
 entryFor_alias (id':="object.__getattribute__") (by kernel_rfl) (by decide +kernel) (by decide +kernel) (by kernel_rfl)
def sy:typeLookup (Value.type "zip") (Str.ofString "keys")=pure none:=by
 rw[typeLookup_type,builtinLookup_eq_fast]
 rfl
def uk(a:Addr)(fs:Array Value)(name:Str)(u:Tok)(e:typeLookup (.type "zip") name=pure none)(b:(["__module__","__name__","__qualname__","__doc__","__annotations__"]:List Str).contains name=false)(hsz:name.length+100<=sizeLine:=by size_fits):
  Meets (Builtin.«object.__getattribute__» ⟨[.ref a,.str name u],[]⟩) (λA R s=>s.heap.get? a=some {cls:=.type "zip",dict:=none,data:=.fields fs,slots:= #[]}/\raisesAttr (.ref a) name A R s):=
 Meets.of_wp λf w A R s c=>by
  obtain⟨j,g,d,h,i⟩:=s
  obtain⟨k,c⟩:=c
  have l:(⟨j,g,d,h,i⟩:Shared).TypeIs (.ref a) "zip":=⟨_,k,rfl⟩
  unfold Builtin.«object.__getattribute__»
  repeat (any_goals (first|assumption|wp_step))
  simp only[b,Bool.false_eq_true,if_false]
  repeat (any_goals (first|assumption|wp_step))
  exact wpAny_raiseAttrError c.1 c.2 (attrMsg_fits (by decide +kernel) hsz)
def EF{prog:Program}{w:World}{A:Around}{E:Value->Shared->Prop}{s:Shared}{a:Addr}{fs:Array Value}{Q:Option Value->Shared->Prop}
  (j:s.heap.get? a=some {cls:=.type "zip",dict:=none,data:=.fields fs,slots:= #[]}) (u:A.handled=none)
  (h:∀(h':Heap) (i:Nat),(∀b o,s.heap.get? b=some o->h'.get? b=some o)->Q none {s with heap:=h',toks:=i}):
  wpAny (model prog w) A (getAttr? (.ref a) (Str.ofString "keys")) Q E s:=by
 obtain⟨r,g,d,i,k⟩:=s
 have p:∀x,Shared.TypeIs ⟨r,g,d,x,k⟩ (.ref a) "zip":=λx=>⟨_,j,rfl⟩
 have l:=sub_AttributeError
 have n:=F.slot_zip_getattribute.lookup
 have v:=F.slot_zip_getattribute.bind (Value.ref a)
 have q:=qF
 unfold getAttr? mkText getAttrBy? getAttrBy
 refine Qaq (Qaq (wpAny_fresh' (Qgq (Qaq (wpAny_attempt (QLq ?_))))))
 unfold typeOf
 refine Qaq (Qaq (wpAny_loadPart' j (Qgq (Qaq (wpAny_of_eq n (QgQ rfl ?_))))))
 unfold getAttrByItsOwn hookBefore
 refine Qaq (QgQ rfl (Qgq (Qaq (wpAny_attempt (QLq ?_)))))
 unfold callGetattribute
 refine QgQ rfl ?_
 unfold boundAndCalled
 refine Qaq (wpAny_of_eq v ?_)
 refine call_meets F.slot_zip_getattribute (p (i+1)) kh (F.args_zip_getattribute_2 (Value.ref a) _) (uk a fs (Str.ofString "keys") i sy (by decide +kernel) (by decide +kernel)) ⟨j,u,λh' f e c=> ?_⟩
 obtain⟨y,z,t⟩:=c.there
 have m:Shared.TypeIs ⟨h',g,d,f,k⟩ (.ref e) "AttributeError":=⟨_,t,rfl⟩
 show wpAny _ _ (getattributeRaised _ _ _ _ _ _ _) _ _ _
 unfold getattributeRaised
 refine Qaq (wpAny_isInstance m l (wpAny_ite_true rfl ?_))
 unfold hookBehind hookOrError
 refine Qaq (QgQ rfl (wpAny_of_eq q ?_))
 show wpAny _ _ (attributeErrorLeaves _ _ _ _ _) _ _ _
 unfold attributeErrorLeaves
 refine wpAny_ite_true rfl (wpAny_throw ?_)
 exact Qaq (wpAny_isInstance m l (wpAny_ite_true rfl (Qgq (h h' f c.keeps))))
def vz{prog:Program}{w:World}{A:Around}{E:Value->Shared->Prop}{s:Shared}{z:Addr}{fs:Array Value}{Q:Value->Shared->Prop}
  (k:s.heap.get? z=some {cls:=.type "zip",dict:=none,data:=.fields fs,slots:= #[]}) (l:A.handled=none)
  (h:∀(h':Heap) (d:Nat),(∀b o,(s.heap.push {cls:=.type "dict",data:=.dict #[]}).get? b=some o->h'.get? b=some o)→
   wpAny (model prog w) A.in1.in1 (pyIter (.ref z)) (λit f=>codeAny (model prog w) A.in1 (.builtin "dict.update.loop" {pos:= [.ref s.heap.objs.size,it,rawInt 0,.none]}) (wants (λr c=>r=.none/\Q (.ref s.heap.objs.size) c) E) f) E {s with heap:=h',toks:=d}):
  wpAny (model prog w) A (call (.type "dict") [.ref z]) Q E s:=by
 refine Dk.AE ?_
 have m:=Qrq s.heap (o:={cls:=.type "dict",data:=.dict #[]}) rfl
 have g:Shared.TypeIs {s with heap:=s.heap.push {cls:=.type "dict",data:=.dict #[]}} (.ref s.heap.objs.size) "dict":=⟨_,m,rfl⟩
 have a:=Qcq {cls:=.type "dict",data:=.dict #[]} k
 have i:Shared.TypeIs {s with heap:=s.heap.push {cls:=.type "dict",data:=.dict #[]}} (.ref z) "zip":=⟨_,a,rfl⟩
 unfold Builtin.«dict.__init__» Builtin.Dict.selfAndRest
 refine Qaq (Qaq (wpAny_notOrdered_dict g ?_))
 refine Qaq (Qgq (Qgq ?_))
 show wpAny _ _ (Builtin.Dict.updateFrom _ _ _ _ _) _ _ _
 unfold Builtin.Dict.updateFrom
 refine Qaq (wpAny_typeOf i (wpAny_ite_true (by decide +kernel) (Qaq (EF a (by simpa using l) λh' d j=> ?_))))
 refine wpAny_ite_true rfl ?_
 refine Qaq (wpAny_rule (Qaq (QRq (h h' d j) (λit f q=> ?_) λe f q=>q)))
 exact Qgq ⟨plainId_quiet (by decide +kernel) _,q⟩
end Zq
namespace Zq
open PySem Dk
section
variable{prog:Program}{w:World}{K:Type}[DecidableEq K]{knd:KeyKind prog w K}{z T O i j a b S:Addr}{t t2:Bool}{xs ys:Array Value}
def BU{A:Around}{R:Result->Shared->Prop}(hA:A.in1.handled=none)(D:ZipApart z T O i j a b)(nS:S≠z/\S≠T/\S≠O/\S≠i/\S≠j/\S≠a/\S≠b)(a6:a≠T/\b≠T)(f:Nat->K)(q:∀(n:Nat) v,xs[n]?=some v->knd.is (f n) v=true)(a7:xs.size<=ys.size)(hn:xs.size<=sizeLine):
  ∀ (m n:Nat) (c:Int) (s:Shared),xs.size-n=m->n<=xs.size->Zs s.heap z T O i j->IsPair s.heap T (.ref i) (.ref j)->It t s.heap i a n->It t2 s.heap j b n->Sq t s.heap a xs->Sq t2 s.heap b ys->Heap.DictOf knd s.heap S (Kb f (λn=>ys.getD n .none) n)→
    (∀h' G,Heap.DictOf knd h' S (Kb f (λn=>ys.getD n .none) xs.size)->(∀c o,c≠z->c≠O->c≠i->c≠j->c≠S->s.heap.get? c=some o->h'.get? c=some o)->R (.ok (.ret .none)) {s with heap:=h',toks:=G})→
    codeAny (model prog w) A (.builtin "dict.update.loop" {pos:= [.ref S,.ref z,rawInt c,.none]}) R s:=by
 obtain⟨W,n2,H,U,n5,n6,n7⟩:=nS
 intro m
 induction m with
 | zero=>
   intro n c s hm a5 L C M gj y Y Q h
   have e:n=xs.size:=by omega
   subst e
   refine codeAny_builtin kO ?_
   rw[Around.under_plainId gV]
   show wpAny _ _ (do let __x←pyNext (.ref z);_) _ _ _
   refine Qaq (zB D hA L C M y (by simp) λh' r=> ?_)
   refine Qaq (Qgq (Qgq (h h' s.toks ?_ λc o g l k p _ e=>r c o g l k p e)))
   obtain⟨o,es,Z,N,X⟩:=Q
   exact⟨o,es,Z,r _ _ W H U n5 N,X⟩
 | succ m ih=>
   intro n c s hm a5 L C M gj y Y Q h
   have x:n<xs.size:=by omega
   have ex:xs[n]?=some xs[n]:=by simp[x]
   have ey:ys[n]?=some ys[n]:=by simp[show n<ys.size by omega]
   refine codeAny_builtin kO ?_
   rw[Around.under_plainId gV]
   show wpAny _ _ (do let __x←pyNext (.ref z);_) _ _ _
   refine Qaq (Gz D L C M gj y Y ex ey λhp a1 a2 a0 gp r=> ?_)
   have a3:Heap.DictOf knd hp S (Kb f (λn=>ys.getD n .none) n):=by
     obtain⟨o,es,Z,N,X⟩:=Q
     exact⟨o,es,Z,r _ _ W H U n5 N,X⟩
   refine Qaq (QLq (Qaq (wpAny_tryCatch ?_)))
   unfold Builtin.Dict.pairItems
   refine Qaq (wpAny_typeOf (T:="tuple") ⟨_,gp,rfl⟩ (wpAny_ite_true rfl (Qaq ?_)))
   unfold seqItems?
   refine Qaq (wpAny_load' gp (Qgq (Qgq (QLq (wpAny_dictSet_pairs (q n _ ex) a3 (λh' u hs=> ?_) (QAq (C1 f _ n) (by omega)))))))
   have ev:ys.getD n .none=ys[n]:=by simp[Array.getD,show n<ys.size by omega]
   have B:∀c o,c≠S->hp.get? c=some o->h'.get? c=some o:=λc o hc e=>by rw[hs.2 c hc];exact e
   have d:∀c o,c≠z->c≠O->c≠i->c≠j->c≠S->s.heap.get? c=some o->h'.get? c=some o:=λc o g l k p F e=>B c o F (r c o g l k p e)
   have P:∃o,h'.get? S=some o:=by obtain⟨o,_,_,e,_⟩:=u;exact⟨o,e⟩
   have I:Heap.DictOf knd h' S (Kb f (λn=>ys.getD n .none) (n+1)):=by
     show Heap.DictOf knd h' S (stored _ (f n) (ys.getD n .none))
     rw[ev]
     exact u
   refine Qgq ⟨plainId_quiet gV _,ih (n+1) (c+1) _ (by omega) x (a1.but B W.symm H.symm P) ?_ (a2.at λo e=>B _ o U.symm e) (a0.at λo e=>B _ o n5.symm e) ?_ ?_ I λa4 G J k4=>h a4 G J λc o g l k p F e=>k4 c o g l k p F (d c o g l k p F e)⟩
   · exact d _ _ D.TIz D.TITO D.TIi1 D.TIi2 n2.symm C
   · exact y.at λo e=>d _ o D.l1z D.l1TO D.l1i1 D.l1i2 n6.symm e
   · exact Y.at λo e=>d _ o D.l2z D.l2TO D.l2i1 D.l2i2 n7.symm e
end
end Zq
namespace L2
open PySem PySem.Spec PyProof.Rows Zq
section
variable{X:Cx}
def qe(K:PySem.W.Frag)(t:Bool)(H:Hp)(a:Addr)(xs:List V):Prop:=if t=true then gW K H a xs else iX K H a xs
def Inv.sq{c:List (Addr×Obj)}{d:St}{H:Hp}{s:Shared}{t:Bool}{a:Addr}{xs:List V}(I:Inv X c d H s)(h:qe X.K t H a xs):∃b:List Value,bM xs b/\Sq t s.heap a b.toArray/\xs.length<=sizeLine:=by
 cases t with
 | true=>
   obtain⟨b,r,p,z⟩:=I.tuple h
   exact⟨b,r,(show s.heap.IsTuple a b.toArray from p),z⟩
 | false=>
   obtain⟨b,r,p,z⟩:=I.list h
   exact⟨b,r,(show s.heap.IsList a b.toArray from p.isList),z⟩
def Sq.lt{t:Bool}{h:Heap}{a:Addr}{xs:Array Value}(g:Sq t h a xs):a<h.objs.size:=by
 cases t with
 |true=>obtain⟨o,e,_⟩:=(show h.IsTuple a xs from g);exact Qiq e
 |false=>obtain⟨o,e,_⟩:=(show h.IsList a xs from g);exact Qiq e
def J6(K:PySem.W.Frag):List V->Hp->VK->Prop:=λf H Q=>∃(t e:Bool) (a b:Addr) (c:List Key) (d:List V),f= [.ref a,.ref b]/\qe K t H a (c.map kV)/\qe K e H b d/\c.length=d.length/\∀p,H p=none->Q (.ref p) (upd H p (.dK (j6 [] (c.zip d))))
def Ca{x y:Expr}{ta:TA}{p1 R c1 P:Pos}(B:X.calm=true)(a1:Gl X "dict")(a0:X.mg "dict"=none)(hg:Gl X "zip")(hm:X.mg "zip"=none)(ha:PA X [x,y] ta)(hs:starEach [x,y] X.env= [(false,eval x X.env),(false,eval y X.env)]:=by rfl)(N:starEach [y] X.env= [(false,eval y X.env)]:=by rfl)
  (he:starEach [Expr.Call (.Name "zip" R) [x,y] [] P] X.env= [(false,eval (Expr.Call (.Name "zip" R) [x,y] [] P) X.env)]:=by rfl):
  PE X (.Call (.Name "dict" p1) [.Call (.Name "zip" R) [x,y] [] P] [] c1) (M8 (J6 X.K) ta):=by
 intro C s σ H Q I h
 refine wpAny_Call_Name_kw (kz I a1 a0 (by rfl) ?_)
 refine PyProof.Rows.callWith_type1 ?_ he rfl
 rw[he]
 show wpAny _ _ (spliced ((false,eval (Expr.Call (.Name "zip" R) [x,y] [] P) X.env)::backTo c1 (starEach [] X.env))) _ _ s
 refine Calls.spliced_cons ?_
 refine wpAny_Call_Name_kw (kz I hg hm (by rfl) ?_)
 refine PyProof.Rows.callWith_type1 (df (ha P C s σ H _ I h) λus j ⟨vs,H1,F,r1,q1⟩=> ?_) (by rw[hs,N]) (by rw[N];rfl)
 obtain⟨t,t2,a,b,d,ys,e,qa,qb,hl,q⟩:=q1
 subst e
 cases r1 with
 | cons r rr=>
   cases rr with
   | cons r' rr=>
     cases rr
     cases r
     cases r'
     obtain⟨z,ra,pa,za⟩:=F.sq qa
     obtain⟨m,rb,pb,zb⟩:=F.sq qb
     have Z:=Sq.lt pa
     have ly:=Sq.lt pb
     have la:=ra.length
     have lb:=rb.length
     rw[lQm] at la
     refine Zq.Jk pa pb λg W gT gO gi gj S=>Calls.spliced_nil ?_
     have I2:Inv X C σ H1 {j with heap:=g}:=F.kept (t':=j.toks) S
     refine Zq.vz W (F.ok.hd B) λU tk k2=> ?_
     have p:∀c o,g.get? c=some o->U.get? c=some o:=λc o e=>k2 c o (Qcq _ e)
     have a5:U.get? g.objs.size=some {cls:=.type "dict",data:=.dict #[]}:=k2 _ _ (Qrq g rfl)
     refine wpAny_pyIter_zip (p _ _ W) ?_
     have DD:=PyProof.Rows.zipApart_new Z ly
     have f:j.heap.objs.size+4<g.objs.size:=Qiq W
     have L:∀(n:Nat) k,d[n]?=some k->d.getD n (.inl 0)=k:=λn k e=>by rw[Qlq,e];rfl
     have G:∀c,c<j.heap.objs.size->c≠j.heap.objs.size+4/\c≠j.heap.objs.size+3/\c≠j.heap.objs.size/\c≠j.heap.objs.size+1/\c≠g.objs.size:=λc B=>
       ⟨Qwq (Qqq B (Nat.le_add_right _ _)),Qwq (Qqq B (Nat.le_add_right _ _)),Qwq B,Qwq (Qqq B (Nat.le_add_right _ _)),Qwq (Nat.lt_trans (Qqq B (Nat.le_add_right _ 4)) f)⟩
     refine Zq.BU (knd:=bZ X.prog X.w) (t:=t) (t2:=t2) (xs:=z.toArray) (ys:=m.toArray) (show X.A.in1.in1.handled=none from F.ok.hd B) DD ?_ ?_ (λn=>d.getD n (.inl 0)) ?_ (by simp;omega) (by simp;omega) z.toArray.size 0 0 _ rfl (Nat.zero_le _)
       (.inl ⟨p _ _ W,_,_,p _ _ gO⟩) (p _ _ gT) (gi.at λo e=>p _ o e) (gj.at λo e=>p _ o e) (pa.at λo e=>p _ o (S _ o e)) (pb.at λo e=>p _ o (S _ o e)) ?_ ?_
     · refine⟨Nat.ne_of_gt f,Nat.ne_of_gt (Nat.lt_trans ?_ f),Nat.ne_of_gt (Nat.lt_trans ?_ f),Nat.ne_of_gt (Nat.lt_trans ?_ f),Nat.ne_of_gt (Nat.lt_trans ?_ f),(G _ Z).2.2.2.2.symm,(G _ ly).2.2.2.2.symm⟩ <;>(show _<j.heap.objs.size+4) <;>omega
     · exact⟨Qwq (Qqq Z (Nat.le_add_right _ _)),Qwq (Qqq ly (Nat.le_add_right _ _))⟩
     · intro n v hv
       have J:z[n]?=some v:=by simpa using hv
       have hn:n<d.length:=by
         have:=(gQs.mp J).1
         omega
       have M:=gQe hn
       obtain⟨u,Y,ru⟩:=ra.get (i:=n) (x:=kV d[n]) (by rw[gQm,M];rfl)
       rw[J] at Y
       cases Y
       show(bZ X.prog X.w).is (d.getD n (.inl 0)) v=true
       rw[L n _ M]
       exact key_is ru _ _
     · obtain⟨o,es,ep,e1,e2⟩:=Heap.DictOf.new (knd:=bZ X.prog X.w) g
       exact⟨o,es,ep,k2 _ _ e1,e2⟩
     · intro h3 a3 dd k3
       have a4:g.objs.size≠sysModules:=by
         have:=I2.big
         exact Nat.ne_of_gt this
       have le:j.heap.objs.size<=g.objs.size:=nQl (Nat.lt_of_le_of_lt (Nat.le_add_right _ 4) f)
       refine⟨rfl,.ref g.objs.size,_,F.laid (a:=g.objs.size) (o:=.dK (j6 [] (d.zip ys))) (t':=a3) (h':=h3) (λc o e=> ?_) le (uX ?_ (beq_eq_false_iff_ne.mpr a4) ?_ dd),rfl,q _ (F.hok.fresh le)⟩
       · obtain⟨o1,o2,o3,o4,o5⟩:=G c (Qiq e)
         exact k3 c o o1 o2 o3 o4 o5 (p c o (S c o e))
       · have:=jo (d.zip ys) []
         rw[QGq,List.length_zip] at this
         omega
       · have a2:∀n,n<=d.length->KV (j6 [] ((d.zip ys).take n)) (Dk.Kb (λn=>d.getD n (.inl 0)) (λn=>m.toArray.getD n .none) n):=by
           intro n
           induction n with
           |zero=>intro _;exact .nil
           | succ n ih=>
             intro hn
             have M:=gQe (l:=d) (i:=n) (by omega)
             have hy:=gQe (l:=ys) (i:=n) (by omega)
             obtain⟨u,Y,ru⟩:=rb.get hy
             have ez:(d.zip ys)[n]?=some (d[n],ys[n]):=by rw[List.getElem?_zip_eq_some];exact⟨M,hy⟩
             have e3:(d.zip ys).take (n+1)=(d.zip ys).take n++ [(d[n],ys[n])]:=by rw[QYq,ez];rfl
             have eu:m.toArray.getD n .none=u:=by
               have:=(gQs.mp Y)
               obtain⟨g,U⟩:=this
               simp[Array.getD,g,U]
             rw[e3]
             show KV (List.foldl _ [] ((d.zip ys).take n++ [(d[n],ys[n])])) (stored _ (d.getD n (.inl 0)) (m.toArray.getD n .none))
             rw[List.foldl_append,L n _ M,eu]
             exact(ih (by omega)).put d[n] ru
         have:=a2 d.length (Qmq _)
         have e4:(d.zip ys).take d.length=d.zip ys:=by
           have:(d.zip ys).length=d.length:=by rw[List.length_zip];omega
           rw[←this,QEq]
         rw[e4] at this
         have e5:z.toArray.size=d.length:=by simp;omega
         rw[e5]
         exact this
end
end L2
namespace Zq
open PySem
section
variable{prog:Program}{w:World}{A:Around}{E:Value->Shared->Prop}{s:Shared}{t t2:Bool}{z T O i j a b:Addr}{k:Nat}{xs ys:Array Value}{x y u v:Value}
def Ek(D:ZipApart z T O i j a b){Q:Option Value->Shared->Prop}(d:kT s.heap z T O .none (.bool false))(l:IsPair s.heap T (.ref i) (.ref j))(C:IsPair s.heap O u v)(g:It t s.heap i a k)(m:It t2 s.heap j b k)
  (e:Sq t s.heap a xs) (n:Sq t2 s.heap b ys) (ex:xs[k]?=some x) (f:ys[k]?=some y)
  (q:∀h',kT h' z T O (rawInt s.heap.objs.size) (.bool false)->IsPair h' O x y->It t h' i a (k+1)->It t2 h' j b (k+1)->IsPair h' s.heap.objs.size x y->Zp.Rest z O i j s.heap h'->Q (some (.ref s.heap.objs.size)) {s with heap:=h'}):
  wpAny (model prog w) A (pyNext (.ref z)) Q E s:=by
 have c:s.TypeIs (.ref z) "zip":=⟨_,d,rfl⟩
 unfold pyNext
 exact Qaq (wpAny_attempt (QiQ (name:=Str.ofString "__next__") c F.slot_zip_next (wpAny_call_entry F.slot_zip_next c F.entry_zip_next
  (item D d l C g m e n ex f λh' p r G B o h=>Qgq (q h' p r G B o h)) (F.args_zip_next_1 _))))
end
end Zq
namespace L2
open PySem PySem.Spec PyProof.Rows Zq
def Inv.sq_inj{X:Cx}{b:List (Addr×Obj)}{c:St}{H:Hp}{s:Shared}{t:Bool}{a:Addr}{xs ys:List V}(I:Inv X b c H s)(h:qe X.K t H a xs)(h':qe X.K t H a ys):xs=ys:=by
 cases t with
 |true=>exact I.tuple_inj h h'
 |false=>exact I.list_inj h h'
def OL(K:PySem.W.Frag)(t t2:Bool)(a b:Addr):It:=
  ⟨λi H=>∃c d x y,qe K t H a c/\qe K t2 H b d/\c[i]?=some x/\d[i]?=some y,
   λi H v e=>∃p,v=.ref p/\H p=none/\∀c d x y,qe K t H a c->qe K t2 H b d->c[i]?=some x->d[i]?=some y->e=upd H p (.tup [x,y]),
   λi H=>∃c,qe K t H a c/\c.length<=i⟩
def DP{P:Program}{w:World}{K:PySem.W.Frag}{C:List Expr}{x1:Nat}{tp:Pos}{t t2:Bool}{z T O i j a b:Addr}(D:ZipApart z T O i j a b):
  Turn P w K (.Tuple C x1 tp) (OL K t t2 a b) [z,T,O,i,j] z (λn h=>kT h z T O .none (.bool false)/\IsPair h T (.ref i) (.ref j)/\(∃u v,IsPair h O u v)/\Zq.It t h i a n/\Zq.It t2 h j b n) where
 mem:=by simp
 obj:=λn h ⟨f,g,⟨u,v,m⟩,l,q⟩ c d=>by
  simp at d
  rcases d with rfl|rfl|rfl|rfl|rfl
  ·exact⟨_,f,λv n=>by cases n⟩
  ·exact⟨_,g,λv n=>by cases n⟩
  ·exact⟨_,m,λv n=>by cases n⟩
  ·exact l.obj
  ·exact q.obj
 keep:=λn h h' ⟨f,g,⟨u,v,m⟩,l,q⟩ k=>⟨k z (by simp) _ f,k T (by simp) _ g,⟨u,v,k O (by simp) _ m⟩,l.at λo e=>k i (by simp) o e,q.at λo e=>k j (by simp) o e⟩
 item:=by
  rintro X M U R d n p s σ H E I F ⟨f,g,⟨u,v,m⟩,l,q⟩ N
  subst M U R
  obtain⟨xs,ys,x,y,J,qb,S,hy⟩:=N
  obtain⟨Y,L,pa,_⟩:=I.sq J
  obtain⟨a0,rb,pb,_⟩:=I.sq qb
  obtain⟨ux,ex,rx⟩:=L.get S
  obtain⟨uy,ey,ry⟩:=rb.get hy
  have B:∀{c o},s.heap.get? c=some o->c≠s.heap.objs.size:=λe=>Qwq (Qiq e)
  have A:∀c∈[z,T,O,i,j],c≠s.heap.objs.size:=λc d=>by
   obtain⟨oi,e1,_⟩:=l.obj
   obtain⟨oj,e2,_⟩:=q.obj
   simp at d
   rcases d with rfl|rfl|rfl|rfl|rfl
   ·exact B f
   ·exact B g
   ·exact B m
   ·exact B e1
   ·exact B e2
  refine Zq.Ek D f g m l q pa pb (x:=ux) (y:=uy) (by simpa using ex) (by simpa using ey) λh1 z1 O1 i1 j1 n1 G=>⟨_,rfl,?_⟩
  have T1:=G _ _ D.TIz D.TITO D.TIi1 D.TIi2 g
  refine wpAny_letOwnedTupleGo_zip z1 λh2 z2 r=> ?_
  have I2:Inv X p σ (upd H s.heap.objs.size (.tup [x,y])) {s with heap:=h2}:=I.turnedNew (t':=s.toks) (fp:= [z,T,O,i,j]) F (λc o d e=> ?_) (Qmq _) ?_
  ·refine⟨.ref s.heap.objs.size,_,I2,rfl,⟨s.heap.objs.size,rfl,I.hok.fresh (Qmq _),λa1 a2 x' y' q1 q2 Z Q=> ?_⟩,⟨z2,r.extBut _ _ D.TIz T1,⟨_,_,r.extBut _ _ D.TOz O1⟩,i1.ext r.extBut D.i1z,j1.ext r.extBut D.i2z⟩,λc d=> ?_⟩
   ·rw[I.sq_inj q1 J] at Z
    rw[I.sq_inj q2 qb] at Q
    rw[S] at Z
    rw[hy] at Q
    cases Z
    cases Q
    rfl
   ·rw[bo (A c d)]
    exact(F c d).1
  ·simp at d
   exact r.extBut _ _ d.1 (G c o d.1 d.2.2.1 d.2.2.2.1 d.2.2.2.2 e)
  ·exact⟨by show 2<=_;decide,[ux,uy],.cons rx (.cons ry .nil),_,r.extBut _ _ (λe=>A z (by simp) e.symm) n1,rfl,rfl,0,rfl⟩
 done:=by
  rintro X M U R d n p s σ H E I F ⟨f,g,⟨u,v,m⟩,l,q⟩ N
  subst M U R
  obtain⟨xs,J,S⟩:=N
  obtain⟨Y,L,pa,_⟩:=I.sq J
  have hl:=L.length
  refine Zq.zB D (I.ok.hd d) (.inl ⟨f,u,v,m⟩) g l pa (by simp;omega) λh1 G=>⟨rfl,I.turnedL (t':=s.toks) (fp:= [z,T,O,i,j]) F λc o d e=> ?_⟩
  simp at d
  exact G c o d.1 d.2.2.1 d.2.2.2.1 d.2.2.2.2 e
 self:=λ_ _ _ _ _ ⟨f,_⟩ h=>wpAny_pyIter_zip f h
section
variable{X:Cx}
def OU(K:PySem.W.Frag)(g:TA):TI:=λe H R=>g e H λh H1=>∃(t c:Bool) (a b:Addr) (d f:List V),h= [.ref a,.ref b]/\qe K t H1 a d/\qe K c H1 b f/\R (OL K t c a b) H1
def GZ{i:List Expr}{W:Nat}{Z:Pos}{a b:Expr}{w:TA}{p pos:Pos}(G:Gl X "zip")(Y:X.mg "zip"=none)(N:PA X [a,b] w)(L:starEach [a,b] X.env= [(false,eval a X.env),(false,eval b X.env)]:=by rfl)(g:starEach [b] X.env= [(false,eval b X.env)]:=by rfl):
  PI X (.Tuple i W Z) (.Call (.Name "zip" p) [a,b] [] pos) (OU X.K w):=by
 intro f s S H R I h
 refine Call_ (kz I G Y (by rfl) (PyProof.Rows.callWith_type1 (df (N pos f s S H _ I h) λus u ⟨vs,H1,d,F,J⟩=> ?_) (by rw[L,g]) (by rw[g];rfl)))
 obtain⟨t,t2,x,y,xs,ys,e,U,qb,q⟩:=J
 subst e
 cases F with
 | cons r j=>
   cases j with
   | cons M j=>
     cases j
     cases r
     cases M
     obtain⟨B,ra,v,_⟩:=d.sq U
     obtain⟨z,rb,n,_⟩:=d.sq qb
     have A:=Sq.lt v
     have ly:=Sq.lt n
     refine Zq.Jk v n λh' l P gO C Q k=> ?_
     refine wpAny_pyIter_zip l ⟨_,_,_,_,H1,rfl,d.kept (t':=u.toks) k,DP (PyProof.Rows.zipApart_new A ly),⟨l,P,⟨_,_,gO⟩,C,Q⟩,λc m=> ?_,q⟩
     have o:u.heap.objs.size<=c:=by
       simp only[Qsq,QXq,or_false] at m
       rcases m with e|e|e|e|e <;>(rw[e];first|exact Qmq _|exact Nat.le_add_right _ _)
     exact d.fpOk o (d.hok.fresh o)
end
end L2
namespace DL
open PySem PySem.Spec PyProof.Rows L2
def A6.sqB{M:Md}{ρ:List Addr}{H:Hp}{a:Addr}{vs:List V}{t:Tag}(h:A6 M ρ H a vs t):L2.qe M.K (!t.isL) H a vs:=by
 cases c:t.isL with
 |true=>exact h.sqL c
 |false=>exact h.sqT c
def z_(xs ys:List D):List D:=List.zipWith (λx y=>D.tup [x,y]) xs ys
open Classical in
def Eb(f g:dF):vw:=λa S=>(f a S).bind λ(p,c)=>(g a c).bind λ(r,b)=>if p.2.stays b p.1/\p.1.length<=r.1.length then some ((z_ p.1 r.1,λS=>p.2.stays S p.1/\r.2.stays S r.1),b) else none
section
variable{X:Cx}{a b c e:Expr}{pos:Pos}{st:Stmt}
def Jn{n:List Expr}{s:Nat}{tp p:Pos}{f g:dF}(hg:Gl X "zip")(hm:X.mg "zip"=none)(ha:PE X a (tQ (md X) f))(hb:PE X b (tQ (md X) g))(P:starEach [a,b] X.env= [(false,eval a X.env),(false,eval b X.env)]:=by rfl)(j:starEach [b] X.env= [(false,eval b X.env)]:=by rfl):
  PI X (.Tuple n s tp) (.Call (.Name "zip" p) [a,b] [] pos) (tI (md X) (Eb f g)):=LJ (GZ hg hm (cP ha (cP hb fq j) (by rw[P,j])) P j) λσ H R ⟨ρ,N,S,ds,W,S',ok,e,q⟩=>by
 obtain⟨⟨⟨o,t1⟩,K⟩,e1,e⟩:=av e
 obtain⟨⟨⟨l,t2⟩,S2⟩,e2,e⟩:=av e
 dsimp only at e
 split at e
 ·rename_i c
  obtain⟨e3,rfl⟩:=cv e
  obtain⟨rfl,rfl⟩:=Prod.mk.inj e3
  refine⟨ρ,N,S,o,t1,K,ok,e1,λt a1 a0 H1 s B h1 r1=>⟨t,N,K,l,t2,S2,ok.to s B,e2,λa3 b1 ws H2 L m Q r2=> ?_⟩⟩
  obtain⟨F,U,r3⟩:=h1.to r1 L m c.1
  refine⟨_,_,a1,b1,F,ws,rfl,U.sqB,Q.sqB,q _ _ _ (s.trans L) m λi a2 S3 H3 I k w=> ?_⟩
  obtain⟨C,G,J⟩:=U.to r3 I k w.1
  obtain⟨M,Y,g4⟩:=Q.to r2 I k w.2
  refine⟨λd h=> ?_,λhi=>⟨C,G.sqB,?_⟩⟩
  ·unfold z_ at h
   rw[List.getElem?_zipWith] at h
   cases r:o[i]? with
   |none=>rw[r] at h;cases h
   | some x=>
     cases A:l[i]? with
     |none=>rw[r,A] at h;cases h
     | some y=>
       rw[r,A] at h
       cases h
       obtain⟨u,hu,ru⟩:=J.get r
       obtain⟨z,Z,rz⟩:=g4.get A
       refine⟨⟨C,M,u,z,G.sqB,Y.sqB,hu,Z⟩,λv H4 hv=> ?_⟩
       obtain⟨p,rfl,hp,hq⟩:=hv
       have:=hq C M u z G.sqB Y.sqB hu Z
       subst this
       exact⟨cq.laid hp,k.lay hp,.tup bN ((bf.cons ru (.cons rz .nil)).ext (cq.laid hp))⟩
  ·rw[hi]
   unfold z_
   rw[List.length_zipWith,J.length.symm]
   have:=c.2
   omega
 ·cases e
end
def vS:D->Option Key
 |.int i=>some (.inl i)
 |.str x=>some (.inr x)
 |_=>none
def tF{M:Md}{ρ:List Addr}{H:Hp}{d:D}{v:V}{k:Key}(r:Rel M ρ H d v)(e:vS d=some k):v=kV k:=by
 cases r <;>simp[vS] at e <;>subst e <;>rfl
def As:List D->Option (List Key)
 | []=>some []
 |d::r=>(vS d).bind λk=>(As r).bind λa=>some (k::a)
theorem AH{M:Md}{ρ:List Addr}{H:Hp}:∀{ds:List D} {vs:List V} {a:List Key},bf M ρ H ds vs->As ds=some a->vs=a.map kV
 |_,_,_,.nil,e=>by cases e;rfl
 | _,_,_,.cons h hs,e=>by
   obtain⟨k,b,e⟩:=av e
   obtain⟨a,c,e⟩:=av e
   cases e
   rw[tF h b,AH hs c]
   rfl
def um(kvs:List (Key×D))(k:Key):Option D:=(kvs.find? λa=>decide (a.1=k)).map (·.2)
def putD(kvs:List (Key×D))(k:Key)(v:D):List (Key×D):=
 if (kvs.any λa=>decide (a.1=k))=true then kvs.map (λa=>if a.1=k then(a.1,v) else a) else kvs++ [(k,v)]
def c7(kvs more:List (Key×D)):List (Key×D):=more.foldl (λa b=>putD a b.1 b.2) kvs
section
variable{M:Md}{ρ:List Addr}{H:Hp}
theorem cx.append:∀{l m:List (Key×D)} {kv kw:List (Key×V)},cx M ρ H l kv->cx M ρ H m kw->cx M ρ H (l++m) (kv++kw)
 | [],_,_,_,h,h'=>by cases h;exact h'
 |(_,_)::_,_,_,_,⟨v,t,e,h,hs⟩,h'=>by subst e;exact⟨v,_,rfl,h,cx.append hs h'⟩
theorem cx.any:∀{l:List (Key×D)} {kv:List (Key×V)} (k:Key),cx M ρ H l kv->(l.any λp=>decide (p.1=k))=kv.any λp=>decide (p.1=k)
 | [],_,_,h=>by cases h;rfl
 |(_,_)::_,_,k,⟨v,t,e,h,hs⟩=>by subst e;simp only[List.any_cons,cx.any k hs]
theorem cx.mapP{d:D}{v:V}{k:Key}(r:Rel M ρ H d v):∀{l:List (Key×D)} {kv:List (Key×V)},cx M ρ H l kv->cx M ρ H (l.map λp=>if p.1=k then(p.1,d) else p) (kv.map λp=>if p.1=k then(p.1,v) else p)
 | [],_,h=>by cases h;rfl
 | (k',_)::_,_,⟨u,t,e,h,hs⟩=>by
   subst e
   simp only[QDq]
   by_cases c:k'=k
   · simp only[c,if_true];exact⟨v,_,rfl,r,cx.mapP r hs⟩
   · simp only[c,if_false];exact⟨u,_,rfl,h,cx.mapP r hs⟩
def cx.put{l:List (Key×D)}{kv:List (Key×V)}{k:Key}{d:D}{v:V}(h:cx M ρ H l kv)(r:Rel M ρ H d v):cx M ρ H (putD l k d) (putK kv k v):=by
 unfold putD putK
 rw[h.any k]
 split
 ·exact h.mapP r
 ·exact h.append ⟨v,[],rfl,r,rfl⟩
theorem cx.merge:∀{m:List (Key×D)} {kw:List (Key×V)} {l:List (Key×D)} {kv:List (Key×V)},cx M ρ H m kw->cx M ρ H l kv->cx M ρ H (c7 l m) (j6 kv kw)
 | [],_,_,_,h,h'=>by cases h;exact h'
 | (k,d)::m,_,_,_,⟨v,t,e,h,hs⟩,h'=>by
   subst e
   unfold c7 j6
   rw[List.foldl_cons,List.foldl_cons]
   exact cx.merge (m:=m) (kw:=t) hs (h'.put h)
theorem cx.zip:∀{a:List Key} {ds:List D} {vs:List V},bf M ρ H ds vs->cx M ρ H (a.zip ds) (a.zip vs)
 | [],_,_,_=>rfl
 |_::_,_,_,.nil=>rfl
 |k::a,_,_,.cons h hs=>⟨_,_,rfl,h,cx.zip hs⟩
theorem cx.val:∀{l:List (Key×D)} {kv:List (Key×V)} {k:Key} {d:D},cx M ρ H l kv->um l k=some d->∃v,qD kv k=some v/\Rel M ρ H d v
 | [],_,_,_,_,e=>by cases e
 | (k',d')::_,_,k,d,⟨v,t,e,h,hs⟩,e'=>by
   subst e
   unfold um at e'
   unfold qD
   rw[List.find?_cons] at e'⊢
   by_cases c:k'=k
   · simp only[c,decide_true] at e'⊢
     cases e'
     exact⟨v,rfl,h⟩
   · simp only[c,decide_false] at e'⊢
     exact cx.val hs e'
def cx.ext'{a:List Addr}{b:Hp}{l:List (Key×D)}{kv:List (Key×V)}(h:cx M ρ H l kv)(e:cq ρ H a b):cx M a b l kv:=h.imp λ_ _ r=>r.ext e
def cx.pre'{a:List Addr}{l:List (Key×D)}{kv:List (Key×V)}(h:cx M ρ H l kv)(e:ρ <+: a):cx M a H l kv:=h.imp λ_ _ r=>r.pre e
end
section
variable{X:Cx}{a b c e:Expr}{pos:Pos}{st:Stmt}
def Mf{M:Md}{ρ d:List Addr}{H h:Hp}{m:aF}{l:List (Key×D)}{kv:List (Key×V)}{p:Addr}{Q:VK}(x:cq ρ H d h)(st:fR M d m h)(j:h p=none)(r:cx M d h l kv)
  (q:∀f v g,cq ρ H f g->fR M f (m++ [.dct l]) g->Rel M f g (.ref m.length) v->Q v g):Q (.ref p) (upd h p (.dK kv)):=by
 have s:p∉d:=dv x st j
 have k:cq d h d (upd h p (.dK kv)):=cq.laid j
 have n:=(st.lay (u:=.dK kv) j).box (o:=.dct l) s ⟨kv,bN,(r.ext' k).pre' (List.prefix_append _ _)⟩
 refine q (d++ [p]) (.ref p) _ ⟨x.pre.trans (List.prefix_append _ _),λc i=> ?_,(x.trans k).keep,(x.trans k).grow⟩ n (.ref ?_)
 ·rcases mQa.mp i with i|i
  ·exact x.new c i
  ·rw[Qfq] at i;subst i;exact .inr (x.grow _ j)
 ·rw[←st.len,QQq (Qmq _)]
  simp
open Classical in
def Li(f g:dF):bE:=λh S=>(f h S).bind λ(p,j)=>(g h j).bind λ(r,d)=>if p.2.stays d p.1/\p.1.length=r.1.length then(As p.1).bind λi=>some (.ref d.length,d++ [.dct (c7 [] (i.zip r.1))]) else none
def K6{p1 j G s:Pos}{f g:dF}(M:X.calm=true)(n:Gl X "dict")(m:X.mg "dict"=none)(L:Gl X "zip")(hm:X.mg "zip"=none)(W:PE X a (tQ (md X) f))(hb:PE X b (tQ (md X) g))(w:starEach [a,b] X.env= [(false,eval a X.env),(false,eval b X.env)]:=by rfl)(h:starEach [b] X.env= [(false,eval b X.env)]:=by rfl)
  (he:starEach [Expr.Call (.Name "zip" j) [a,b] [] s] X.env= [(false,eval (Expr.Call (.Name "zip" j) [a,b] [] s) X.env)]:=by rfl):
  PE X (.Call (.Name "dict" p1) [.Call (.Name "zip" j) [a,b] [] s] [] G) (tD (md X) (Li f g)):=kN (Ca M n m L hm (cP W (cP hb fq h) (by rw[w,h])) w h he) λσ H Q ⟨ρ,u,S,d,S',ok,e,q⟩=>by
 obtain⟨⟨⟨t,t1⟩,A⟩,C,e⟩:=av e
 obtain⟨⟨⟨r,F⟩,Z⟩,U,e⟩:=av e
 dsimp only at e
 split at e
 ·rename_i c
  obtain⟨ks,e3,e⟩:=av e
  obtain⟨rfl,rfl⟩:=cv e
  refine⟨ρ,u,S,t,t1,A,ok,C,λk a1 a2 H1 y o K J=>⟨k,u,A,r,F,Z,ok.to y o,U,λI B R H2 x i Y z=> ?_⟩⟩
  obtain⟨a0,h3,v⟩:=K.to J x i c.1
  have P:=AH v e3
  subst P
  have hl:=v.length
  rw[lQm] at hl
  refine⟨_,_,a1,B,ks,R,rfl,h3.sqB,Y.sqB,by rw[←hl,←z.length];exact c.2,λp N=> ?_⟩
  exact Mf (y.trans x) i N (cx.merge (l:= []) (cx.zip z) rfl) q
 ·cases e
def NC:bE:=λ_ S=>some (.ref S.length,S++ [.dct []])
def Nr:PE X (.Dict [] [] pos) (tD (md X) NC):=kN E3 λh H Q g=>by
 obtain⟨k,i,S,d,j,ok,e,q⟩:=g
 obtain⟨rfl,rfl⟩:=cv e
 exact λp f=>Mf cq.refl ok.st f (l:= []) (kv:= []) rfl q
def LO(f g:bE):bE:=λh S=>(f h S).bind λ(x,m)=>(g h m).bind λ(y,i)=>match x with
 | .ref k=>match i[k]? with
   |some (.dct l)=>(vS y).bind λj=>(um l j).bind λd=>some (d,i)
   |_=>none
 |_=>none
def Ng{f g:bE}(L:X.A.units+1<cLine)(n:PE X a (tD (md X) f))(K:PE X b (tD (md X) g))(m:Iq b):PE X (.Subscript a b pos) (tD (md X) (LO f g)):=kN (HS L n K m) λY H Q P=>by
 obtain⟨R,p,S,d,S',ok,e,q⟩:=P
 obtain⟨⟨x,t⟩,u,e⟩:=av e
 obtain⟨⟨y,I⟩,F,e⟩:=av e
 cases x with
 | ref k=>
   dsimp only at e
   split at e
   · rename_i l m
     obtain⟨ky,M,e⟩:=av e
     obtain⟨Z,B,e⟩:=av e
     obtain⟨rfl,rfl⟩:=cv e
     refine⟨R,p,S,_,t,ok,u,λj v1 H1 s o i=>⟨j,p,t,y,I,ok.to s o,F,λw U H2 r h N=> ?_⟩⟩
     cases tF N M
     have i:=i.ext r
     cases i with
     | ref n=>
       obtain⟨W,C,G⟩:=h.obj k _ _ n m
       obtain⟨v,J,z⟩:=G.val B
       exact⟨_,v,rfl,by rw[←J];exact DV.k C,q _ _ _ (s.trans r) h z⟩
   · cases e
 |_=>cases e
def Nb(f g h:bE):cX:=λi S=>(h i S).bind λ(d,n)=>(f i n).bind λ(x,o)=>(g i o).bind λ(y,j)=>match x with
 | .ref k=>match j[k]? with
   |some (.dct l)=>(vS y).bind λm=>if l.length<sizeLine then some (.nx i (j.set k (.dct (putD l m d)))) else none
   |_=>none
 |_=>none
mutual
theorem Rel.offK{M:Md}{ρ:List Addr}{H:Hp}{b:Addr}{g:List (Key×V)}{o:HO}(f:H b=some (.dK g)):∀{d:D} {v:V},Rel M ρ H d v->Rel M ρ (upd H b o) d v
 |_,_,.non=>.non
 |_,_,.bl x=>.bl x
 |_,_,.int i=>.int i
 |_,_,.str x=>.str x
 |_,_,.tup h hs=>.tup (by rw[bo (Fl h f (by intro z;cases z))];exact h) (bf.offK f hs)
 |_,_,.ref h=>.ref h
 |_,_,.fn h=>.fn h
theorem bf.offK{M:Md}{ρ:List Addr}{H:Hp}{b:Addr}{f:List (Key×V)}{o:HO}(d:H b=some (.dK f)):∀{ds:List D} {vs:List V},bf M ρ H ds vs->bf M ρ (upd H b o) ds vs
 |_,_,.nil=>.nil
 |_,_,.cons h hs=>.cons (Rel.offK d h) (bf.offK d hs)
end
def fR.putKd{M:Md}{ρ:List Addr}{S:aF}{H:Hp}{k:Nat}{a:Addr}{l h:List (Key×D)}{kw:List (Key×V)}(st:fR M ρ S H)(f:ρ[k]?=some a)(i:S[k]?=some (.dct l))(r:cx M ρ H h kw):fR M ρ (S.set k (.dct h)) (upd H a (.dK kw))/\cq ρ H ρ (upd H a (.dK kw)):=by
 obtain⟨j,d,m⟩:=st.obj k a _ f i
 exact st.put f i ⟨kw,bN,r.imp λ_ _ q=>q.offK d⟩ λx g=>by rw[d] at g;cases g;exact id
def NM{f g h:bE}{i:Pos}{v:Expr}(hu:X.A.units+1<cLine)(r:PE X a (tD (md X) f))(Y:PE X b (tD (md X) g))(Z:PE X v (tD (md X) h))(p:swapsWith v (some (.Subscript a b i)) pos.line X.env=pure false:=by rfl):PS X (.Assign [.Subscript a b i] v pos) (tS (md X) (Nb f g h)):=
 Ef (IL hu r Y Z p) λD σ H qq=>by
  obtain⟨ρ,u,S,o,ok,e,q⟩:=qq
  obtain⟨⟨d,M⟩,N,e⟩:=av e
  obtain⟨⟨x,L⟩,W,e⟩:=av e
  obtain⟨⟨y,P⟩,e3,e⟩:=av e
  cases x with
  | ref k=>
    dsimp only at e
    split at e
    · rename_i l p
      obtain⟨ky,Q,e⟩:=av e
      split at e
      · rename_i hl
        cases e
        refine⟨ρ,u,S,d,M,ok,N,λw v1 H1 F n t=>⟨w,u,M,_,L,ok.to F n,W,λs v2 H2 B I G=>⟨s,u,L,y,P,(ok.to F n).to B I,e3,λa0 v3 H3 z j U=> ?_⟩⟩⟩
        cases tF U Q
        have G:=G.ext z
        have t:=t.ext (B.trans z)
        have m:=(F.trans B).trans z
        cases G with
        | ref r=>
          obtain⟨kv,R,K⟩:=j.obj k _ _ r p
          obtain⟨C,J⟩:=j.putKd r p (K.put (k:=ky) t)
          exact⟨_,_,rfl,GG.k R (by rw[←K.length];exact hl),q _ _ _ (m.trans J) ((ok.to m j).to J C)⟩
      · cases e
    · cases e
  |_=>cases e
open Classical in
def J5(f:dF)(g:bE):bE:=λd S=>(f d S).bind λ(p,i)=>if p.2.isL=true then(g d i).bind λ(y,h)=>if p.2.stays h p.1 then(yu y).bind λv=>(iU p.1).bind λk=>(pK v k).bind λj=>some (.int (j:Nat),h) else none else none
def M6{f:dF}{g:bE}{o:Expr}{i h:Pos}(N:PE X o (tQ (md X) f))(Y:PE X e (tD (md X) g))(k:attributeBase o "index" X.env (eval o X.env)=eval o X.env:=by rfl) (m:((backTo h (starEach [e] X.env)).all (λx=> !x.1)&&(backToKw h (keywordEach [] X.env)).all (λx=>x.1.isSome)
   &&decide ([e].length+([]:List Keyword).length+(if ([]:List Keyword).isEmpty then 0 else 1)<30))=true:=by rfl)
  (l:(i.endLine==h.line)=true:=by rfl) (B:starEach [e] X.env= [(false,eval e X.env)]:=by rfl):PE X (.Call (.Attribute o "index" i) [e] [] h) (tD (md X) (J5 f g)):=
 kN (AQ PySem.F.plainAttrs_list PySem.F.slot_list_index PySem.F.type_list_index GJ N (aB Y aZ B) k m l B) λσ H Q qq=>by
  obtain⟨ρ,z,S,d,S',ok,e,q⟩:=qq
  obtain⟨⟨⟨L,t⟩,J⟩,K,e⟩:=av e
  dsimp only at e
  split at e
  ·rename_i w
   obtain⟨⟨y,S2⟩,W,e⟩:=av e
   dsimp only at e
   split at e
   ·rename_i cS
    obtain⟨v,I,e⟩:=av e
    obtain⟨vs,R,e⟩:=av e
    obtain⟨j,e5,e⟩:=av e
    obtain⟨rfl,rfl⟩:=cv e
    refine⟨ρ,z,S,L,t,J,ok,K,λp a Z H1 G u A P=>⟨.inl ⟨rfl,Z,A.sqL w⟩,p,z,J,[y],S2,ok.to G u,by simp only[au,ax,W,Qbq],λM ws H2 C n s=> ?_⟩⟩
    obtain⟨r,h3,U⟩:=A.to P C n cS
    cases s with
    | cons s rr=>
      cases rr
      cases m_ s I
      obtain⟨rfl,f1⟩:=lS U R
      exact⟨a,r,_,j,rfl,rfl,h3.sqL w,uE I,f1,e5,q _ _ _ (G.trans C) n (.int _)⟩
   ·cases e
  ·cases e
end
section
variable{X:Cx}{a b c e:Expr}{pos:Pos}{st:Stmt}
def NL:V->List V->Hp->VK->Prop:=λx g H Q=>∃a b f d,x=.ref a/\g= [.ref b]/\a≠b/\H a=some (.dK f)/\H b=some (.dK d)/\f.length+d.length<=sizeLine/\Q .non (upd H a (.dK (j6 f d)))
def DR:N5 X "dict.update" NL:=by
 intro m s L H x G v K Q I o C h
 obtain⟨a,b,j,f,rfl,rfl,ab,ha,hb,hz,q⟩:=h
 cases o
 obtain⟨u,rfl,ru⟩:=C.one
 cases ru
 obtain⟨z,p,B,i,n⟩:=AG I.hok ha
 obtain⟨J,l,t,d,k⟩:=AG I.hok hb
 refine call_meetsIn PySem.F.slot_dict_update n.typeIs PySem.F.entry_dict_update (PySem.F.args_dict_update_2 _ _) (meets_dict_update (bZ X.prog X.w) a b ab l) ⟨B,t,n,k,by rw[←i.length,←d.length];exact hz,λr g _ y=> ?_⟩
 have A:∃q,r.get? a=some q:=let ⟨q,_,_,hq,_⟩:=g;⟨q,hq⟩
 have hl:=jo f j
 exact⟨.non,_,tj I (by rw[ha];exact True.intro) y A (uX (by omega) p (KV.merge d i) g),rfl,q⟩
def Hf(f g:bE):bE:=λi S=>(f i S).bind λ(x,h)=>(g i h).bind λ(y,d)=>match x,y with
 | .ref k,.ref j=>if k≠j then match h[k]?,d[k]?,d[j]? with
   |some (.dct _),some (.dct l),some (.dct m)=>if l.length+m.length<=sizeLine then some (.non,d.set k (.dct (c7 l m))) else none
   |_,_,_=>none
   else none
 |_,_=>none
def MS{f g:bE}{o:Expr}{n h:Pos}(ho:PE X o (tD (md X) f))(w:PE X e (tD (md X) g))(p:attributeBase o "update" X.env (eval o X.env)=eval o X.env:=by rfl) (t:((backTo h (starEach [e] X.env)).all (λx=> !x.1)&&(backToKw h (keywordEach [] X.env)).all (λx=>x.1.isSome)
   &&decide ([e].length+([]:List Keyword).length+(if ([]:List Keyword).isEmpty then 0 else 1)<30))=true:=by rfl)
  (s:(n.endLine==h.line)=true:=by rfl) (R:starEach [e] X.env= [(false,eval e X.env)]:=by rfl):PE X (.Call (.Attribute o "update" n) [e] [] h) (tD (md X) (Hf f g)):=
 kN (AQ PySem.F.plainAttrs_dict PySem.F.slot_dict_update PySem.F.type_dict_update DR ho (aB w aZ R) p t s R) λσ H Q qq=>by
  obtain⟨ρ,N,S,d,S',ok,e,q⟩:=qq
  obtain⟨⟨x,L⟩,e1,e⟩:=av e
  obtain⟨⟨y,I⟩,e2,e⟩:=av e
  cases x with
  | ref k=>
    cases y with
    | ref j=>
      dsimp only at e
      split at e
      · rename_i ne
        cases B:L[k]? with
        |none=>rw[B] at e;cases e
        | some o1=>
          rw[B] at e
          cases o1 with
          | dct l0=>
            cases A:I[k]? with
            |none=>rw[A] at e;cases e
            | some o2=>
              rw[A] at e
              cases o2 with
              | dct l=>
                cases J:I[j]? with
                |none=>rw[J] at e;cases e
                | some o3=>
                  rw[J] at e
                  cases o3 with
                  | dct m=>
                    dsimp only at e
                    split at e
                    · rename_i hl
                      obtain⟨rfl,rfl⟩:=cv e
                      refine⟨ρ,N,S,_,L,ok,e1,λC v H1 Y u r1=> ?_⟩
                      cases r1 with
                      | ref w=>
                        rename_i a
                        obtain⟨M,g0,_⟩:=u.obj k a _ w B
                        refine⟨.inr (.inr (.inl ⟨rfl,.inl ⟨M,g0⟩⟩)),C,N,L,[.ref j],I,ok.to Y u,by simp only[au,ax,e2,Qbq],λa0 ws H2 U i K=> ?_⟩
                        cases K with
                        | cons K rr=>
                          cases rr
                          cases K with
                          | ref W=>
                            rename_i b
                            have r:=dC U.pre w
                            obtain⟨kv,g1,Z⟩:=i.obj k a _ r A
                            obtain⟨kw,g3,P⟩:=i.obj j b _ W J
                            have ab:a≠b:=λz=>by subst z;exact ne (lT i.nd r W)
                            obtain⟨G,x3⟩:=i.putKd r A (cx.merge P Z)
                            exact⟨a,b,kv,kw,rfl,rfl,ab,g1,g3,by rw[←Z.length,←P.length];exact hl,q _ _ _ ((Y.trans U).trans x3) G .non⟩
                    · cases e
                  |_=>cases e
              |_=>cases e
          |_=>cases e
      · cases e
    |_=>cases e
  |_=>cases e
end
end DL
namespace L2
open PySem PySem.Spec PyProof.Rows
section
variable{prog:Program}{w:World}{A:Around}{s:Shared}
def vG{G F a k:Expr}{p:List Expr}{f:Scope}{pos:Pos}{it:Value}{D:Addr}{env:Env}{R:Result->Shared->Prop}(I:Nat->Shared->Prop)
  (u:∀n s,I n s->wpAny (model prog w) A (pyNext it) (λr d=>match r with
   |none=>R (.ok .next) d
   |some v=>wpAny (model prog w) A (letOwnedTupleGo a it v) (λ_ e=>wpAny (model prog w) A (assign a env v) (λ_ o=>
     wpAny (model prog w) A (forIn p true λc r=>if r=true then do let ok←isTrue c env (eval c env);pure (ForInStep.yield ok) else pure (ForInStep.yield r)) (λok s₃=>
      if ok=true then wpAny (model prog w) A (eval G env) (λx j=>wpAny (model prog w) A (eval F env) (λy g=>
       wpAny (model prog w) A (dictSet D x y) (λ_ l=>∃m,m<n/\I m l) (λ_ _=>False) g) (λ_ _=>False) j) (λ_ _=>False) s₃
      else∃m,m<n/\I m s₃) (λ_ _=>False) o) (λ_ _=>False) e) (λ_ _=>False) d) (λ_ _=>False) s)
  (n:Nat) (h:I n s):codeAny (model prog w) A (.compLoop (.DictComp G F [⟨a,k,p,0⟩] f pos) 0 it (.ref D) env) R s:=by
 refine codeAny_loop rfl I (λn s H=> ?_) n h
 show wpAny _ A ((compTurn (.DictComp G F [⟨a,k,p,0⟩] f pos) 0 it (.ref D) env).onRaise (λx=>do noteFrame x env;theTreesLotGoes x)) _ _ s
 refine wpAny_noted ?_
 rw[compTurn_dict]
 refine Qaq (wpAny_standAt (Qaq (QRq (u n s H) (λr d i=> ?_) λ_ _ b=>b.elim)))
 cases r with
 |none=>exact Qgq i
 | some v=>
   refine Qaq (QRq i (λ_ e q=> ?_) λ_ _ b=>b.elim)
   refine Qaq (QRq q (λ_ o C=>Qaq (QRq C (λok s₃ h₃=> ?_) λ_ _ b=>b.elim)) λ_ _ b=>b.elim)
   cases ok with
   |false=>exact Qgq ⟨rfl,h₃⟩
   | true=>
     exact Qaq (Qaq (QRq h₃ (λx j t=>Qaq (QLq (QRq t (λy g z=>Qaq (wpAny_standAt (QLq (QRq z (λ_ l B=>Qgq ⟨rfl,B⟩) λ_ _ b=>b.elim)))) λ_ _ b=>b.elim))) λ_ _ b=>b.elim))
end
def JU(J:It)(g:TG)(r:TT)(o p:TE)(Q:VK)(D:Addr)(q:St)(H:Hp):Prop:=
 ∃ W:Nat->Nat->St->Hp->Prop,(∃m,W 0 m q H)/\∀i m f d,W i m f d→
   (J.stop i d/\Q (.ref D) d)\/(J.go i d/\∃h:St->Hp->Prop,(∀b e,h b e->∃n,n<m/\W (i+1) n b e)∧
     ∀ x H2,J.yld i d x H2->g x f H2 λa H3=>r a H3 λok H4=>
       if ok=true then o a H4 λk H5=>p a H5 λy j=>∃c l,k=kV l/\j D=some (.dK c)/\c.length<sizeLine/\h a (upd j D (.dK (putK c l y))) else h a H4)
def GK(js:List (Option Nat))(b:TI)(g:TG)(d:TT)(c e:TE):TE:=λa H Q=>b a H λJ H1=>∀D,H1 D=none->JU J g d c e Q D (ku js a) (upd H1 D (.dK []))
def FF{X:Cx}{N:List Str}{js:List (Option Nat)}{a:Scope}{Z:List (Str×Addr)}{tg P kx vx G:Expr}{b0:List Expr}{pos b3:Pos}{wi:TI}{g gt:TG}{tt:TT}{tk tv:TE}
  (S:aS X N js a Z) (hc:X.calm=true) (hi:PI X tg P wi)
  (hg:∀C s H fp,PG (aP X N a Z C s H fp) tg g) (ht:∀C s H fp,nB (aP X N a Z C s H fp) b0 tt) (hk:∀C s H fp,PE (aP X N a Z C s H fp) kx tk) (hv:∀C s H fp,PE (aP X N a Z C s H fp) vx tv) (e5:PG X G gt)
  (hs:∀x,foldedSetIterable P X.env x=pure x:=by intro _;rfl) (d8:swapsWithSole [G] (.DictComp kx vx [⟨tg,P,b0,0⟩] a pos) b3.line X.env=pure true:=by rfl)
  (h1:(assignEach [G] X.env).map (·.2)= [assign G X.env]:=by rfl):PS X (.Assign [G] (.DictComp kx vx [⟨tg,P,b0,0⟩] a pos) b3) (EA (GK js wi g tt tk tv) gt):=by
 intro a0 s σ H Dn I h
 rw[exec_Assign_arm]
 refine Qaq (wpAny_standAt (Qaq (wpAny_of_eq d8 (wpAny_ite_true rfl (Qaq ?_)))))
 rw[h1]
 show wpAny _ _ (do let _←comprehension _ _ _ _ _ _ _ (some λv=>assignAll v [assign G X.env]);pure ()) _ _ _
 refine Qaq ?_
 refine wpAny_comprehension_free (use:=some λv=>assignAll v [assign G X.env]) rfl hs S.clos S.kind S.names (df (hi a0 s σ H _ I h) λv s1 h1=>df h1 λe8 t h2=> ?_)
 obtain⟨it,fp,tn,J,H2,e,F,T,b4,f2,hD⟩:=h2
 subst e
 refine QhQ (wpAny_newFunctionEnv S.nocell (by intro y hy;simp at hy) (λR M B=> ?_) S.kind)
 dsimp only at M B⊢
 generalize a7:t.heap.push {cls:=.type "dict",data:=.dict #[]}=P2 at M B⊢
 have hC:P2.objs.size=t.heap.objs.size+1:=by rw[←a7,Heap.size_push]
 have b5:t.heap.objs.size≠P2.objs.size:=by rw[hC];exact Qwq (Nat.lt_succ_self _)
 have a4:t.heap.objs.size<=P2.objs.size:=by rw[hC];exact Nat.le_succ _
 have K:∀b,b<t.heap.objs.size->b≠P2.objs.size:=λb f=>by rw[hC];exact Qwq (Nat.lt_succ_of_lt f)
 have a1:∀b o,t.heap.get? b=some o->R.get? b=some o:=λb o e=>B.extBut b o (K b (Qiq e)) (Qcq _ (a7▸Qcq _ e))
 have e6:R.get? t.heap.objs.size=some {cls:=.type "dict",data:=.dict #[]}:=B.extBut _ _ b5 (Qcq _ (a7▸Qrq _ rfl))
 have nD:H2 t.heap.objs.size=none:=F.fresh
 have nC:H2 P2.objs.size=none:=F.hok.fresh a4
 have b6:∀b∈fp,b<t.heap.objs.size:=λb f=>by
  obtain⟨o,e,_⟩:=T.obj _ _ b4 b f
  exact Qiq e
 obtain⟨W,⟨m0,w0⟩,b8⟩:=hD t.heap.objs.size nD
 have c5:(aP X N a Z P2.objs.size t H2 fp).Ok:=by
  refine⟨F.ok.mod,S.kind,F.ok.glob,F.ok.blt,a4,λx y c h1 h2=>F.ok.inj x y c (S.sub x c h1) (S.sub y c h2),S.has,(λx c h=>by cases h),F.ok.hd,F.ok.frames,.inl rfl,
   λb f=>⟨K b (b6 b f),λx c h=>(f2 b f).2.2.2.2.1 x c (S.sub x c h)⟩,F.bs,QAq F.ok.bsz F.sz,λb o e f=> ?_,λb f z=> ?_,F.stack,F.stkFree⟩
  ·rcases(f2 b f).2.2.2.1 with z|z
   ·exact F.ok.noex b o e z
   ·exact absurd (Qqq (Qqq (Qiq e) F.ok.bsz) z) (Nat.lt_irrefl _)
  ·rcases Qsq.mp (F.stkSub b z) with q|q
   ·exact(f2 b f).2.1 q
   ·exact(f2 b f).2.2.1 q
 have c0:cZ X.prog X.w (upd H2 t.heap.objs.size (.dK [])) R t.heap.objs.size (.dK []):=by
  obtain⟨o,es,ep,e1,e2⟩:=Heap.DictOf.new (knd:=bZ X.prog X.w) t.heap
  exact uX (Nat.zero_le _) (beq_eq_false_iff_ne.mpr (Ne.symm (Qwq F.big))) .nil ⟨o,es,ep,B.extBut _ _ b5 (Qcq _ (a7▸e1)),e2⟩
 have I4:Inv (aP X N a Z P2.objs.size t H2 fp) [] (ku js σ) (upd H2 t.heap.objs.size (.dK [])) {t with heap:=R,toks:=t.toks+([]:List (Str×Value)).length}:=by
  refine⟨c5,rfl,F.bare,Un.laid a1 (Qmq _) nD,⟨_,M,λi x v h1 h2 h3=> ?_⟩,λx c h=> ?_,by show upd H2 _ _ P2.objs.size=none;rw[bo b5.symm];exact nC,λx c h=> ?_,λp hp=>absurd (show p∈([]:List (Addr×Obj)) from hp) (by simp),F.hok.laid a1 (Qmq _) c0,by show(ku js σ).length=N.length;unfold ku;rw[lQm];exact S.len⟩
  ·unfold ku at h2
   rw[gQm] at h2
   cases e:js[i]? with
   |none=>rw[e] at h2;cases h2
   | some o=>
     rw[e] at h2
     cases o with
     |none=>cases h2
     | some j=>
       have a5:σ.getD j none=some v:=QdQ h2
       have hj:σ[j]?=some (some v):=by
         rw[Qlq] at a5
         cases q:σ[j]? with
         |none=>rw[q] at a5;cases a5
         |some y=>rw[q] at a5;exact congrArg some a5
       obtain⟨c1,c2,c3⟩:=S.cap i j x e h1
       obtain⟨m,hn,hl⟩:=F.loc
       have d7:Jr X.env.scope x:=by
         rcases c2 with z|z
         · exact .inr (.inl z)
         · exact .inr (.inr z)
       obtain⟨u,r,l⟩:=hl j x v c1 hj d7
       refine⟨u,r,.inr ⟨c3,?_⟩⟩
       obtain⟨c,d3⟩:=S.has x c3
       refine⟨c,d3,?_⟩
       rcases l with⟨z,_⟩|⟨_,c',e',z⟩
       · rcases c2 with y|y <;>rw[y] at z <;>cases z
       · rw[S.sub x c d3] at e'
         cases e'
         obtain⟨o,ho,hd⟩:=z
         exact⟨o,a1 _ _ ho,hd⟩
  ·obtain⟨v,o,ho,hd⟩:=F.cell x c (S.sub x c h)
   exact⟨v,o,a1 _ _ ho,hd⟩
  ·obtain⟨v,o,ho,hd⟩:=F.cell x c (S.sub x c h)
   rw[bo (Qwq (Qiq ho))]
   exact F.freeC x c (S.sub x c h)
 have a3:∀{Y:List (Addr×Obj)} {H':Hp},Y= []->(∀b∈fp,H' b=none)->∀b∈fp,qU (aP X N a Z P2.objs.size t H2 fp) Y H' b:=λ{Y H'} ep hn b f=>by
  subst ep
  refine⟨hn b f,K b (b6 b f),λz=>c5.exfs b f z,.inl f,λx c h=>(f2 b f).2.2.2.2.1 x c (S.sub x c h),λp hp=>absurd (show p∈([]:List (Addr×Obj)) from hp) (by simp)⟩
 have b2:codeAny (model X.prog X.w) X.A (.compLoop (.DictComp kx vx [⟨tg,P,b0,0⟩] a pos) 0 (.ref it) (.ref t.heap.objs.size) (compEnvC a Z P2.objs.size X.env))
   (compPost (model X.prog X.w) X.A X.xe (some λv=>assignAll v [assign G X.env]) (λ_ s9=>wpAny (model X.prog X.w) X.A (pure ()) (λ_ d9=>wpAny (model X.prog X.w) X.A (pure Flow.next) (SP X a0 Dn) X.xe d9) X.xe s9) (.ref t.heap.objs.size) P2.objs.size) {t with heap:=R,toks:=t.toks+([]:List (Str×Value)).length}:=by
  refine vG (λn s'=>∃i a2 H',Inv (aP X N a Z P2.objs.size t H2 fp) [] a2 H' s'/\tn i s'.heap/\(∀b∈fp,H' b=none)/\W i n a2 H') ?_ m0
   ⟨0,_,_,I4,T.keep _ _ _ b4 λb _ o e=>a1 b o e,λb f=>by rw[bo (Qwq (b6 b f))];exact(f2 b f).1,w0⟩
  rintro n s3 ⟨i,b1,H3,I3,d4,c6,w3⟩
  rcases b8 i n b1 H3 w3 with⟨stop,q⟩|⟨go,Nx,hN,d1⟩
  ·refine df (T.done (aP X N a Z P2.objs.size t H2 fp) rfl rfl rfl hc i [] s3 b1 H3 _ I3 (a3 rfl c6) d4 stop) λr s4 U=> ?_
   obtain⟨hr,I5⟩:=U
   subst hr
   obtain⟨m,hn,_⟩:=id I5.loc
   have e4:∀h',Heap.SameBut P2.objs.size s4.heap h'->Inv X a0 σ H3 {s4 with heap:=h'}:=by
    intro h' Q
    have u:=I5.base
    have ne:∀b o,t.heap.get? b=some o->b≠P2.objs.size:=λb o e=>K b (Qiq e)
    refine F.call' (ch:=fp) I5.os ⟨λb o e n f hx=>(Q.2 b (ne b o e)).trans (u.keep b o e n f hx),λb o e n f hx=> ?_,u.free,λb o e hx=> ?_,u.tups,u.frzs,u.tbls⟩ (λb ob e=> ?_) I5.bare λb f=>⟨(f2 b f).2.2.2.1,(f2 b f).2.1,(f2 b f).2.2.2.2.1,(f2 b f).2.2.2.2.2⟩
    ·obtain⟨sl,e1⟩:=u.slot b o e n f hx
     exact⟨sl,(Q.2 b (ne b o e)).trans e1⟩
    ·obtain⟨o',e1⟩:=u.there b o e hx
     exact⟨o',(Q.2 b (ne b o e)).trans e1⟩
    ·refine(I5.hok b ob e).stay (λc w' hc q=>(Q.2 c ?_).trans q) (λ_ q=>q) λ_ _ q=>q
     have fC:H3 P2.objs.size=none:=I5.free
     rintro rfl
     rcases hc with z|z
     ·rw[←z,fC] at e;cases e
     ·rw[fC] at z;cases z
   have IX:=e4 s4.heap ⟨rfl,λ_ _=>rfl⟩
   have a6:qU X a0 H3 P2.objs.size:=F.fpOk a4 I5.free
   obtain⟨oC,es,ep,d2,b9,e0⟩:=hn
   have IP:=IX.pinned (fp:= [P2.objs.size]) (λb f=>by rw[Qfq] at f;rw[f];exact a6) (λb f=>by rw[Qfq] at f;rw[f];exact⟨oC,d2,λv=>by rw[b9];simp⟩)
   show wpAny _ _ (assignAll (.ref t.heap.objs.size) [assign G X.env]) _ _ _
   rw[assignAll.eq_2]
   refine df (e5 _ s4 σ H3 (.ref t.heap.objs.size) (.ref t.heap.objs.size) _ IP rfl q) λ_ s6 U=> ?_
   obtain⟨L,H6,I6,q6⟩:=U
   have pC:=I6.pin (P2.objs.size,oC) (Qoq _ (Qoq _ (dw (Qfq.mpr rfl) d2)))
   refine⟨m,⟨oC,es,ep,pC.1,b9,e0⟩,λh' Q=>Qgq (Qgq ⟨L,H6,?_,q6⟩)⟩
   exact I6.unpinned.turned (it:=P2.objs.size) (t':=s6.toks) (λb o' f e=>(Q.2 b f).trans e) pC.2.1 pC.2.2.1 a6.2.2.2.1 a6.2.2.2.2.1 a6.2.2.2.2.2
  ·refine df (T.item (aP X N a Z P2.objs.size t H2 fp) rfl rfl rfl hc i [] s3 b1 H3 _ I3 (a3 rfl c6) d4 go) λr s4 U=> ?_
   obtain⟨u,hr,h4⟩:=U
   subst hr
   refine df h4 λ_ s5 U=> ?_
   obtain⟨x,H5,I5,r5,y5,b7,d6⟩:=U
   have d5:=I5.pinned (a3 rfl d6) (T.obj _ _ b7)
   refine df (hg P2.objs.size t H2 fp _ s5 b1 H5 x u _ d5 r5 (d1 x H5 y5)) λ_ s6 U=> ?_
   obtain⟨L,H6,I6,q6⟩:=U
   refine df (ht P2.objs.size t H2 fp _ s6 L H6 _ I6 q6) λok s7 U=> ?_
   obtain⟨H7,I7,q7⟩:=U
   have again:∀{s8:Shared} {H8:Hp},Inv (aP X N a Z P2.objs.size t H2 fp) ([]++nO fp s5.heap) L H8 s8->Nx L H8->∃m,m<n/\∃i a2 H',Inv (aP X N a Z P2.objs.size t H2 fp) [] a2 H' s8/\tn i s8.heap/\(∀b∈fp,H' b=none)/\W i m a2 H':=λ{s8 H8} I8 n8=>by
    obtain⟨m',hm,w8⟩:=hN L H8 n8
    refine⟨m',hm,i+1,L,H8,I8.unpinned,T.keep _ _ _ b7 λb f o e=>(I8.pin (b,o) (Qoq _ (Qoq _ (dw f e)))).1,λb f=> ?_,w8⟩
    obtain⟨o,e,d⟩:=T.obj _ _ b7 b f
    exact(I8.pin (b,o) (Qoq _ (Qoq _ (dw f e)))).2.1
   cases ok with
   |false=>exact again I7 q7
   | true=>
     refine df (hk P2.objs.size t H2 fp _ s7 L H7 _ I7 q7) λkv s8 U=> ?_
     obtain⟨k,H8,I8,rk,q8⟩:=U
     refine df (hv P2.objs.size t H2 fp _ s8 L H8 _ I8 q8) λyv s9 U=> ?_
     obtain⟨y,H9,I9,ry,e3,ky,ek,hx,hl,n9⟩:=U
     subst ek
     obtain⟨z,hd,vs,c4,dd⟩:=AG I9.hok hx
     refine wpAny_dictSet_pairs (zM rk) dd (λh' d0 Q=> ?_) (by rw[←c4.length];exact z)
     have he:∃q,h'.get? t.heap.objs.size=some q:=let ⟨q,_,_,hq,_⟩:=d0;⟨q,hq⟩
     have e7:=jd e3 ky y
     exact again (tj I9 (by rw[hx];exact True.intro) Q he (uX (by omega) hd (c4.put ky ry) d0)) n9
 exact codeAny_compStart_dict b2 (T.self _ 0 _ _ _ (T.keep _ _ _ b4 λb _ o e=>a1 b o e) b2)
end L2
namespace DL
open PySem PySem.Spec PyProof.Rows L2
section
variable{M:Md}{ρ:List Addr}{H:Hp}{b:Addr}{us:List (Key×V)}{o:HO}
theorem fR.offK{S:aF}(st:fR M ρ S H)(g:H b=some (.dK us))(n:b∉ρ):fR M ρ S (upd H b o):=⟨st.len,st.nd,λk a p h m=>by
 have q:=st.obj k a p h m
 have f:a≠b:=λz=>n (z▸mQg h)
 cases p with
 |lst i=>obtain⟨e,c,d⟩:=q;exact⟨e,by rw[bo f];exact c,d.offK g⟩
 |frz i=>obtain⟨e,o,c,d⟩:=q;exact⟨e,o,by rw[bo f];exact c,d.offK g⟩
 |dct j=>obtain⟨l,c,d⟩:=q;exact⟨l,by rw[bo f];exact c,d.imp λ_ _ r=>r.offK g⟩⟩
def En.offK{c:cN}{a:L2.St}(h:En M ρ H c a)(g:H b=some (.dK us)):En M ρ (upd H b o) c a:=⟨h.len,λi d q=>by obtain⟨v,f,e⟩:=h.get i d q;exact⟨v,f,e.offK g⟩⟩
end
open Classical in
def jk(g:mI)(t:kA)(b c:bE)(W:aF->Prop):List D->cN->aF->List (Key×D)->Option (List (Key×D)×aF)
 | [],Γ,S,acc=>if W S then some (acc,S) else none
 |d ::ds,Γ,S,acc=>if W S then(g d Γ S).bind λ(a,i)=>(t a i).bind λ(k,e)=>
    if k=true then(b a e).bind λ(x,h)=>(c a h).bind λ(y,j)=>(vS x).bind λf=>if acc.length<sizeLine then jk g t b c W ds a j (putD acc f y) else none
    else jk g t b c W ds a e acc
  else none
def qV(js:List (Option Nat))(i:vw)(g:mI)(t:kA)(b d:bE):cN->aF->Option (List (Key×D)×aF):=λa S=>(i a S).bind λ(p,c)=>jk g t b d p.2 p.1 (p6 js a) c []
def Iz{M:Md}{js:List (Option Nat)}{i:vw}{g:mI}{t:kA}{fk fv:bE}{σ:L2.St}{H:Hp}{Q:VK}{ρ:List Addr}{Γ:cN}{S S':aF}{l:List (Key×D)}(ok:Ok M ρ Γ S σ H)(e:qV js i g t fk fv Γ S=some (l,S'))
  (q:∀b a kv f,cq ρ H b f->fR M b S' f->H a=none->a∉b->f a=some (.dK kv)->cx M b f l kv->Q (.ref a) f):GK js (tI M i) (tG M g) (tB M t) (tD M fk) (tD M fv) σ H Q:=by
 obtain⟨⟨⟨j,W⟩,S1⟩,e1,e⟩:=av e
 refine⟨ρ,Γ,S,j,W,S1,ok,e1,λo J H1 x1 Y wk D R=> ?_⟩
 have n1:D∉o:=dv x1 Y R
 have a2:Ok M o (p6 js Γ) S1 (ku js σ) (upd H1 D (.dK [])):=⟨((ok.en.ext x1).ext (cq.laid R)).sig js,Y.lay R⟩
 refine⟨λi m s f=>m=j.length-i/\i<=j.length/\∃d F U c n,cq o H1 d f/\Ok M d F U s f/\D∉d/\f D=some (.dK n)/\cx M d f c n/\jk g t fk fv W (j.drop i) F U c=some (l,S'),
  ⟨j.length,by simp,Nat.zero_le _,o,_,S1,[],[],cq.laid R,a2,n1,bN,rfl,e⟩,?_⟩
 rintro i m b5 H2 ⟨rfl,hi,d,F,U,c,n,x2,ok2,n2,hD2,racc,e2⟩
 by_cases P:i<j.length
 ·have hd:j[i]?=some j[i]:=gQe P
  rw[QWq P] at e2
  unfold jk at e2
  split at e2
  ·rename_i w
   obtain⟨w1,w2⟩:=wk i d U H2 x2 ok2.st w
   obtain⟨go,b3⟩:=w1 _ hd
   refine .inr ⟨go,λs f=>∃b u C c n,cq o H1 b f/\Ok M b u C s f/\D∉b/\f D=some (.dK n)/\cx M b f c n/\jk g t fk fv W (j.drop (i+1)) u C c=some (l,S'),
    λs f ⟨b,u,C,c,n,h1,h2,h3,h4,h5,h6⟩=>⟨j.length-(i+1),by omega,rfl,P,b,u,C,c,n,h1,h2,h3,h4,h5,h6⟩,λx H3 hy=> ?_⟩
   obtain⟨x3,b2,r3⟩:=b3 x H3 hy
   obtain⟨⟨h,S4⟩,e4,e5⟩:=av e2
   refine⟨d,F,U,_,h,S4,ok2.to x3 b2,r3,e4,λa3 b4 H4 x4 p=> ?_⟩
   obtain⟨⟨k,S5⟩,e6,e7⟩:=av e5
   refine⟨a3,h,S4,k,S5,p,e6,λX H5 Z I=> ?_⟩
   have A:=(x3.trans x4).trans Z
   have G:∀{b f},cq d H2 b f->f D=some (.dK n)/\D∉b:=λ{b f} x=>⟨x.keep _ _ hD2 (.inl n2),λm=>(x.new _ m).elim n2 λz=>by rw[z] at hD2;cases hD2⟩
   dsimp only at e7⊢
   split at e7
   ·rename_i ck
    rw[Qhq ck]
    obtain⟨⟨kx,S6⟩,e8,e9⟩:=av e7
    obtain⟨⟨y,S7⟩,a5,b1⟩:=av e9
    obtain⟨kk,a4,N⟩:=av b1
    refine⟨X,h,S5,kx,S6,p.to Z I,e8,λa1 kv H6 x6 b0 r6=>⟨a1,h,S6,y,S7,(p.to Z I).to x6 b0,a5,λa7 v H7 x7 a0 r7=> ?_⟩⟩
    have K:=(A.trans x6).trans x7
    obtain⟨B,n7⟩:=G K
    have L:=racc.ext' K
    split at N
    ·rename_i cl
     refine⟨n,kk,tF r6 a4,B,by rw[←racc.length];exact cl,a7,h,S7,putD c kk y,_,(x2.trans K).off R _,⟨(((p.en.ext Z).ext x6).ext x7).offK B,a0.offK B n7⟩,n7,bN,(L.put r7).imp λ_ _ r=>r.offK B,N⟩
    ·cases N
   ·rename_i ck
    rw[Quq ck]
    obtain⟨a6,n5⟩:=G A
    exact⟨X,h,S5,c,n,x2.trans A,p.to Z I,n5,a6,racc.ext' A,e7⟩
  ·cases e2
 ·have e3:i=j.length:=by omega
  subst e3
  rw[List.drop_length] at e2
  unfold jk at e2
  split at e2
  ·rename_i w
   obtain⟨rfl,rfl⟩:=cv e2
   obtain⟨w1,w2⟩:=wk j.length d U H2 x2 ok2.st w
   exact .inl ⟨w2 rfl,q d D n H2 (x1.trans x2) ok2.st (x1.grow _ R) n2 hD2 racc⟩
  ·cases e2
def LS(n:Nat)(f:cN->aF->Option (List (Key×D)×aF)):cX:=λb S=>(f b S).bind λ(l,a)=>some (.nx (b.set n (some (.ref a.length))) (a++ [.dct l]))
section
variable{X:Cx}{pos:Pos}
def HG{N:List Str}{js:List (Option Nat)}{c:Scope}{p:List (Str×Addr)}{r d w v f:Expr}{j:List Expr}{i:vw}{g:mI}{t:kA}{F I:bE}{n:Nat}{h:Pos}
  (S:aS X N js c p) (Q:X.calm=true) (hi:PI X r d (tI (md X) i))
  (M:∀C s H fp,PG (aP X N c p C s H fp) r (tG (md X) g)) (ht:∀C s H fp,nB (aP X N c p C s H fp) j (tB (md X) t)) (Y:∀C s H fp,PE (aP X N c p C s H fp) w (tD (md X) F)) (hv:∀C s H fp,PE (aP X N c p C s H fp) v (tD (md X) I)) (z:PG X f (pV n))
  (R:∀x,foldedSetIterable d X.env x=pure x:=by intro _;rfl) (u:swapsWithSole [f] (.DictComp w v [⟨r,d,j,0⟩] c pos) h.line X.env=pure true:=by rfl)
  (L:(assignEach [f] X.env).map (·.2)= [assign f X.env]:=by rfl):PS X (.Assign [f] (.DictComp w v [⟨r,d,j,0⟩] c pos) h) (tS (md X) (LS n (qV js i g t F I))):=
 Ef (FF S Q hi M ht Y hv z R u L) λD σ H qq=>by
  obtain⟨ρ,Γ,S,o,ok,e,q⟩:=qq
  obtain⟨⟨l,S1⟩,J,e⟩:=av e
  cases e
  refine Iz ok J λk a P A x B K Z W U=> ?_
  have y:=B.box (o:=.dct l) Z ⟨P,W,U.pre' (List.prefix_append k [a])⟩
  have G:cq ρ H (k++ [a]) A:=⟨x.pre.trans (List.prefix_append _ _),λb m=>by
   rcases mQa.mp m with m|m
   ·exact x.new b m
   ·rw[Qfq] at m;subst m;exact .inr K,x.keep,x.grow⟩
  refine q (k++ [a]) _ A G ⟨((ok.en.ext G).set (.ref ?_)),y⟩
  rw[←B.len,QQq (Qmq _)]
  simp
end
end DL
namespace Zp
open PySem PySem.W PyProof.Rows
def ju(a:Nat->Nat->Bool):KasT (Array Nat)->Array Nat
 |.ret p=>p
 |.ask i j k=>ju a (k (a i j))
theorem iH(a:Nat->Nat->Bool):∀t:KasT (Array Nat),ju a t∈qY t
 |.ret p=>by simp[ju,qY]
 | .ask i j k=>by
   unfold ju qY
   cases a i j with
   |true=>exact List.mem_append_left _ (iH a (k true))
   |false=>exact Qoq _ (iH a (k false))
theorem xZ{a:Nat->Nat->(Bool->Shared->Prop)->Shared->Prop}{Q:Array Nat->Shared->Prop}{s:Shared}{n:Nat}{c:Nat->Nat->Bool}(b:∀i j C,i<n->j<n->i≠j->C (c i j) s->a i j C s):
  ∀t:KasT (Array Nat),ud n t=true->Q (ju c t) s->t.kasWp a Q s
 |.ret p,_,h=>h
 | .ask i j k,ha,h=>by
   simp only[ud,QCq,decide_eq_true_eq] at ha
   obtain⟨⟨⟨⟨g,f⟩,l⟩,m⟩,d⟩:=ha
   refine b i j _ g f l ?_
   cases e:c i j with
   |true=>exact xZ b (k true) m (by unfold ju at h;rw[e] at h;exact h)
   |false=>exact xZ b (k false) d (by unfold ju at h;rw[e] at h;exact h)
def Ld(fs:List Str)(i j:Nat):Bool:=decide ((fs.getD i "").cps.toList<(fs.getD j "").cps.toList)
def sortBy{α:Type}(fs:List Str)(d:α)(xs:List α):List α:=if xs.length<2 then xs else(ju (Ld fs) (kas_sort xs.length)).toList.map λi=>xs.getD i d
def eD{α:Type}{d:α}(fs:List Str)(xs:List α)(h:xs.length<=3):(sortBy fs d xs).Perm xs:=by
 unfold sortBy
 split
 ·exact List.Perm.refl _
 ·rename_i b
  obtain⟨_,a⟩:=sV xs.length h (by omega)
  have c:(ju (Ld fs) (kas_sort xs.length)).toList.Perm (List.range xs.length):=List.isPerm_iff.mp (QUq.mp a _ (iH _ _))
  have e:(List.range xs.length).map (λi=>xs.getD i d)=xs:=by
   apply List.ext_getElem
   ·simp
   ·intro i f b
    simp[Qlq,b]
  have:=c.map λi=>xs.getD i d
  rw[e] at this
  exact this
section
variable{prog:Program}{w:World}{A:Around}{E:Value->Shared->Prop}{s:Shared}
def BG{a:Addr}{vs:List Value}{fs:List Str}{n:Nat}{P:PySem.Fin->Shared->Prop}(J:s.heap.get? a=some (seqObj "list" vs.toArray n))(h3:vs.length<=3)(ht:eC s.heap vs fs)(hd:fs.Nodup)
  (q:∀I:Array Value,I.toList=sortBy fs Value.none vs->P (.done (.ret .none)) {s with heap:=sortedHeap s.heap a vs I}):wpAny (model prog w) A (Builtin.«list.sort» ⟨[.ref a],[]⟩) P E s:=by
 rw[list_sort_plain]
 have ha:a<s.heap.objs.size:=Qiq J
 refine Qaq (listItems_at J rfl (Qaq (listUpdate_at J rfl ?_ (by rw[Qjq,sizeLine_eq];omega) (Nat.zero_le _))))
 obtain⟨M,H⟩:∃M,(s.heap.update a (Obj.mapSeq λ_=> #[])).get? a=some (seqObj "list" #[] M):=⟨_,get?_update_seq J (λ_=> #[])⟩
 refine Qaq (seqEpoch_at H rfl (Qaq (wpAny_newTuple ?_ (by show vs.length<=_;rw[sizeLine_eq];omega))))
 refine Qaq (wpAny_newList (QLq ?_) (Nat.zero_le _))
 have h:(((s.heap.update a (Obj.mapSeq λ_=> #[])).push (seqObj "tuple" vs.toArray 0)).push (seqObj "list" #[] 0)).get? a=some (seqObj "list" #[] M):=Qcq _ (Qcq _ H)
 have B:eC (((s.heap.update a (Obj.mapSeq λ_=> #[])).push (seqObj "tuple" vs.toArray 0)).push (seqObj "list" #[] 0)) vs fs:=ht.keep λb o e c=>by
  have nb:b≠a:=λz=>by rw[z,J] at e;cases e;simp[seqObj] at c
  exact Qcq _ (Qcq _ (by rw[Heap.get?_update_ne _ _ _ _ nb];exact e))
 refine(?_:wpAny (model prog w) A _ P E {s with heap:=((s.heap.update a (Obj.mapSeq λ_=> #[])).push (seqObj "tuple" vs.toArray 0)).push (seqObj "list" #[] 0)})
 dsimp only
 by_cases F:vs.toArray.size<2
 ·rw[Qhq F,Qhq F]
  refine Qaq (Qgq ?_)
  rw[StateT.run_pure]
  refine Qaq (Qgq ?_)
  dsimp only
  have e2:((vs.toArray.zip vs.toArray).map (·.2))=vs.toArray:=by
   apply Array.toList_inj.mp
   simp
   exact List.map_snd_zip (Qmq _)
  refine Qaq (seqEpoch_at h rfl (Qaq (listUpdate_at h rfl ?_ (hsz2:=by
   refine QAq (Nat.le_of_eq (congrArg Array.size e2)) ?_
   rw[Qjq,sizeLine_eq]
   omega))))
  simp only[bne_self_eq_false,Bool.false_eq_true,if_false]
  refine Qgq ?_
  have:=q vs.toArray (by unfold sortBy;rw[Qhq (by simpa using F)])
  rw[←e2] at this
  exact this
 ·rw[Quq F,Quq F]
  have hn:2<=vs.length:=by simpa using F
  obtain⟨gs,kt,lg,mg⟩:=B.firsts
  have lf:=ht.len
  refine Qaq (kat_kind (T:=.type "str") kt (by omega) (λv hv=> ?_) rfl ?_)
  ·obtain⟨x,t,rfl⟩:=mg v hv
   exact .now
  obtain⟨ok,perm⟩:=sV vs.length h3 hn
  have L:SortSt.mk' (tuples' true) (vs.toArray.zip vs.toArray) #[] 7 none=kas_st (tuples' true) (pairsOf vs) (List.toArray (List.range vs.length)):=by
   have e:=kas_range (pairsOf vs)
   rw[pairsOf_size] at e
   refine(?_:SortSt.mk' (tuples' true) (pairsOf vs) #[] 7 none=SortSt.mk' (tuples' true) ((List.toArray (List.range vs.length)).map (kas_item (pairsOf vs))) #[] 7 none)
   rw[e]
  refine(?_:wpAny (model prog w) A (StateT.run sortRuns' (SortSt.mk' (tuples' true) (vs.toArray.zip vs.toArray) #[] 7 none) >>= _) P E _)
  rw[L]
  have X:=kas_runs (prog:=prog) (w:=w) (A:=A) (E:=E) (κ:=tuples' true) (it:=pairsOf vs) (n:=vs.length)
   (s:={s with heap:=((s.heap.update a (Obj.mapSeq λ_=> #[])).push (seqObj "tuple" vs.toArray 0)).push (seqObj "list" #[] 0)})
   (G:=λp K=>p=ju (Ld fs) (kas_sort vs.length)/\K={s with heap:=((s.heap.update a (Obj.mapSeq λ_=> #[])).push (seqObj "tuple" vs.toArray 0)).push (seqObj "list" #[] 0)})
   (Q:=λ_ f K=>K={s with heap:=((s.heap.update a (Obj.mapSeq λ_=> #[])).push (seqObj "tuple" vs.toArray 0)).push (seqObj "list" #[] 0)}/\failedOf f=none/\∃p,p=ju (Ld fs) (kas_sort vs.length)/\arrOf f=p.map (kas_item (pairsOf vs)))
   hn (by omega) (λp' f K a1 a2 a3 a4=>⟨a4.2,a3,p',a4.1,a2⟩) (xZ (n:=vs.length) (λi j C hi hj R hC=> ?_) _ ok ⟨rfl,rfl⟩)
  ·refine Qaq (QRq X ?_ λ_ _ e=>e)
   rintro⟨⟨⟩,f⟩ K ⟨rfl,hf,p,hp,har⟩
   dsimp only
   have l:((arrOf f).map (·.2)).toList=sortBy fs Value.none vs:=by
    unfold sortBy
    rw[Quq (by omega),har,Array.map_map,Array.toList_map,hp]
    refine List.map_congr_left λk _=> ?_
    show(kas_item (pairsOf vs) k).2=_
    rw[kas_item_eq]
   have g:=eD (d:=Value.none) fs vs h3
   have W:((arrOf f).map (·.2)).size=vs.length:=by
    have:=congrArg List.length l
    rw[g.length_eq] at this
    simpa using this
   refine Qaq (seqEpoch_at h rfl (Qaq (listUpdate_at h rfl ?_ (hsz2:=by
    refine QAq (Nat.le_of_eq W) ?_
    rw[sizeLine_eq]
    omega))))
   rw[hf]
   simp only[bne_self_eq_false,Bool.false_eq_true,if_false]
   exact Qgq (q _ l)
  ·unfold kas_cmp
   rw[kas_item_eq,kas_item_eq]
   obtain⟨x,ox,Z,nx,tx,ex,gx,dx,fx⟩:=B.get (i:=i) (by omega)
   obtain⟨y,oy,ys,ny,ty,ey,gy,dy,fy⟩:=B.get (i:=j) (by omega)
   dsimp only
   rw[ex,ey]
   have Y:¬fs.getD i ""=fs.getD j "":=λz=>by
    have u:i<fs.length:=by omega
    have m:j<fs.length:=by omega
    rw[Qlq,Qlq,gQe u,gQe m] at z
    have z':fs[i]=fs[j]:=z
    rcases Nat.lt_or_gt_of_ne R with U|U
    ·exact List.pairwise_iff_getElem.mp hd i j u m U z'
    ·exact List.pairwise_iff_getElem.mp hd j i m u U z'.symm
   refine kat_lt gx dx gy dy ?_
   obtain⟨xr,S⟩:∃r,Z.toList=.str (fs.getD i "") tx::r:=by
    cases e:Z.toList with
    |nil=>have:=congrArg (·[0]?) e;simp[fx] at this
    |cons v r=>have:=congrArg (·[0]?) e;simp[fx] at this;exact⟨r,by rw[Qlq,this]⟩
   obtain⟨yr,N⟩:∃r,ys.toList=.str (fs.getD j "") ty::r:=by
    cases e:ys.toList with
    |nil=>have:=congrArg (·[0]?) e;simp[fy] at this
    |cons v r=>have:=congrArg (·[0]?) e;simp[fy] at this;exact⟨r,by rw[Qlq,this]⟩
   rw[S,N,List.zip_cons_cons]
   refine kat_cons (wpAny_eqBool_str ?_)
   rw[Qdq Y]
   exact kat_no (oneLt_str hC)
def xR{l:Addr}{vs:List Value}{fs:List Str}{Q:Value->Shared->Prop}(hl:s.heap.IsList l vs.toArray)(h:vs.length<=3)(ht:eC s.heap vs fs)(hd:fs.Nodup)
  (q:∀a:Array Value,a.toList=sortBy fs Value.none vs->Q (.ref (s.heap.objs.size+1)) {s with heap:=sortedAll s.heap vs a}):wpAny (model prog w) A (call (.builtin "sorted") [.ref l]) Q E s:=by
 refine Calls.call_function_entry kind_sorted plain_sorted entry_sorted (args_sorted1 _) ?_
 unfold Builtin.«sorted»
 refine Qaq (m:=checkCount "sorted" 1 1 _) (Qgq (Qaq (collect_list hl (Qaq (wpAny_newList ?_ (by rw[sizeLine_eq];omega))) (by rw[sizeLine_eq];omega))))
 have d:((s.heap.push (seqObj "list" #[] 0)).update s.heap.objs.size (Obj.mapSeq (·++vs.toArray))).objs.size=s.heap.objs.size+1:=by rw[Heap.size_update,size_push']
 have f:(((s.heap.push (seqObj "list" #[] 0)).update s.heap.objs.size (Obj.mapSeq (·++vs.toArray))).push (seqObj "list" vs.toArray 0)).get? (s.heap.objs.size+1)=some (seqObj "list" vs.toArray 0):=by
  rw[←d]
  exact Qrq _ rfl
 have c:eC (((s.heap.push (seqObj "list" #[] 0)).update s.heap.objs.size (Obj.mapSeq (·++vs.toArray))).push (seqObj "list" vs.toArray 0)) vs fs:=ht.keep λb o e _=>by
  have i:b<s.heap.objs.size:=Qiq e
  refine Qcq _ ?_
  rw[Heap.get?_update_ne _ _ _ _ (Qwq i)]
  exact Qcq _ e
 refine(?_:wpAny _ _ _ _ _ {s with heap:=((s.heap.push (seqObj "list" #[] 0)).update s.heap.objs.size (Obj.mapSeq (·++vs.toArray))).push (seqObj "list" vs.toArray 0)})
 rw[d]
 refine Qaq (QLq (wpAny_call_entry slot_list_sort ⟨_,f,rfl⟩ entry_list_sort (BG f h c hd λa g=>⟨_,rfl,?_⟩) (args_list_sort _)))
 exact Qgq ⟨_,rfl,q a g⟩
end
end Zp
namespace L2
open PySem PySem.Spec PyProof.Rows
section
variable{X:Cx}
def HW(K:PySem.W.Frag):List V->Hp->VK->Prop:=λd H Q=>∃(a:Addr) (b:List Addr) (c:List Str),d= [.ref a]/\iX K H a (b.map V.ref)/\b.length<=3/\xa H b c/\c.Nodup/\∀(l:Addr),H l=none->Q (.ref l) (upd H l (.lst ((Zp.sortBy c 0 b).map V.ref)))
def vH:gP X (.builtin "sorted") (HW X.K):=by
 intro l s C H z A Q I r h
 obtain⟨a,c,k,rfl,ha,h3,hF,hd,q⟩:=h
 obtain⟨u,rfl,rx⟩:=vals1 r
 cases (show u=Value.ref a from rx)
 obtain⟨n,y,p,F⟩:=I.list ha
 cases vZ y
 have j:s.heap.objs.size<=s.heap.objs.size+1:=Nat.le_succ _
 refine Zp.xR p.isList (by simpa using h3) (Ae I hF) hd λd v=> ?_
 have m:d.toList=(Zp.sortBy k 0 c).map Value.ref:=by
  rw[v]
  unfold Zp.sortBy
  rw[lQm]
  split
  ·rfl
  ·rename_i B
   rw[QPq]
   obtain⟨_,g⟩:=Zp.sV c.length h3 (by omega)
   have f:(Zp.ju (Zp.Ld k) (PySem.W.kas_sort c.length)).toList.Perm (List.range c.length):=List.isPerm_iff.mp (QUq.mp g _ (Zp.iH _ _))
   refine List.map_congr_left λi t=> ?_
   have hl:i<c.length:=List.mem_range.mp (f.mem_iff.mp t)
   show(c.map Value.ref).getD i Value.none=Value.ref (c.getD i 0)
   rw[Qlq,Qlq,gQm,gQe hl]
   rfl
 obtain⟨e,w⟩:=sortedAll_at s.heap (c.map Value.ref) d
 refine⟨.ref (s.heap.objs.size+1),_,I.laid (a:=s.heap.objs.size+1) (o:=.lst ((Zp.sortBy k 0 c).map V.ref)) (h':=sortedAll s.heap (c.map Value.ref) d) (t':=s.toks) (λb o x=>sortedAll_old x) j ⟨?_,d.toList,e,?_,?_⟩,rfl,q _ (I.hok.fresh j)⟩
 ·rw[lQm,(Zp.eD k c h3).length_eq]
  exact QAq h3 (by decide)
 ·have:=uA (Zp.sortBy k 0 c)
  rw[←m] at this
  exact this
 ·simpa using w
end
end L2
namespace DL
open PySem PySem.Spec PyProof.Rows L2
def we(a b:Str):Prop:=¬(b.cps.toList<a.cps.toList)
instance(a b:Str):Decidable (we a b):=by unfold we;infer_instance
def D5(a b:Str):we a b\/we b a:=by
 by_cases h:b.cps.toList<a.cps.toList
 ·exact .inr λc=>List.lt_asymm h c
 ·exact .inl h
def v7{a b c:Str}(e:we a b)(d:we b c):we a c:=by
 unfold we at *
 rw[List.not_lt] at *
 exact List.le_trans e d
def GE{a b:Str}(c:we a b)(d:we b a):a=b:=by
 unfold we at *
 rw[List.not_lt] at *
 have:=List.le_antisymm c d
 cases a
 cases b
 simp only[Str.mk.injEq]
 exact Array.toList_inj.mp this
def BQ(x:Str):List Str->List Str
 | []=> [x]
 |y::r=>if we x y then x::y::r else y::BQ x r
def qR:List Str->List Str
 | []=> []
 |x::r=>BQ x (qR r)
theorem qA(x:Str):∀l:List Str,(BQ x l).Perm (x::l)
 | []=>List.Perm.refl _
 | y::r=>by
   unfold BQ
   split
   · exact List.Perm.refl _
   · exact((qA x r).cons y).trans (List.Perm.swap _ _ _)
theorem lW:∀l:List Str,(qR l).Perm l
 | []=>List.Perm.refl _
 |x::r=>(qA x _).trans ((lW r).cons x)
theorem rP{x:Str}:∀{l:List Str},l.Pairwise we->(BQ x l).Pairwise we
 | [],_=>by simp[BQ]
 | y::r,h=>by
   rw[List.pairwise_cons] at h
   unfold BQ
   split
   · rename_i c
     refine List.pairwise_cons.mpr ⟨λz a=> ?_,List.pairwise_cons.mpr h⟩
     rcases Qsq.mp a with rfl|a
     · exact c
     · exact v7 c (h.1 z a)
   · rename_i c
     refine List.pairwise_cons.mpr ⟨λz a=> ?_,rP h.2⟩
     rcases Qsq.mp ((qA x r).mem_iff.mp a) with rfl|a
     · exact(D5 _ _).resolve_left c
     · exact h.1 z a
theorem mQ:∀l:List Str,(qR l).Pairwise we
 | []=>List.Pairwise.nil
 |x::r=>rP (mQ r)
def yK:∀{l:List Str},sortedS l=true->l.Pairwise we
 | [],_=>List.Pairwise.nil
 | x::r,h=>by
   have e:∀(r:List Str) (x:Str),risingS x r=true->(x::r).Pairwise we:=by
     intro r
     induction r with
     |nil=>intro x _;simp
     | cons y r d=>
       intro x h
       unfold risingS at h
       simp only[QCq] at h
       have b:=d y h.2
       have c:we x y:=by
         have:=h.1
         unfold we
         rw[ltCps_eq] at this
         simpa using this
       refine List.pairwise_cons.mpr ⟨λz a=> ?_,b⟩
       rcases Qsq.mp a with rfl|a
       · exact c
       · exact v7 c ((List.pairwise_cons.mp b).1 z a)
   exact e r x h
def EC{c ss:List Str}(h:sortedS c=true)(p:c.Perm ss):c=qR ss:=
 List.Perm.eq_of_pairwise (le:=we) (λa b _ _ e d=>GE e d) (yK h) (mQ ss) (p.trans (lW ss).symm)
end DL
namespace L2
open PySem PySem.Spec PyProof.Rows
end L2
namespace DL
open PySem PySem.Spec L2
section
variable{X:Cx}{a b e:Expr}{pos:Pos}
def wb:List D->Option (List Str)
 | []=>some []
 |.str x::r=>(wb r).bind λc=>some (x::c)
 |_::_=>none
theorem zL{M:Md}{ρ:List Addr}{H:Hp}:∀{ds:List D} {vs:List V} {xs:List Str},bf M ρ H ds vs->wb ds=some xs->vs=xs.map V.str
 | [],_,_,h,e=>by cases h;cases e;rfl
 | d::ds,_,_,h,e=>by
   cases d with
   | str b=>
     simp only[wb] at e
     obtain⟨g,c,e⟩:=av e
     cases e
     cases h with
     | cons h f=>
       cases h
       rw[zL f c]
       rfl
   |_=>cases e
theorem v8{M:Md}{ρ:List Addr}{H:Hp}:∀ss:List Str,bf M ρ H (ss.map D.str) (ss.map V.str)
 | []=>.nil
 |s::ss=>.cons (.str s) (v8 ss)
def Da(f:dF):fW:=λg S=>(f g S).bind λ(p,d)=>if p.2.isL=true then(wb p.1).bind λc=>if c.length<64 then some ((qR c).map D.str,d) else none else none
def F8{f:dF}{p:Pos}(s:Gl X "sorted")(z:X.mg "sorted"=none)(v:PE X a (tQ (md X) f))(i:starEach [a] X.env= [(false,eval a X.env)]:=by rfl):
  PE X (.Call (.Name "sorted" p) [a] [] pos) (tL (md X) (Da f)):=
 kN (jQ y6 s z PyProof.Rows.boot_sorted (cP v fq i) (he:=i)) λK H Q B=>by
  obtain⟨F,o,S,d,L,ok,e,q⟩:=B
  obtain⟨⟨⟨k,t⟩,A⟩,j,e⟩:=av e
  dsimp only at e
  split at e
  ·rename_i c
   obtain⟨C,u,e⟩:=av e
   split at e
   ·rename_i G
    obtain⟨rfl,rfl⟩:=cv e
    refine⟨F,o,S,k,t,A,ok,j,λy a J I x g h r=>⟨a,C,rfl,?_,G,λl m hl n w=> ?_⟩⟩
    ·rw[←zL r u];exact h.sqL c
    ·cases EC n w
     exact q _ _ _ _ (x.trans (cq.laid hl)) (g.lay hl) (x.grow _ hl) (dv x g hl) bN (v8 _)
   ·cases e
  ·cases e
def sr:List D->Option (List Str)
 | []=>some []
 |.tup (.str x::_)::r=>(sr r).bind λc=>some (x::c)
 |_::_=>none
theorem Aq{M:Md}{ρ:List Addr}{H:Hp}:∀{ds:List D} {vs:List V} {xs:List Str},bf M ρ H ds vs->sr ds=some xs->∃rs:List Addr,vs=rs.map V.ref/\xa H rs xs
 | [],_,_,h,e=>by cases h;cases e;exact⟨[],rfl,.nil⟩
 | .tup (.str x::us)::r,_,_,h,e=>by
   simp only[sr] at e
   obtain⟨i,f,e⟩:=av e
   cases e
   cases h with
   | cons h g=>
     cases h with
     | tup h c=>
       obtain⟨rs,rfl,F⟩:=Aq g f
       cases c with
       | cons d c=>
         cases d
         exact⟨_::rs,rfl,.cons h F⟩
 |.tup (.non::_)::_,_,_,_,e=>by cases e
 |.tup (.bl _::_)::_,_,_,_,e=>by cases e
 |.tup (.int _::_)::_,_,_,_,e=>by cases e
 |.tup (.tup _::_)::_,_,_,_,e=>by cases e
 |.tup (.ref _::_)::_,_,_,_,e=>by cases e
 |.tup (.fn _::_)::_,_,_,_,e=>by cases e
 |.tup []::_,_,_,_,e=>by cases e
 |.non::_,_,_,_,e=>by cases e
 |.bl _::_,_,_,_,e=>by cases e
 |.int _::_,_,_,_,e=>by cases e
 |.str _::_,_,_,_,e=>by cases e
 |.ref _::_,_,_,_,e=>by cases e
 |.fn _::_,_,_,_,e=>by cases e
def ug(ss:List Str)(ds:List D):List D:=Zp.sortBy ss .non ds
def tR{α l:Type}{R:α->l->Prop}{ss:List Str}{xs:List α}{ys:List l}{d:α}{d':l}(hl:xs.length=ys.length)(p:xs.length<=3)(h:∀(i:Nat) (x:α),xs[i]?=some x->∃y,ys[i]?=some y/\R x y):
  ∀(i:Nat) (x:α),(Zp.sortBy ss d xs)[i]?=some x->∃y,(Zp.sortBy ss d' ys)[i]?=some y/\R x y:=by
 intro i x e
 unfold Zp.sortBy at *
 rw[←hl]
 split at e
 ·rename_i c;rw[Qhq c];exact h i x e
 ·rename_i q
  obtain⟨_,g⟩:=Zp.sV xs.length p (by omega)
  have f:(Zp.ju (Zp.Ld ss) (PySem.W.kas_sort xs.length)).toList.Perm (List.range xs.length):=List.isPerm_iff.mp (QUq.mp g _ (Zp.iH _ _))
  rw[gQm] at e
  obtain⟨k,m,e⟩:=oQm.mp e
  have j:k<xs.length:=List.mem_range.mp (f.mem_iff.mp (mQg m))
  have n:xs[k]?=some x:=by
   rw[Qlq,gQe j] at e
   rw[gQe j]
   exact congrArg some e
  obtain⟨y,o,r⟩:=h k x n
  refine⟨y,?_,r⟩
  rw[Quq (by omega),gQm,m]
  simp[Qlq,o]
theorem bf.of_get{M:Md}{ρ:List Addr}{H:Hp}:∀{ds:List D} {vs:List V},ds.length=vs.length->(∀(i:Nat) (d:D),ds[i]?=some d->∃v,vs[i]?=some v/\Rel M ρ H d v)->bf M ρ H ds vs
 | [],[],_,_=>.nil
 | [],_::_,h,_=>by cases h
 |_::_,[],h,_=>by cases h
 | d::ds,v::vs,h,g=>by
   obtain⟨f,e,r⟩:=g 0 d rfl
   cases e
   exact .cons r (bf.of_get (Nat.succ.inj h) λi d c=>by
     obtain⟨v,e,r⟩:=g (i+1) d (by simpa using c)
     exact⟨v,by simpa using e,r⟩)
def xK(f:dF):fW:=λg S=>(f g S).bind λ(p,d)=>if p.2.isL=true then(sr p.1).bind λc=>if p.1.length<=3/\c.Nodup then some (ug c p.1,d) else none else none
def Lb{f:dF}{p:Pos}(I:Gl X "sorted")(L:X.mg "sorted"=none)(K:PE X a (tQ (md X) f))(z:starEach [a] X.env= [(false,eval a X.env)]:=by rfl):
  PE X (.Call (.Name "sorted" p) [a] [] pos) (tL (md X) (xK f)):=
 kN (jQ vH I L PyProof.Rows.boot_sorted (cP K fq z) (he:=z)) λZ H Q P=>by
  obtain⟨U,G,S,d,S',ok,e,q⟩:=P
  obtain⟨⟨⟨j,t⟩,M⟩,C,e⟩:=av e
  dsimp only at e
  split at e
  ·rename_i c
   obtain⟨s,J,e⟩:=av e
   split at e
   ·rename_i u
    obtain⟨rfl,rfl⟩:=cv e
    refine⟨U,G,S,j,t,M,ok,C,λo a Y B x w h r=> ?_⟩
    obtain⟨n,rfl,F⟩:=Aq r J
    have hl:j.length=n.length:=by have:=r.length;simpa using this
    refine⟨a,n,s,rfl,h.sqL c,by omega,F,u.2,λl g=> ?_⟩
    refine q _ _ _ _ (x.trans (cq.laid g)) (w.lay g) (x.grow _ g) (dv x w g) bN (bf.ext (cq.laid g) ?_)
    refine bf.of_get ?_ λi d m=> ?_
    ·rw[lQm]
     unfold ug
     rw[(Zp.eD s j u.1).length_eq,(Zp.eD s n (by omega)).length_eq,hl]
    ·obtain⟨y,k,W⟩:=tR (R:=λ(d:D) (a:Addr)=>Rel (md X) o B d (.ref a)) (d':=0) hl u.1 (λi d m=>by
      obtain⟨v,A,N⟩:=r.get m
      rw[gQm] at A
      obtain⟨y,k,rfl⟩:=oQm.mp A
      exact⟨y,k,N⟩) i d m
     exact⟨.ref y,by rw[gQm,k];rfl,W⟩
   ·cases e
  ·cases e
end
def Cv{P:Program}{w:World}{K:PySem.W.Frag}{mg:Str->Option Value}{base:Heap}{f:Addr}{d:FuncData}{ps:List Str}{k n:Nat}:bF P w K mg base d_ k f d ps (eI ⟨K,mg⟩ n λ_ _=>none):=
 {len:=λc H Q E h=>by
   obtain⟨_,_,_,_,_,_,_,_,e,_⟩:=h
   cases e
  run:=λA a s H b g c Q E _ _ _ _ h=>by
   obtain⟨_,_,_,_,_,_,_,_,e,_⟩:=h
   cases e}
end DL
namespace Zq
open PySem PyProof.Rows
def Hl{prog:Program}{w:World}{A:Around}(m:A.handled=none)(t:Bool)(it a:Addr)(f:a≠it)(items:Array Value):
  Draws prog w A it [it,a] items.size (λi v=>items[i]?=some v) (λi h=>It t h it a i/\Sq t h a items) where
 live:=λ_ _ b=>by obtain⟨o,h,_⟩:=b.1.obj;exact⟨o,h⟩
 frame:=λ_ _ _ b j=>⟨b.1.at λo e=>j it (by simp) o e,b.2.at λo e=>j a (by simp) o e⟩
 item:=λi s Q E g b n=>draw b.1 b.2 (v:=items[i]) (by simp[g]) λk d c=>n _ k s.toks (by simp[g]) ⟨d,b.2.ext c.extBut f⟩ c
 done:=λs Q E b l=>zr m b.1 b.2 (by simp) l
def E6{prog:Program}{w:World}{A:Around}(g:A.handled=none)(t:Bool)(it a:Addr)(items:Array Value)(k:Nat)(c:items.size<=k):
  Draws prog w A it [it,a] k (λi v=>items[i]?=some v) (λi h=>i=k/\It t h it a k/\Sq t h a items) where
 live:=λ_ _ b=>by obtain⟨o,h,_⟩:=b.2.1.obj;exact⟨o,h⟩
 frame:=λ_ _ _ b c=>⟨b.1,b.2.1.at λo e=>c it (by simp) o e,b.2.2.at λo e=>c a (by simp) o e⟩
 item:=λi s Q E d b j=>absurd b.1 (Qwq d)
 done:=λs Q E b f=>zr g b.2.1 b.2.2 (by simp[c]) f
abbrev E2(t:Bool)(h:Heap)(a:Addr):Heap:=(H1 t h a).push {cls:=.type "enumerate",data:=.fields #[.none,.bool false,.ref h.objs.size,rawInt 0,.none,.none]}
def BR(t:Bool)(a:Addr)(xs:Array Value):Meets (Builtin.«enumerate.__new__» ⟨[.type "enumerate",.ref a],[]⟩) (λ_ R s=>Sq t s.heap a xs/\R (.ok (.ret (.ref (H1 t s.heap a).objs.size))) {s with heap:=E2 t s.heap a}):=
 .of_wp λl w A R s h=>by
  obtain⟨k,g,d,e,i⟩:=s
  obtain⟨f,h⟩:=h
  have j:=sub_enumerate
  cases t
  ·have b:Heap.IsList (Shared.heap ⟨k,g,d,e,i⟩) a xs:=f
   wp_walk
   refine wpAny_stack_any λm=>Qgq ?_
   split
   ·rename_i c _ _ _ _ _
    cases (c==Value.type "enumerate")
    ·wp_walk using wpAny_pyIter_list b
     exact⟨_,rfl,h⟩
    ·wp_walk using wpAny_pyIter_list b
     exact⟨_,rfl,h⟩
   ·wp_walk using wpAny_pyIter_list b
    exact⟨_,rfl,h⟩
  ·have b:Heap.IsTuple (Shared.heap ⟨k,g,d,e,i⟩) a xs:=f
   wp_walk
   refine wpAny_stack_any λm=>Qgq ?_
   split
   ·rename_i c _ _ _ _ _
    cases (c==Value.type "enumerate")
    ·wp_walk using wpAny_pyIter_tuple b
     exact⟨_,rfl,h⟩
    ·wp_walk using wpAny_pyIter_tuple b
     exact⟨_,rfl,h⟩
   ·wp_walk using wpAny_pyIter_tuple b
    exact⟨_,rfl,h⟩
section
variable{prog:Program}{w:World}{A:Around}{E:Value->Shared->Prop}{s:Shared}
def L6{t:Bool}{a:Addr}{xs:Array Value}{Q:Value->Shared->Prop}(f:Sq t s.heap a xs)
  (q:∀h',IsEnum h' (s.heap.objs.size+1) s.heap.objs.size 0 .none->It t h' s.heap.objs.size a 0->(∀c o,s.heap.get? c=some o->h'.get? c=some o)->Q (.ref (s.heap.objs.size+1)) {s with heap:=h'}):
  wpAny (model prog w) A (call (.type "enumerate") [.ref a]) Q E s:=by
 refine callType_new F.called_enumerate (by decide) (F.typeCall_enumerate_1 _) (F.newCall_enumerate_1 _) (λb=>F.args_object_init_2 b _) F.entry_enumerate_new (BR t a xs) ⟨f,?_⟩
 have e:(H1 t s.heap a).objs.size=s.heap.objs.size+1:=Heap.size_push ..
 have d:(E2 t s.heap a).get? (H1 t s.heap a).objs.size=some _:=Qrq _ rfl
 have g:(E2 t s.heap a).get? s.heap.objs.size=some _:=Qcq _ (Qrq _ rfl)
 refine(?_:_/\_)
 rw[e] at d
 rw[e]
 refine⟨⟨_,d,rfl⟩,q _ d ?_ λc o n=>Qcq _ (Qcq _ n)⟩
 cases t <;>exact⟨_,g,rfl,rfl⟩
end
end Zq
namespace L2
open PySem PyProof.Rows Zq
def OE(K:PySem.W.Frag)(t:Bool)(a:Addr):It:=
  ⟨λi H=>∃b x,qe K t H a b/\b[i]?=some x,
   λi H v c=>∃p,v=.ref p/\H p=none/\∀b x,qe K t H a b->b[i]?=some x->c=upd H p (.tup [.int (i:Nat),x]),
   λi H=>∃b,qe K t H a b/\b.length<=i⟩
def DX{P:Program}{w:World}{K:PySem.W.Frag}{r:List Expr}{x1:Nat}{tp:Pos}{t:Bool}{e it a:Addr}(l:e≠it)(J:a≠e)(N:a≠it):
  Turn P w K (.Tuple r x1 tp) (OE K t a) [e,it] e (λn h=>(∃d,IsEnum h e it (n:Nat) d)/\Zq.It t h it a n) where
 mem:=by simp
 obj:=λn h ⟨⟨d,f⟩,i⟩ c b=>by
  simp at b
  rcases b with rfl|rfl
  ·exact⟨_,f,λv n=>by cases n⟩
  ·exact i.obj
 keep:=λn h h' ⟨⟨d,f⟩,i⟩ k=>⟨⟨d,k e (by simp) _ f⟩,i.at λo e=>k it (by simp) o e⟩
 item:=by
  rintro X q M B b n j s Z H E I u ⟨⟨d,f⟩,i⟩ C
  subst q M B
  obtain⟨xs,x,y,F⟩:=C
  obtain⟨g,z,R,_⟩:=I.sq y
  obtain⟨ux,Y,rx⟩:=z.get F
  have lt:∀{c o},s.heap.get? c=some o->c≠s.heap.objs.size:=λe=>Qwq (Qiq e)
  have m:∀c∈[e,it],c≠s.heap.objs.size:=λc b=>by
   obtain⟨oi,e1,_⟩:=i.obj
   simp at b
   rcases b with rfl|rfl
   ·exact lt f
   ·exact lt e1
  have Q:n<g.toArray.size:=by
   have:=(gQs.mp Y).1
   simpa using this
  refine wpAny_pyNext_enum_itemD (Hl (A:=X.A.in1) (I.ok.hd b) t it a N g.toArray) f ⟨i,R⟩ Q l (by simp[l,Ne.symm J]) λx' h1 U q ho G hT a0 hk=>⟨_,rfl,?_⟩
  obtain rfl:x'=ux:=by
   have:=q
   simp only[List.getElem?_toArray] at this
   rw[Y] at this
   exact(QdQ this).symm
  refine wpAny_letOwnedTupleGo_enum ho λh2 e2 S=> ?_
  have I2:Inv X j Z (upd H s.heap.objs.size (.tup [.int (n:Nat),x])) {s with heap:=h2,toks:=U+1}:=I.turnedNew (t':=U+1) (fp:= [e,it]) u (λc o b p=> ?_) (Qmq _) ?_
  ·refine⟨.ref s.heap.objs.size,_,I2,rfl,⟨s.heap.objs.size,rfl,I.hok.fresh (Qmq _),λa1 x' q1 L=> ?_⟩,⟨⟨_,by simpa using e2⟩,G.1.ext S.extBut (Ne.symm l)⟩,λc b=> ?_⟩
   ·rw[I.sq_inj q1 y] at L
    rw[F] at L
    cases L
    rfl
   ·rw[bo (m c b)]
    exact(u c b).1
  ·simp at b
   exact S.extBut _ _ b.1 (hk c o b.1 b.2 p)
  ·exact⟨by show 2<=_;decide,[_,_],.cons ⟨_,rfl⟩ (.cons rx .nil),_,S.extBut _ _ (λp=>m e (by simp) p.symm) hT,rfl,rfl,0,rfl⟩
 done:=by
  rintro X q M B b n j s Z H E I u ⟨⟨d,f⟩,i⟩ C
  subst q M B
  obtain⟨xs,y,F⟩:=C
  obtain⟨g,z,R,_⟩:=I.sq y
  have hl:=z.length
  refine wpAny_pyNext_enum_endD (E6 (A:=X.A.in1) (I.ok.hd b) t it a g.toArray n (by simp;omega)) f ⟨rfl,i,R⟩ λh1 r1=>⟨rfl,I.turnedL (t':=s.toks) (fp:= [e,it]) u λc o b p=> ?_⟩
  simp at b
  exact r1 c o b.2 p
 self:=λ_ _ _ _ _ ⟨⟨d,f⟩,_⟩ h=>wpAny_pyIter_enum f h
section
variable{X:Cx}
def ML(K:PySem.W.Frag)(d:TA):TI:=λb H R=>d b H λe H1=>∃(t:Bool) (a:Addr) (c:List V),e= [.ref a]/\qe K t H1 a c/\R (OE K t a) H1
def IR{d:List Expr}{G:Nat}{M:Pos}{a:Expr}{o:TA}{p pos:Pos}(y:Gl X "enumerate")(L:X.mg "enumerate"=none)(B:PA X [a] o)(A:starEach [a] X.env= [(false,eval a X.env)]:=by rfl):
  PI X (.Tuple d G M) (.Call (.Name "enumerate" p) [a] [] pos) (ML X.K o):=by
 intro b s C H R I h
 refine Call_ (kz I y L (by rfl) (PyProof.Rows.callWith_type1 (df (B pos b s C H _ I h) λU g ⟨Q,H1,f,w,z⟩=> ?_) A rfl))
 obtain⟨t,x,P,e,F,q⟩:=z
 subst e
 cases w with
 | cons r J=>
   cases J
   cases r
   obtain⟨u,N,n,_⟩:=f.sq F
   have i:=Sq.lt n
   refine Zq.L6 n λS l v k=> ?_
   refine wpAny_pyIter_enum l ⟨_,_,_,_,H1,rfl,f.kept (t':=g.toks) k,DX (e:=g.heap.objs.size+1) (it:=g.heap.objs.size) (Nat.succ_ne_self _) (Qwq (Nat.lt_succ_of_lt i)) (Qwq i),⟨⟨_,l⟩,v⟩,λc j=> ?_,q⟩
   have m:g.heap.objs.size<=c:=by
     simp only[Qsq,QXq,or_false] at j
     rcases j with e|e <;>(rw[e];first|exact Qmq _|exact Nat.le_add_right _ _)
   exact f.fpOk m (f.hok.fresh m)
end
end L2
namespace DL
open PySem PySem.Spec L2
def sj(n:Nat):List D->List D
 | []=> []
 |d::ds=>.tup [.int n,d]::sj (n+1) ds
theorem qT:∀{ds:List D} {n i:Nat} {d:D},(sj n ds)[i]?=some d->∃x,ds[i]?=some x/\d=.tup [.int ((n+i:Nat)),x]
 | [],_,_,_,h=>by simp[sj] at h
 | x::ds,n,0,d,h=>by
   simp only[sj,List.getElem?_cons_zero,Option.some.injEq] at h
   exact⟨x,rfl,h.symm⟩
 | x::ds,n,i+1,d,h=>by
   simp only[sj,List.getElem?_cons_succ] at h
   obtain⟨y,b,a⟩:=qT h
   exact⟨y,by simpa using b,by rw[a];congr 3;omega⟩
theorem wI:∀{ds:List D} {n:Nat},(sj n ds).length=ds.length
 | [],_=>rfl
 |_::_,_=>congrArg (·+1) wI
def Ct(f:dF):vw:=λb S=>(f b S).bind λ(p,a)=>some ((sj 0 p.1,λS=>p.2.stays S p.1),a)
section
variable{X:Cx}{a:Expr}{pos:Pos}
def Nu{c:List Expr}{j:Nat}{Q p:Pos}{f:dF}(C:Gl X "enumerate")(P:X.mg "enumerate"=none)(I:PE X a (tQ (md X) f))(o:starEach [a] X.env= [(false,eval a X.env)]:=by rfl):
  PI X (.Tuple c j Q) (.Call (.Name "enumerate" p) [a] [] pos) (tI (md X) (Ct f)):=LJ (IR C P (cP I fq o) o) λσ H R ⟨ρ,A,S,ds,W,S',ok,e,q⟩=>by
 obtain⟨⟨⟨m,Z⟩,Y⟩,y,e⟩:=av e
 obtain⟨N,rfl⟩:=cv e
 obtain⟨rfl,rfl⟩:=Prod.mk.inj N
 refine⟨ρ,A,S,m,Z,Y,ok,y,λB L l H1 j k n z=> ?_⟩
 refine⟨_,L,l,rfl,n.sqB,q _ _ _ j k λi U S3 H3 J b w=> ?_⟩
 obtain⟨h,g,s⟩:=n.to z J b w
 refine⟨λd F=> ?_,λG=>⟨h,g.sqB,?_⟩⟩
 ·obtain⟨x,K,rfl⟩:=qT F
  obtain⟨u,r,t⟩:=s.get K
  refine⟨⟨h,u,g.sqB,r⟩,λv H4 M=> ?_⟩
  obtain⟨p,rfl,hp,hq⟩:=M
  have:=hq h u g.sqB r
  subst this
  refine⟨cq.laid hp,b.lay hp,.tup bN ((bf.cons ?_ (.cons t .nil)).ext (cq.laid hp))⟩
  rw[Nat.zero_add]
  exact .int _
 ·rw[G,wI,s.length]
  exact Qmq _
end
structure Dc(P:Program)(w:World)(K:PySem.W.Frag)(mg:Str->Option Value)(x:Str)(tbl:List (Str×Str)):Prop where
 at_:∃a,mg x=some (.ref a)/\∀h:Heap,K.In h->∃vs,h.DictOf (bZ P w) a vs/\∀k nm,tbl.lookup k=some nm->∃f,valueAt vs (Sum.inr k:Key)=some (.ref f)/\mg nm=some (.ref f)
section
variable{X:Cx}{a b c e:Expr}{pos:Pos}
def Nc(d:List (Str×Str))(g:bE):bE:=λh S=>(g h S).bind λ(y,f)=>match y with
 |.str x=>(d.lookup x).bind λnm=>some (.fn nm,f)
 |_=>none
def HM{x:Str}{j:List (Str×Str)}{g:bE}{p:Pos}(hD:Dc X.prog X.w X.K X.mg x j)(U:Gl X x)(hb:PE X b (tD (md X) g))(W:Iq b)(hd:(x==("__debug__":Str))=false:=by decide):
  PE X (.Subscript (.Name x p) b pos) (tD (md X) (Nc j g)):=by
 rintro i s σ H Q I ⟨B,R,S,d,S',ok,e,q⟩
 obtain⟨a,hm,L⟩:=hD.at_
 obtain⟨⟨y,A⟩,G,e⟩:=av e
 cases y with
 | str z=>
   obtain⟨nm,Y,e⟩:=av e
   obtain⟨rfl,rfl⟩:=cv e
   refine C8 PySem.F.slot_dict_getitem.lookup W (yx I U hm ?_ hd)
   refine df (hb i s σ H (λv l=>∃h,cq B H h l/\fR (md X) h A l/\Rel (md X) h l (.str z) v) I ⟨B,R,S,_,A,ok,G,λh v l x C r=>⟨h,x,C,r⟩⟩) λiv Z J=> ?_
   obtain⟨v,H2,u,rv,h,x2,n,r2⟩:=J
   obtain⟨vs,t,hv⟩:=L _ u.kIn
   obtain⟨f,M,m⟩:=hv z nm Y
   cases r2
   have N:Z.TypeIs (.ref a) "dict":=by
     obtain⟨o,es,ep,P,h2,h3,_⟩:=t
     exact⟨o,P,h2.1⟩
   refine⟨N,wpAny_getItem_of (zM (k:=Sum.inr z) rv) t.mapOf M ?_⟩
   exact⟨.ref f,H2,u.tok _,rfl,q _ _ _ x2 n (.fn m)⟩
 |_=>cases e
def uD(i:Nat)(T:List (Str×dG))(g:fW):bE:=λd S=>match d[i]? with
 |some (some (.fn x))=>(T.lookup x).bind λF=>aA F g d S
 |_=>none
def HY{i k:Nat}{y:Str}{ps:List Str}{T:List (Str×dG)}{j:List Expr}{g:fW}{p:Pos}(R:∀x F,T.lookup x=some F->fD X.prog X.w X.K X.mg X.base k x ps F)(M:er k X.A)(hN:X.N[i]?=some y)(hv:Jr X.env.scope y)
  (ha:PA X (e::j) (ze (md X) g)) (hn:nA ps.length g) (t:(y==("__debug__":Str))=false:=by decide) (z:(y==("__classdict__":Str))=false:=by decide) (he:starEach (e::j) X.env=(false,eval e X.env)::starEach j X.env:=by rfl) (hpl:(backTo pos (starEach j X.env)).any (·.1)=false:=by rfl):
  PE X (.Call (.Name y p) (e::j) [] pos) (tD (md X) (uD i T g)):=by
 rintro h s B H Q I ⟨ρ,Z,S,d,S',ok,e,q⟩
 unfold uD at e
 split at e
 ·rename_i x hx
  obtain⟨F,o,e⟩:=av e
  obtain⟨f,fd,G,bb,kp,m⟩:=(R x F o).ex
  obtain⟨v,n,rv⟩:=ok.en.get i _ hx
  cases rv with
  | fn hm=>
    have J:(md X).mg x=some (.ref f):=m
    rw[hm] at J
    cases J
    refine wpAny_Call_Name_kw (df (F6 hN hv t z h s B H (λC l=>C=.ref f/\l=H) I ⟨_,n,rfl,rfl⟩) λu s1 P=> ?_)
    obtain⟨C,l,U,Y,o,e2⟩:=P
    subst o e2
    cases (show u=Value.ref f from Y)
    refine PySem.W.callWith_K (h₀:=X.base) I.ok.mod.kin kp (df (ha pos h s1 B l _ U (Cn hn B l Q ⟨ρ,Z,S,d,S',ok,e,q⟩)) λus s2 ⟨vs,H1,L,r,q2⟩=>⟨L.kIn,?_⟩) he hpl
    exact FB G M bb .nil E_ L r q2
 ·cases e
end
def BW(w:World)(x:Str):PyData.keyHash w.params x=hashStr w x:=by
 unfold PyData.keyHash hashStr
 first|rfl|simp
inductive Al(w:World)(mg:Str->Option Value):List DictEntry->List (Str×Str)->Prop
 |nil:Al w mg [] []
 |cons {x nm:Str} {t:Tok} {f:Addr} {es:List DictEntry} {tbl:List (Str×Str)}:mg nm=some (.ref f)->Al w mg es tbl->Al w mg (⟨PyData.keyHash w.params x,.str x t,.ref f⟩::es) ((x,nm)::tbl)
def Al.keys{P:Program}{w:World}{mg:Str->Option Value}{b:List DictEntry}{a:List (Str×Str)}(c:Al w mg b a):∀e∈b,∃k,(bZ P w).is k e.key=true/\e.hash=(bZ P w).hash k:=by
 induction c with
 |nil=>intro e h;cases h
 | @cons x nm t f b a hm c ih=>
   intro e h
   rcases Qsq.mp h with rfl|h
   · exact⟨Sum.inr x,qL x t,BW w x⟩
   · exact ih e h
def Al.pairs{P:Program}{w:World}{mg:Str->Option Value}{b:List DictEntry}{a:List (Str×Str)}(d:Al w mg b a):∃vs:List (Key×Value),Pairs (bZ P w) b vs/\vs.map (·.1)=a.map (λp=>Sum.inr p.1)∧
  ∀k nm,a.lookup k=some nm->∃f,valueAt vs (Sum.inr k:Key)=some (.ref f)/\mg nm=some (.ref f):=by
 induction d with
 |nil=>exact⟨[],.nil,rfl,λk nm h=>by cases h⟩
 | @cons x nm t f b a hm d ih=>
   obtain⟨vs,i,j,l⟩:=ih
   refine⟨(Sum.inr x,.ref f)::vs,.cons (qL x t) rfl i,by simp[j],λk n h=> ?_⟩
   by_cases c:k=x
   · subst c
     rw[List.lookup_cons_self] at h
     cases h
     refine⟨f,?_,hm⟩
     unfold valueAt
     rw[List.find?_cons_of_pos (by simp)]
     rfl
   · have m:(k==x)=false:=by simpa using c
     rw[List.lookup_cons,m] at h
     obtain⟨g,e,o⟩:=l k n h
     refine⟨g,?_,o⟩
     unfold valueAt at e⊢
     rw[List.find?_cons_of_neg]
     · exact e
     · intro z
       have:(Sum.inr x:Key)=Sum.inr k:=by simpa using z
       exact c (Sum.inr.inj this).symm
def Fb{P:Program}{w:World}{K:PySem.W.Frag}{mg:Str->Option Value}{x:Str}{c:List (Str×Str)}{a:Addr}{f:List DictEntry}{o:Nat}(r:mg x=some (.ref a))(l:K.lookup a=some ⟨.type "dict",none,.dict f.toArray o,#[]⟩)(d:Al w mg f c)(nd:(c.map (·.1)).Nodup):Dc P w K mg x c:=by
 obtain⟨g,i,k,q⟩:=d.pairs (P:=P)
 refine⟨a,r,λh j=>⟨g,⟨_,_,_,j _ _ l,⟨rfl,rfl,rfl⟩,rfl,λe m=>d.keys e (by simpa using m),by simpa using i,?_⟩,q⟩⟩
 rw[k]
 have:c.map (λp=>(Sum.inr p.1:Key))=(c.map (·.1)).map Sum.inr:=by rw[QPq];rfl
 rw[this]
 exact List.Pairwise.map _ (λa b n e=>n (Sum.inr.inj e)) nd
theorem E9{P:Program}{w:World}{K:PySem.W.Frag}{mg:Str->Option Value}{base:Heap}{k:Nat}{ps:List Str}:∀{T:List (Str×dG)},(∀p∈T,fD P w K mg base k p.1 ps p.2)->∀x F,T.lookup x=some F->fD P w K mg base k x ps F
 | [],_,x,F,h=>by cases h
 | p::T,g,x,F,h=>by
   by_cases c:x=p.1
   · subst c
     rw[List.lookup_cons_self] at h
     cases h
     exact g p (QBq ..)
   · have b:(x==p.1)=false:=by simpa using c
     rw[List.lookup_cons,b] at h
     exact E9 (λq a=>g q (Qpq _ a)) x F h
def AB:Sp:=λd H Q _=>∃(a:Addr) (b:List Int) (o:Obj),d= [.ref a]/\H a=some (.frz o (.lst (b.map V.int)))/\b.length<=63/\∀c,Q (.bl true) c
theorem wY{M:Md}{ρ:List Addr}{H:Hp}:∀ns:List Int,bf M ρ H (ns.map D.int) (ns.map V.int)
 | []=>.nil
 |s::ss=>.cons (.int s) (wY ss)
def IH{P:Program}{w:World}{K:PySem.W.Frag}{mg:Str->Option Value}{base:Heap}{k:Nat}{f:Addr}{i:FuncData}{ps:List Str}{F:dG}(G:bF P w K mg base d_ k f i ps (eI ⟨K,mg⟩ 1 F))
  (h:∀ns:List Int,ns.length<=63->∃c,F [.ref 0] [.frz (ns.map D.int)]=some (.d (.bl true),c)):bF P w K mg base d_ k f i ps AB:=
 G.imp λu H Q E p=>by
  obtain⟨a,ns,o,e,l,hl,q⟩:=p
  subst e
  obtain⟨c,e⟩:=h ns hl
  refine⟨[a],[.frz (ns.map D.int)],[.ref 0],_,c,rfl,.cons (.ref rfl) .nil,⟨rfl,by simp,λk b s g m=> ?_⟩,e,λn v j x t r=> ?_⟩
  ·cases k with
   |zero=>cases g;cases m;exact⟨_,o,l,wY ns⟩
   |succ k=>simp at g
  ·cases r
   exact q j
def Ci(K:PySem.W.Frag):Bool:=K.all λp=>match p.2.data with|.seq _ _=>(match p.2.cls with|.type s=>s !="list" |_=>true)|_=>true
def DM{K:PySem.W.Frag}(h:Ci K=true){a:Addr}{o:Obj}(e:K.lookup a=some o){d:Array Value}{n:Nat}(hd:o.data=.seq d n):o.cls≠.type "list":=by
 intro j
 have f:∀(K:List (Addr×Obj)),K.all (λp=>match p.2.data with|.seq _ _=>(match p.2.cls with|.type s=>s !="list" |_=>true)|_=>true)=true->K.lookup a=some o->False:=by
  intro K
  induction K with
  |nil=>intro _ e;cases e
  | cons p K i=>
    intro h e
    rw[List.all_cons,QCq] at h
    obtain⟨b,q⟩:=p
    rw[List.lookup_cons] at e
    by_cases c:a=b
    · subst c
      simp only[BEq.rfl] at e
      cases e
      have g:=h.1
      simp only[hd,j] at g
      simp at g
    · have k:(a==b)=false:=by simpa using c
      rw[k] at e
      exact i h.2 e
 exact f K h e
def Lp{K:PySem.W.Frag}{H:Hp}{a:Addr}{ns:List Int}(nl:Ci K=true)(hl:ns.length<=63)(b:IG H)(c:iX K H a (ns.map V.int)):AB [.ref a] H (λv _=>v=.bl true) λ_ _ _=>False:=by
 rcases c with(h|⟨o,h⟩)|⟨o,its,n,h,hc,_,hd,_⟩
 ·rcases b a with z|⟨o,d,z⟩
  ·rw[h] at z;cases z
  ·rw[h] at z;cases z
 ·exact⟨a,ns,o,rfl,h,hl,λ_=>rfl⟩
 ·exact absurd hc (DM nl h hd)
def Mg{l:PySem.W.OpenLaw}{q:Program}{b:List Str}{r:(Str->Option Value)->Heap->Prop}{g:World->Heap->Prop}{d:DefRec}{K:Params->PySem.W.Frag}{k:Nat}(p:l.most=some 63)(c:d.params.defaults= [])(j:er k PySem.callerA)
  (o:∀(w:World) (h:Heap),g w h->(K w.params).In h) (nl:∀w:World,Ci (K w.params)=true)
  (F:∀(w:World) (mg:Str->Option Value) (i:Addr) (h:Heap),(K w.params).In h->h.Ns mainGlobals mg->mg d.name=some (.ref i)→
   ∃e:FuncData,(∀(s:Shared) (u:Value),BindsTo s e ⟨[u],[]⟩ [("_law_script",u)])/\∀base:Heap,(K w.params).In base->base.Ns mainGlobals mg->bF l.prog w (K w.params) mg base d_ k i e ["_law_script"] AB):
  PySem.W.WalkO q b r g l.row.toRowW d [] (λf vs=>PySem.call f vs):=
 L2.IB (n:=63) (k:=k) (x:="_law_script") (CX:=λ_=>d_) (sp:=λ_=>AB) p (by decide) c j o F (λw H a v hl m t=>Lp (nl w) hl m t) λ_ _ _ _ _ z=>z
end DL
namespace DL
open PySem PySem.Spec L2 PyProof.Rows
section
variable{X:Cx}{x:Str}{e:Expr}{f:bE}{pos pos':Pos}
def nK(i:Nat)(b:X.N.Nodup)(he:PE X e (tD (md X) f))(hi:X.N[i]?=some x:=by rfl)(a:Loc X.env.scope x:=by first|exact Or.inl rfl|exact Or.inr rfl)(c:swapsWith e (some (.Name x pos')) pos.line X.env=pure false:=by rfl)
  (d:X.fn x=true\/X.env.scope.names.lookup x=some .local:=by first|exact .inl rfl|exact .inr rfl|assumption):PS X (.Assign [.Name x pos'] e pos) (tS (md X) (bg i f)):=Mx (J2 b hi a he c d)
def Mv(i:Nat)(b:X.N.Nodup)(hi:X.N[i]?=some x:=by rfl)(a:Loc X.env.scope x:=by first|exact Or.inl rfl|exact Or.inr rfl)(c:X.fn x=true\/X.env.scope.names.lookup x=some .local:=by first|exact .inl rfl|exact .inr rfl|assumption):PG X (.Name x pos) (pV i):=yB b hi a c
def uG(i:Nat)(b:X.N.Nodup)(hi:X.N[i]?=some x:=by rfl)(a:Loc X.env.scope x:=by first|exact Or.inl rfl|exact Or.inr rfl)(c:X.fn x=true\/X.env.scope.names.lookup x=some .local:=by first|exact .inl rfl|exact .inr rfl|assumption):PG X (.Name x pos) (tG (md X) (cn i)):=FV (yB b hi a c)
def Bj{N:List Str}{a:Scope}{b:List (Str×Addr)}{C:Addr}{s:Shared}{H:Hp}{fp:List Addr}(i:Nat)(d:N.Nodup:=by decide +kernel)(hi:(aP X N a b C s H fp).N[i]?=some x:=by rfl)(c:Loc (aP X N a b C s H fp).env.scope x:=by first|exact Or.inl rfl|exact Or.inr rfl)
  (g:(aP X N a b C s H fp).fn x=true\/(aP X N a b C s H fp).env.scope.names.lookup x=some .local:=by first|exact .inl rfl|exact .inr rfl|assumption):PG (aP X N a b C s H fp) (.Name x pos) (tG (md (aP X N a b C s H fp)) (cn i)):=FV (yB d hi c g)
def v_(i:Nat)(b:X.N[i]?=some x:=by rfl)(c:Jr X.env.scope x:=by first|exact Or.inl rfl|exact Or.inr (Or.inl rfl)|exact Or.inr (Or.inr rfl))(hd:(x==("__debug__":Str))=false:=by decide)(a:(x==("__classdict__":Str))=false:=by decide):PE X (.Name x pos) (tD (md X) (aw i)):=Mk (pv i b c hd a)
end
section
variable{X:Cx}{x:Str}{k k':Nat}{ps:List Str}{F:dG}{e:Expr}{es:List Expr}{g:fW}{p pos:Pos}
def fM(C:fD X.prog X.w X.K X.mg X.base k x ps F)(b:er k' X.A)(f:PA X (e::es) (ze (md X) g))(h:k<=k':=by first|decide|omega)(c:Gl X x:=by rfl)
  (d:nA ps.length g:=by repeat (first|exact B3|refine mj ?_))
  (a:(x==("__debug__":Str))=false:=by decide) (he:starEach (e::es) X.env=(false,eval e X.env)::starEach es X.env:=by rfl) (hpl:(backTo pos (starEach es X.env)).any (·.1)=false:=by rfl):
  PE X (.Call (.Name x p) (e::es) [] pos) (tD (md X) (aA F g)):=Mr C (b.mono h) c f d a he hpl
def KH(C:fD X.prog X.w X.K X.mg X.base k x ps F)(b:er k' X.A)(f:PA X (e::es) (ze (md X) g))(h:k<=k':=by first|decide|omega)(c:Gl X x:=by rfl)
  (d:nA ps.length g:=by repeat (first|exact B3|refine mj ?_))
  (a:(x==("__debug__":Str))=false:=by decide) (he:starEach (e::es) X.env=(false,eval e X.env)::starEach es X.env:=by rfl) (hpl:(backTo pos (starEach es X.env)).any (·.1)=false:=by rfl):
  PE X (.Call (.Name x p) (e::es) [] pos) (tL (md X) (dj F g)):=LK C (b.mono h) c f d a he hpl
end
def fG{N P:List Str}{sc:Scope}(a:sc.kind=.function:=by rfl)(b:sc.isCoroutine=false:=by rfl)(c:sc.isGenerator=false:=by rfl)(d:N.Nodup:=by decide +kernel)(e:N.take P.length=P:=by rfl)
  (f:∀x∈P,sc.names.lookup x=some .local\/sc.names.lookup x=some .cell:=by decide +kernel) (g:∀y∈sc.names,y.2≠.free:=by decide +kernel):aJ N P sc:=⟨a,b,c,d,e,f,g⟩
structure bq(K:PySem.W.Frag)(x:Str)(st:Stmt)(f:Addr):Prop where
 ex:∃(oc:Value) (od:Option Addr) (kV dc pm:Value) (an:Option Addr) (cd ct:Value) (sl:Array (Option Value)),PySem.W.nsIn K mainGlobals x=some (some (.ref f))∧
  K.lookup f=some ⟨oc,od,.func (PySem.W.fnOf x x (ie st) (e_ st) (aD st) .none kV dc pm an cd ct),sl⟩/\PySem.W.codeIn K cd x=true/\PySem.W.keepIn K (.ref f)=true
def bq.of{K:PySem.W.Frag}{x:Str}{st:Stmt}{f:Addr}{g:Value}{i:Option Addr}{kV d h:Value}{j:Option Addr}{b ct:Value}{e:Array (Option Value)}(a:PySem.W.nsIn K mainGlobals x=some (some (.ref f)))
  (l:K.lookup f=some ⟨g,i,.func (PySem.W.fnOf x x (ie st) (e_ st) (aD st) .none kV d h j b ct),e⟩) (c:PySem.W.codeIn K b x=true) (k:PySem.W.keepIn K (.ref f)=true):bq K x st f:=⟨g,i,kV,d,h,j,b,ct,e,a,l,c,k⟩
structure NJ(K:PySem.W.Frag)(mg:Str->Option Value)(x:Str)(st:Stmt)(ps:List Str)(f:Addr):Prop where
 ex:∃fd,eK K x x st f fd/\Binds K fd ps []/\PySem.W.keepIn K (.ref f)=true
 m:mg x=some (.ref f)
def bq.ok1{K:PySem.W.Frag}{mg:Str->Option Value}{x:Str}{st:Stmt}{ps:List Str}{f:Addr}{h:Heap}(D:bq K x st f)(X:K.In h)(G:h.Ns mainGlobals mg)
  (l:∀(kV d j:Value) (e:Option Addr) (c ct:Value) (a:List Value),a.length=ps.length->bindArgs (PySem.W.fnOf x x (ie st) (e_ st) (aD st) .none kV d j e c ct) ⟨a,[]⟩=pure (ps.zip a):=by intro _ _ _ _ _ _ a hl;rcases a with _|⟨_,_|⟨_,_|⟨_,_|⟨_,_|⟨_,_|⟨_,_⟩⟩⟩⟩⟩⟩ <;>first|rfl|cases hl):NJ K mg x st ps f:=by
 obtain⟨o,n,kV,m,j,e,p,ct,q,k,g,i,b⟩:=D.ex
 exact⟨⟨_,B_ g i b,(B_ g i b).binds l,b⟩,PySem.W.mg_of X G k⟩
structure Pk(P:Program)(w:World)(base:Heap):Prop where
def NJ.cal{P:Program}{w:World}{base:Heap}{K:PySem.W.Frag}{mg:Str->Option Value}{x:Str}{st:Stmt}{ps:List Str}{f:Addr}{k:Nat}{F:dG}(O:NJ K mg x st ps f)(Z:Pk P w base)
  (h:∀a,eK K x x st f a->Binds K a ps []->PySem.W.keepIn K (.ref f)=true->mg x=some (.ref f)->bF P w K mg base d_ k f a ps (eI ⟨K,mg⟩ ps.length F)):fD P w K mg base k x ps F:=by
 obtain⟨a,d,b,c⟩:=O.ex
 exact⟨f,a,h a d b c O.m,b,c,O.m⟩
end DL
namespace DL
open PySem PySem.Spec L2
def E{α:Type}(f:cN->aF->Option (α×aF))(c:cN)(S:aF)(Q:α->aF->Prop):Prop:=∃a b,f c S=some (a,b)/\Q a b
def T(f:cX)(a:cN)(S:aF)(Q:Out->Prop):Prop:=∃o,f a S=some o/\Q o
def Fn(F:dG)(ds:List D)(S:aF)(Q:Res->aF->Prop):Prop:=∃r a,F ds S=some (r,a)/\Q r a
def Tg(g:mI)(d:D)(c:cN)(S:aF)(Q:cN->aF->Prop):Prop:=∃a b,g d c S=some (a,b)/\Q a b
def M1(g:sH)(d:List D)(c:cN)(S:aF)(Q:cN->aF->Prop):Prop:=∃a b,g d c S=some (a,b)/\Q a b
def Op{α:Type}(o:Option α)(Q:α->Prop):Prop:=∃d,o=some d/\Q d
section
variable{Γ:cN}{S:aF}
def E.mono{α:Type}{f:cN->aF->Option (α×aF)}{Q R:α->aF->Prop}(h:E f Γ S Q)(i:∀a S,Q a S->R a S):E f Γ S R:=by
 obtain⟨a,b,e,q⟩:=h
 exact⟨a,b,e,i _ _ q⟩
def T.mono{f:cX}{Q R:Out->Prop}(h:T f Γ S Q)(i:∀o,Q o->R o):T f Γ S R:=by
 obtain⟨a,e,q⟩:=h
 exact⟨a,e,i _ q⟩
def aK{i:Nat}{d:D}{Q:D->aF->Prop}(h:Γ[i]?=some (some d))(q:Q d S):E (aw i) Γ S Q:=⟨d,S,by unfold aw;rw[h],q⟩
def fQ{d:D}{Q:D->aF->Prop}(q:Q d S):E (cF d) Γ S Q:=⟨d,S,rfl,q⟩
def fF{Q:List D->aF->Prop}(q:Q [] S):E ax Γ S Q:=⟨[],S,rfl,q⟩
def bX{f:bE}{g:fW}{Q:List D->aF->Prop}(h:E f Γ S λd a=>E g Γ a λds S2=>Q (d::ds) S2):E (au f g) Γ S Q:=by
 obtain⟨d,a,b,ds,S2,c,q⟩:=h
 exact⟨_,_,by unfold au;rw[b];simp only[Qbq];rw[c];rfl,q⟩
def cc{o:uj}{f g:bE}{Q:D->aF->Prop}(h:E f Γ S λx a=>E g Γ a λy S2=>Op (o S2 x y) λd=>Q d S2):E (aW o f g) Γ S Q:=by
 obtain⟨x,a,b,y,S2,c,d,e,q⟩:=h
 exact⟨d,S2,by unfold aW;rw[b];simp only[Qbq];rw[c];simp only[Qbq];rw[e];rfl,q⟩
def zi{f:fW}{Q:D->aF->Prop}(h:E f Γ S λds a=>ds.length<=sizeLine/\Q (.tup ds) a):E (a8 f) Γ S Q:=by
 obtain⟨ds,a,b,l,q⟩:=h
 exact⟨_,_,by unfold a8;rw[b];simp only[Qbq];rw[Qhq l],q⟩
def pJ{f:fW}{Q:List D->aF->Prop}(h:E f Γ S λds a=>ds.length<=sizeLine/\Q ds a):E (bt f) Γ S Q:=by
 obtain⟨ds,a,b,l,q⟩:=h
 exact⟨_,_,by unfold bt;rw[b];simp only[Qbq];rw[Qhq l],q⟩
def rC{f:fW}{Q:D->aF->Prop}(h:E f Γ S λds a=>Q (.ref a.length) (a++ [.lst ds])):E (bT f) Γ S Q:=by
 obtain⟨ds,a,b,q⟩:=h
 exact⟨_,_,by unfold bT;rw[b];rfl,q⟩
def Oa{o:JV}{f:fW}{Q:D->aF->Prop}(h:E f Γ S λds a=>Op (o ds) λd=>Q d a):E (A_ o f) Γ S Q:=by
 obtain⟨ds,a,b,d,c,q⟩:=h
 exact⟨d,a,by unfold A_;rw[b];simp only[Qbq];rw[c];rfl,q⟩
def dt{f:bE}{Q:(List D×Tag)->aF->Prop}(h:E f Γ S λd a=>Op (qX a d) λp=>Q p a):E (a9 f) Γ S Q:=by
 obtain⟨e,a,b,d,c,q⟩:=h
 exact⟨d,a,by unfold a9;rw[b];simp only[Qbq];rw[c];rfl,q⟩
def qu{f:fW}{Q:(List D×Tag)->aF->Prop}(h:E f Γ S λds a=>Q (ds,.fr) a):E (gL f) Γ S Q:=by
 obtain⟨ds,a,b,q⟩:=h
 exact⟨_,a,by unfold gL;rw[b];rfl,q⟩
def Au{f:dF}{Q:D->aF->Prop}(h:E f Γ S λp a=>Q (.int p.1.length) a):E (hV f) Γ S Q:=by
 obtain⟨p,a,b,q⟩:=h
 exact⟨_,a,by unfold hV;rw[b];rfl,q⟩
def JX{f:dF}{Q:D->aF->Prop}(h:E f Γ S λp a=>Q (.tup p.1) a):E (tupQ f) Γ S Q:=by
 obtain⟨p,a,b,q⟩:=h
 exact⟨_,a,by unfold tupQ;rw[b];rfl,q⟩
def Lj{f:dF}{Q:(List D×Tag)->aF->Prop}(h:E f Γ S λp a=>p.2.isL=true/\Q p a):E (gA f) Γ S Q:=by
 obtain⟨p,a,b,l,q⟩:=h
 exact⟨_,a,by unfold gA;rw[b];simp only[Qbq];rw[Qhq l],q⟩
def yV{f:dF}{Q:D->aF->Prop}(h:E f Γ S λp a=>(p.2.isL=true/\p.2.stays a p.1)/\Q (.bl (!p.1.isEmpty)) a):E (dB f) Γ S Q:=by
 obtain⟨p,a,b,l,q⟩:=h
 exact⟨_,a,by unfold dB;rw[b];simp only[Qbq];rw[Qhq l],q⟩
def nV{F:dG}{g:fW}{Q:D->aF->Prop}(h:E g Γ S λds a=>Fn F ds a λr S2=>match r with|.d x=>Q x S2|.l _=>False):E (aA F g) Γ S Q:=by
 obtain⟨ds,a,b,r,S2,c,q⟩:=h
 cases r with
 |d x=>exact⟨x,S2,by unfold aA;rw[b];simp only[Qbq];rw[c];rfl,q⟩
 |l x=>exact q.elim
def C4{F:dG}{g:fW}{Q:List D->aF->Prop}(h:E g Γ S λds a=>Fn F ds a λr S2=>match r with|.d _=>False|.l x=>Q x S2):E (dj F g) Γ S Q:=by
 obtain⟨ds,a,b,r,S2,c,q⟩:=h
 cases r with
 |d x=>exact q.elim
 |l x=>exact⟨x,S2,by unfold dj;rw[b];simp only[Qbq];rw[c];rfl,q⟩
def b_{f:bE}{Q:Bool->aF->Prop}(h:E f Γ S λd a=>match d with|.bl k=>Q k a|_=>False):E (aI f) Γ S Q:=by
 obtain⟨d,a,b,q⟩:=h
 cases d with
 |bl k=>exact⟨k,a,by unfold aI;rw[b];rfl,q⟩
 |_=>exact q.elim
def wF{f:bE}{Q:Bool->aF->Prop}(h:E f Γ S λd a=>Op (Bb a d) λk=>Q k a):E (mK f) Γ S Q:=by
 obtain⟨d,a,b,k,c,q⟩:=h
 exact⟨k,a,by unfold mK;rw[b];simp only[Qbq];rw[c];rfl,q⟩
def tK{f:kA}{Q:Bool->aF->Prop}(h:E f Γ S λk a=>Q (!k) a):E (vN f) Γ S Q:=by
 obtain⟨k,a,b,q⟩:=h
 exact⟨_,a,by unfold vN;rw[b];rfl,q⟩
def mf{f g:kA}{Q:Bool->aF->Prop}(h:E f Γ S λk a=>if k=true then E g Γ a Q else Q false a):E (g7 f g) Γ S Q:=by
 obtain⟨k,a,b,q⟩:=h
 cases k with
 |true=>obtain⟨j,c,d,q⟩:=(q:E g Γ a Q);exact⟨j,c,by unfold g7;rw[b];exact d,q⟩
 |false=>exact⟨false,a,by unfold g7;rw[b];rfl,q⟩
def Dx{f g:kA}{Q:Bool->aF->Prop}(h:E f Γ S λk a=>if k=true then Q true a else E g Γ a Q):E (GV f g) Γ S Q:=by
 obtain⟨k,a,b,q⟩:=h
 cases k with
 |true=>exact⟨true,a,by unfold GV;rw[b];rfl,q⟩
 |false=>obtain⟨j,c,d,q⟩:=(q:E g Γ a Q);exact⟨j,c,by unfold GV;rw[b];exact d,q⟩
def Oq{c:kA}{f g:bE}{Q:D->aF->Prop}(h:E c Γ S λk a=>if k=true then E f Γ a Q else E g Γ a Q):E (xv c f g) Γ S Q:=by
 obtain⟨k,a,e,q⟩:=h
 cases k with
 |true=>obtain⟨j,b,d,q⟩:=(q:E f Γ a Q);exact⟨j,b,by unfold xv;rw[e];exact d,q⟩
 |false=>obtain⟨j,b,d,q⟩:=(q:E g Γ a Q);exact⟨j,b,by unfold xv;rw[e];exact d,q⟩
def lC{i:Nat}{f:bE}{Q:Out->Prop}(h:E f Γ S λd a=>Q (.nx (Γ.set i (some d)) a)):T (bg i f) Γ S Q:=by
 obtain⟨d,a,b,q⟩:=h
 exact⟨_,by unfold bg;rw[b];rfl,q⟩
def i9{f:bE}{Q:Out->Prop}(h:E f Γ S λd a=>Q (.rt d a)):T (cH f) Γ S Q:=by
 obtain⟨d,a,b,q⟩:=h
 exact⟨_,by unfold cH;rw[b];rfl,q⟩
def NH{f:fW}{Q:Out->Prop}(h:E f Γ S λd a=>Q (.rl d a)):T (GT f) Γ S Q:=by
 obtain⟨d,a,b,q⟩:=h
 exact⟨_,by unfold GT;rw[b];rfl,q⟩
def iZ{f:bE}{Q:Out->Prop}(h:E f Γ S λd a=>Q (.nx Γ a)):T (m8 f) Γ S Q:=by
 obtain⟨d,a,b,q⟩:=h
 exact⟨_,by unfold m8;rw[b];rfl,q⟩
def cy{Q:Out->Prop}(q:Q (.nx Γ S)):T fV Γ S Q:=⟨_,rfl,q⟩
def NV{f:bE}{g:mI}{Q:Out->Prop}(h:E f Γ S λd b=>Tg g d Γ b λa S2=>Q (.nx a S2)):T (tf f g) Γ S Q:=by
 obtain⟨d,b,c,a,S2,e,q⟩:=h
 exact⟨_,by unfold tf;rw[c];simp only[Qbq];rw[e];rfl,q⟩
def bC{f g:cX}{Q:Out->Prop}(h:T f Γ S λo=>match o with|.nx a b=>T g a b Q|o=>Q o):T (aH f g) Γ S Q:=by
 obtain⟨o,c,q⟩:=h
 cases o with
 |nx a b=>obtain⟨o,d,q⟩:=(q:T g a b Q);exact⟨o,by unfold aH;rw[c];exact d,q⟩
 |_=>exact⟨_,by unfold aH;rw[c];rfl,q⟩
def dZ{c:kA}{f g:cX}{Q:Out->Prop}(h:E c Γ S λk a=>if k=true then T f Γ a Q else T g Γ a Q):T (eS c f g) Γ S Q:=by
 obtain⟨k,a,d,q⟩:=h
 cases k with
 |true=>obtain⟨j,b,q⟩:=(q:T f Γ a Q);exact⟨j,by unfold eS;rw[d];exact b,q⟩
 |false=>obtain⟨j,b,q⟩:=(q:T g Γ a Q);exact⟨j,by unfold eS;rw[d];exact b,q⟩
def a_{i:Nat}{d:D}{Q:cN->aF->Prop}(q:Q (Γ.set i (some d)) S):Tg (cn i) d Γ S Q:=⟨_,_,rfl,q⟩
def OS{f g:bE}{d:D}{Q:cN->aF->Prop}(h:E f Γ S λx a=>E g Γ a λy S2=>∃k i ds j,x=.ref k/\y=.int i/\S2[k]?=some (.lst ds)/\GU ds.length i=some j/\Q Γ (S2.set k (.lst (ds.set j d)))):Tg (K5 f g) d Γ S Q:=by
 obtain⟨x,a,b,y,S2,c,k,i,ds,j,rfl,rfl,h1,h2,q⟩:=h
 exact⟨_,_,by unfold K5;rw[b];simp only[Qbq];rw[c];simp only[Qbq,h1,h2],q⟩
def hU{i:vw}{g:mI}{b:cX}{Q:Out->Prop} (h:E i Γ S λp v=>∃I:Nat->cN->aF->Prop,I 0 Γ v/\(∀n a e,I n a e->p.2 e)∧
   (∀(n:Nat) (d:D) (a:cN) (e:aF),p.1[n]?=some d->I n a e->Tg g d a e λr S2=>T b r S2 λo=>match o with|.nx c f=>I (n+1) c f|.ct c f=>I (n+1) c f|.bk c f=>Q (.nx c f)|o=>Q o)∧
   ∀a e,I p.1.length a e->Q (.nx a e)):T (kH i g b) Γ S Q:=by
 obtain⟨⟨l,W⟩,v,z,I,B,y,j,s⟩:=h
 have C:∀(k n:Nat) (a:cN) (e:aF),n+k=l.length->I n a e->∃o,forL g b W (l.drop n) a e=some o/\Q o:=by
  intro k
  induction k with
  | zero=>
    intro n a e x m
    rw[List.drop_of_length_le (by omega)]
    refine⟨.nx a e,by simp only[forL];rw[Qhq (y _ _ _ m)],s _ _ (by rw[←x];exact m)⟩
  | succ k w=>
    intro n a e x m
    have t:n<l.length:=by omega
    rw[QWq t]
    obtain⟨r,S2,u,o,A,q⟩:=j n l[n] a e (gQe t) m
    simp only[forL]
    rw[Qhq (y _ _ _ m),u]
    simp only[Qbq]
    rw[A]
    simp only[Qbq]
    cases o with
    |nx c f=>exact w (n+1) c f (by omega) q
    |ct c f=>exact w (n+1) c f (by omega) q
    |bk c f=>exact⟨_,rfl,q⟩
    |rt d f=>exact⟨_,rfl,q⟩
    |rl d f=>exact⟨_,rfl,q⟩
 obtain⟨o,u,q⟩:=C l.length 0 Γ v (by omega) B
 exact⟨o,by unfold kH;rw[z];exact u,q⟩
def lV{js:List (Option Nat)}{i:vw}{g:mI}{t:kA}{f:bE}{Q:List D->aF->Prop} (h:E i Γ S λp A=>∃I:Nat->cN->aF->List D->Prop,I 0 (p6 js Γ) A []/\(∀n b j a,I n b j a->p.2 j)∧
   (∀(n:Nat) (d:D) (b:cN) (j:aF) (a:List D),p.1[n]?=some d->I n b j a->Tg g d b j λe S2=>E t e S2 λk w=>if k=true then E f e w λy z=>a.length<sizeLine/\I (n+1) e z (a++ [y]) else I (n+1) e w a)∧
   ∀b j a,I p.1.length b j a->Q a j):E (cp js i g t f) Γ S Q:=by
 obtain⟨⟨o,W⟩,A,G,I,K,C,m,u⟩:=h
 have L:∀(k n:Nat) (b:cN) (j:aF) (a:List D),n+k=o.length->I n b j a->∃r l,mM g t f W (o.drop n) b j a=some (r,l)/\Q r l:=by
  intro k
  induction k with
  | zero=>
    intro n b j a F s
    rw[List.drop_of_length_le (by omega)]
    refine⟨a,j,by simp only[mM];rw[Qhq (C _ _ _ _ s)],u _ _ _ (by rw[←F];exact s)⟩
  | succ k B=>
    intro n b j a F s
    have v:n<o.length:=by omega
    rw[QWq v]
    obtain⟨e,S2,x,c,w,J,q⟩:=m n o[n] b j a (gQe v) s
    simp only[mM]
    rw[Qhq (C _ _ _ _ s),x]
    simp only[Qbq]
    rw[J]
    simp only[Qbq]
    cases c with
    | true=>
      rw[Qhq rfl] at q⊢
      obtain⟨y,z,H,hl,q⟩:=q
      rw[H]
      simp only[Qbq]
      rw[Qhq hl]
      exact B (n+1) e z _ (by omega) q
    | false=>
      rw[Quq (by decide)] at q⊢
      exact B (n+1) e w _ (by omega) q
 obtain⟨r,l,x,q⟩:=L o.length 0 _ A [] (by omega) K
 exact⟨r,l,by unfold cp;rw[G];exact x,q⟩
def Mm{f:bE}{Q:(List D×(aF->Prop))->aF->Prop}(h:E f Γ S λd a=>∃j,d=.int j/\(-(2^62)<=j/\j<2^62)/\Q (ia 0 j,λ_=>True) a):E (vp f) Γ S Q:=by
 obtain⟨d,a,b,j,rfl,hj,q⟩:=h
 exact⟨_,a,by unfold vp;rw[b];simp only[Qbq];rw[Qhq hj],q⟩
def oF{f:dF}{Q:(List D×(aF->Prop))->aF->Prop}(h:E f Γ S λp a=>Q (p.1,λc=>p.2.stays c p.1) a):E (j2 f) Γ S Q:=by
 obtain⟨p,a,b,q⟩:=h
 exact⟨_,a,by unfold j2;rw[b];rfl,q⟩
def jA{m:List D->List D->Option (List D×D)}{f:bE}{g:fW}{Q:D->aF->Prop}(h:E f Γ S λx b=>∃k a,x=.ref k/\b[k]?=some (.lst a)/\E g Γ b λys S2=>∃ds,S2[k]?=some (.lst ds)/\Op (m ds ys) λp=>Q p.2 (S2.set k (.lst p.1))):E (rQ m f g) Γ S Q:=by
 obtain⟨x,b,c,k,a,rfl,h1,ys,S2,e2,ds,h2,p,e3,q⟩:=h
 exact⟨_,_,by unfold rQ;rw[c];simp only[Qbq,e2,h1,h2,e3],q⟩
end
def cg{n:Nat}{b:cX}{ds:List D}{S:aF}{Q:Res->aF->Prop} (h:T b (ds.map some++List.replicate (n-ds.length) none) S λo=>match o with
   |.nx _ a=>Op (settle S .non a) λp=>Q p.1 p.2|.rt d a=>Op (settle S d a) λp=>Q p.1 p.2|.rl l a=>Op (eB S l a) λp=>Q p.1 p.2|_=>False):Fn (eY n b) ds S Q:=by
 obtain⟨o,f,q⟩:=h
 cases o with
 |nx g a=>obtain⟨⟨r,c⟩,e,q⟩:=q;exact⟨r,c,by unfold eY;rw[f];exact e,q⟩
 |rt d a=>obtain⟨⟨r,c⟩,e,q⟩:=q;exact⟨r,c,by unfold eY;rw[f];exact e,q⟩
 |rl d a=>obtain⟨⟨r,c⟩,e,q⟩:=q;exact⟨r,c,by unfold eY;rw[f];exact e,q⟩
 |bk=>exact q.elim
 |ct=>exact q.elim
def ip{S a S2:aF}{d:D}{Q:Res×aF->Prop}(b:pX S a)(ht:a.take S.length=S2)(hd:∀k,d≠.ref k)(hl:cb S.length d=true)(q:Q (.d d,S2)):Op (settle S d a) Q:=by
 refine⟨_,?_,q⟩
 unfold settle
 rw[Qhq b,ht]
 cases d with
 |ref k=>exact absurd rfl (hd k)
 |_=>simp only[hl,if_true]
def nJ{S a S2:aF}{ds:List D}{Q:Res×aF->Prop}(b:pX S a)(ht:a.take S.length=S2)(hl:bS S.length ds=true)(q:Q (.l ds,S2)):Op (eB S ds a) Q:=by
 refine⟨_,?_,q⟩
 unfold eB
 rw[Qhq ⟨b,hl⟩,ht]
def uT{S:aF}:pX S S:=⟨Qmq _,λk o _ h=>.inl h⟩
def vW{S:aF}{k:Nat}{o:O}(h:HE S.length o=true):pX S (S.set k o):=by
 refine⟨by simp,λj u _ e=> ?_⟩
 rw[List.getElem?_set] at e
 split at e
 ·split at e
  ·cases e;exact .inr h
  ·cases e
 ·exact .inl e
end DL
namespace L2
open PySem PySem.Spec PyProof.Rows
end L2
namespace DL
open PySem PySem.Spec L2
end DL
namespace L2
open PySem PySem.Spec PyProof.Rows
end L2
namespace DL
open PySem PySem.Spec PyProof.Rows L2
end DL
namespace L2
open PySem PySem.Spec PyProof.Rows
end L2
namespace DL
open PySem PySem.Spec PyProof.Rows L2
end DL
namespace DL
open PySem PySem.Spec L2
mutual
def iC:D->Option PyData
 |.non=>some .none
 |.bl b=>some (.bool b)
 |.int i=>some (.int i)
 |.str x=>if PyData.strOk x=true then some (.str x) else none
 |.tup a=>(iJ a).map .tuple
 |.ref _=>none
 |.fn _=>none
def iJ:List D->Option (List PyData)
 | []=>some []
 |d::ds=>(iC d).bind λp=>(iJ ds).map (p::·)
end
mutual
theorem pU:∀{d:D} {p:PyData},iC d=some p->p.canLay0=true
 |.non,_,e=>by cases e;rfl
 |.bl _,_,e=>by cases e;rfl
 |.int _,_,e=>by cases e;rfl
 | .str x,_,e=>by
   simp only[iC] at e
   split at e
   · rename_i c;cases e;exact c
   · cases e
 | .tup ds,_,e=>by
   simp only[iC] at e
   obtain⟨b,a,rfl⟩:=oQm.mp e
   exact jy a
 |.ref _,_,e=>by cases e
 |.fn _,_,e=>by cases e
theorem jy:∀{ds:List D} {ps:List PyData},iJ ds=some ps->PyData.canLayAll0 ps=true
 | [],_,e=>by cases e;rfl
 | d::ds,_,e=>by
   simp only[iJ] at e
   obtain⟨p,b,e⟩:=av e
   obtain⟨ps,a,rfl⟩:=oQm.mp e
   simp only[PyData.canLayAll0,QCq]
   exact⟨pU b,jy a⟩
end
mutual
theorem xc{M:Md}{ρ:List Addr}{H:Hp}:∀{d:D} {p:PyData} {v:V},Rel M ρ H d v->iC d=some p->qS (λ_=>False) H p v
 |.non,_,_,.non,e=>by cases e;exact .non
 |.bl _,_,_,.bl _,e=>by cases e;exact .bl _
 |.int _,_,_,.int _,e=>by cases e;exact .int _
 | .str _,_,_,.str _,e=>by
   simp only[iC] at e
   split at e
   · cases e;exact .str _
   · cases e
 | .tup ds,_,_,.tup h hs,e=>by
   simp only[iC] at e
   obtain⟨b,a,rfl⟩:=oQm.mp e
   exact .tup h (pw hs a)
 |.ref _,_,_,_,e=>by cases e
 |.fn _,_,_,_,e=>by cases e
theorem pw{M:Md}{ρ:List Addr}{H:Hp}:∀{ds:List D} {ps:List PyData} {vs:List V},bf M ρ H ds vs->iJ ds=some ps->lZ (λ_=>False) H ps vs
 | [],_,_,.nil,e=>by cases e;exact .nil
 | d::ds,_,_,.cons h hs,e=>by
   simp only[iJ] at e
   obtain⟨p,b,e⟩:=av e
   obtain⟨ps,a,rfl⟩:=oQm.mp e
   exact .cons (xc h b) (pw hs a)
end
end DL
namespace L2
open PySem PySem.Spec
section
variable{X:Cx}
def Kj(a:Bool):R2:=λx y H Q=>∃p q,qS (λ_=>False) H p x/\qS (λ_=>False) H q y/\p.canLay0=true/\q.canLay0=true/\p.depth<=60/\Q (.bl (if a then !PyData.eqv p q else PyData.eqv p q)) H
def GN(r:X.A.units+64<cLine):jF X (compareOp .Eq) (Kj false):=by
 rintro b s o H x y v u Q I g k ⟨p,q,c,j,i,f,n,h⟩
 obtain⟨l,e,_⟩:=jM I (λa z=>z.elim) c g
 obtain⟨m,d,_⟩:=jM I (λa z=>z.elim) j k
 exact SeqAt.eqOverData _ _ _ _ _ _ _ _ _ _ _ _ e d i f (by omega) ⟨.bl _,H,I,rfl,h⟩
def J8(r:X.A.units+64<cLine):jF X (compareOp .NotEq) (Kj true):=by
 rintro b s o H x y v u Q I g k ⟨p,q,c,j,i,f,n,h⟩
 obtain⟨l,e,_⟩:=jM I (λa z=>z.elim) c g
 obtain⟨m,d,_⟩:=jM I (λa z=>z.elim) j k
 exact SeqAt.neOverData _ _ _ _ _ _ _ _ _ _ _ _ e d i f (by omega) ⟨.bl _,H,I,rfl,h⟩
def Jp(K:PySem.W.Frag)(e:Bool):R2:=λx y H Q=>∃a b g f c d,x=.ref a/\y=.ref b/\iX K H a g/\iX K H b f/\lZ (λ_=>False) H c g/\lZ (λ_=>False) H d f/\PyData.canLayAll0 c=true/\PyData.canLayAll0 d=true/\(PyData.list c).depth<=60/\Q (.bl (if e then !PyData.eqvAll c d else PyData.eqvAll c d)) H
def u_{b:List (Addr×Obj)}{j:St}{H:Hp}{s:Shared}{a:Addr}{xs:List V}{ps:List PyData}(I:Inv X b j H s)(h:iX X.K H a xs)(d:lZ (λ_=>False) H ps xs):∃as,Reads s.heap (.ref a) (.list ps) as:=by
 obtain⟨e,l,f,n⟩:=I.list h
 obtain⟨o,g,i,p,k⟩:=f.isList
 obtain⟨as,c,m⟩:=ix I (λa z=>z.elim) d l
 exact⟨_,.list g i k (by simpa using c)⟩
def Dj(F:X.A.units+64<cLine):jF X (compareOp .Eq) (Jp X.K false):=by
 rintro c s B H x y v u Q I j p ⟨a,b,r,q,G,C,f,k,l,n,d,o,m,i,z,h⟩
 subst f k
 cases j
 cases p
 obtain⟨t,g⟩:=u_ I l d
 obtain⟨w,e⟩:=u_ I n o
 refine SeqAt.eqOverData _ _ _ _ _ _ _ _ _ _ _ _ g e (by simpa [PyData.canLay0] using m) (by simpa [PyData.canLay0] using i) (by omega) ⟨.bl _,H,I,rfl,?_⟩
 exact h
def MH(K:PySem.W.Frag)(c:Bool):R2:=λx y H Q=>∃p a d b,y=.ref a/\(iX K H a d\/gW K H a d)/\qS (λ_=>False) H p x/\lZ (λ_=>False) H b d/\p.canLay0=true/\PyData.canLayAll0 b=true/\p.depth<=60/\Q (.bl (if c then !b.any (PyData.eqv · p) else b.any (PyData.eqv · p))) H
def K9(s:Shared)(p:PyData)(u:Value):Bool:= @decide (∃d a,d.canLay0=true/\Reads s.heap u d a/\PyData.eqv d p=true) (Classical.propDecidable _)
def Gd{s:Shared}{p d:PyData}{u:Value}{as:List Addr}(l:d.canLay0=true)(r:Reads s.heap u d as):K9 s p u=PyData.eqv d p:=by
 unfold K9
 cases h:PyData.eqv d p with
 |true=>exact @Qeq _ (Classical.propDecidable _) ⟨d,as,l,r,h⟩
 | false=>
   refine @Qdq _ (Classical.propDecidable _) ?_
   rintro⟨e,a,f,c,b⟩
   rw[SeqAt.Reads.unique d e u as a l r c] at h
   rw[h] at b
   cases b
theorem q_{s:Shared}{p:PyData}:∀{b:List Value} {ps:List PyData} {as:List Addr},ReadsAll s.heap b ps as->PyData.canLayAll0 ps=true->b.any (K9 s p)=ps.any (PyData.eqv · p)/\∀u∈b,∃d as,d.canLay0=true/\Reads s.heap u d as
 |_,_,_,.nil,_=>⟨rfl,λu a=>by cases a⟩
 | _,d::ps,_,.cons r rs,l=>by
   have c:d.canLay0=true/\PyData.canLayAll0 ps=true:=by simpa [PyData.canLayAll0] using l
   obtain⟨f,e⟩:=q_ (p:=p) rs c.2
   refine⟨by rw[List.any_cons,List.any_cons,f,Gd c.1 r],λu a=> ?_⟩
   rcases Qsq.mp a with rfl|a
   · exact⟨_,_,c.1,r⟩
   · exact e u a
def EV{A:Around}{s:Shared}{p:PyData}{v:Value}{bs:List Addr}(c:A.units+63<cLine)(b:Reads s.heap v p bs)(lp:p.canLay0=true)(hd:p.depth<=60){u:Value}(h:∃d as,d.canLay0=true/\Reads s.heap u d as):SeqAt.EqAt A s u v (K9 s p u):=by
 obtain⟨d,as,l,r⟩:=h
 rw[Gd l r]
 intro a w E Q q
 exact SeqAt.eqBoolOverData a w A E s _ _ _ _ _ _ Q r b l lp (by omega) q
def DW(P:X.A.units+64<cLine):jF X (compareOp .NotIn) (MH X.K true):=by
 rintro o s N H x y v u Q I F J ⟨p,a,L,R,B,e,t,c,q,d,n,h⟩
 subst B
 cases J
 obtain⟨M,m,_⟩:=jM I (λa z=>z.elim) t F
 have b:X.A.in1.units+63<cLine:=by show X.A.units+1+63<cLine;omega
 rcases e with e|e
 ·obtain⟨f,r,i,G⟩:=I.list e
  obtain⟨C,g,_⟩:=ix I (λa z=>z.elim) c r
  obtain⟨j,k⟩:=q_ (p:=p) g d
  refine SeqAt.notIn_listAt (K9 s p) i.isList (λw l=>EV b m q n (k w (by simpa using l))) ⟨.bl _,H,I,rfl,?_⟩
  rw[List.any_toArray,j]
  exact h
 ·obtain⟨f,r,i,G⟩:=I.tuple e
  obtain⟨C,g,_⟩:=ix I (λa z=>z.elim) c r
  obtain⟨j,k⟩:=q_ (p:=p) g d
  refine SeqAt.notIn_tupleAt (K9 s p) i (λw l=>EV b m q n (k w (by simpa using l))) ⟨.bl _,H,I,rfl,?_⟩
  rw[List.any_toArray,j]
  exact h
end
end L2
namespace DL
open PySem PySem.Spec L2
section
variable{X:Cx}{a b e:Expr}{pos:Pos}
def pk(c:Bool):uj:=λ_ x y=>(iC x).bind λp=>(iC y).bind λq=>if p.depth<=60 then some (.bl (if c then !PyData.eqv p q else PyData.eqv p q)) else none
def Bg{M:Md}{f:Bool}:lU M (Kj f) (pk f):=by
 intro m S H x y d u v Q i k l e q
 unfold pk at e
 obtain⟨p,g,e⟩:=av e
 obtain⟨j,h,e⟩:=av e
 split at e
 ·rename_i c
  cases e
  exact⟨p,j,xc k g,xc l h,pU g,pU h,c,q _ _ cq.refl i (.bl _)⟩
 ·cases e
def AI{f g:bE}{k:Nat}(c:er k X.A)(h:PE X a (tD (md X) f))(d:PE X b (tD (md X) g)):PE X (.Compare a [.Eq] [b] pos) (tD (md X) (aW (pk false) f g)):=Ma (GN c.units) Bg h d (dQ _)
def CI{f g:bE}{k:Nat}(c:er k X.A)(h:PE X a (tD (md X) f))(d:PE X b (tD (md X) g)):PT X (.Compare a [.Eq] [b] pos) (tB (md X) (aI (aW (pk false) f g))):=i3 (GN c.units) Bg h d (dQ _)
def AV{f g:bE}{k:Nat}(c:er k X.A)(h:PE X a (tD (md X) f))(d:PE X b (tD (md X) g)):PT X (.Compare a [.NotEq] [b] pos) (tB (md X) (aI (aW (pk true) f g))):=i3 (J8 c.units) Bg h d (dQ _)
open Classical in
def yz(d:Bool)(f g:dF):bE:=λh S=>(f h S).bind λ(p,k)=>(g h k).bind λ(r,i)=>if p.2.isL=true/\r.2.isL=true/\p.2.stays i p.1 then(iJ p.1).bind λc=>(iJ r.1).bind λj=>if (PyData.list c).depth<=60 then some (.bl (if d then !PyData.eqvAll c j else PyData.eqvAll c j),i) else none else none
def F3{h:Bool}{f g:dF}:∀l H Q,tD (md X) (yz h f g) l H Q->Gx (Jp X.K h) (tQ (md X) f) (tQ (md X) g) l H Q:=λl H Q R=>by
 obtain⟨U,o,S,d,Z,ok,e,q⟩:=R
 obtain⟨⟨⟨x,t⟩,u⟩,v,e⟩:=av e
 obtain⟨⟨⟨M,w⟩,L⟩,G,e⟩:=av e
 dsimp only at e
 split at e
 ·rename_i c
  obtain⟨I,s,e⟩:=av e
  obtain⟨z,n,e⟩:=av e
  split at e
  ·rename_i W
   obtain⟨rfl,rfl⟩:=cv e
   refine⟨U,o,S,x,t,u,ok,v,λk a Y H1 r m C A=>⟨k,o,u,M,w,L,ok.to r m,G,λy b B H2 p i J P=> ?_⟩⟩
   obtain⟨j,N,F⟩:=C.to A p i c.2.2
   exact⟨a,b,j,B,I,z,rfl,rfl,N.sqL c.1,J.sqL c.2.1,pw F s,pw P n,jy s,jy n,W,q _ _ _ (r.trans p) i (.bl _)⟩
  ·cases e
 ·cases e
def Gs{f g:dF}{k:Nat}(c:er k X.A)(h:PE X a (tQ (md X) f))(d:PE X b (tQ (md X) g)):PE X (.Compare a [.Eq] [b] pos) (tD (md X) (yz false f g)):=kN (yh (Dj c.units) h d (dQ _)) F3
def JG{f g:dF}{k:Nat}(c:er k X.A)(h:PE X a (tQ (md X) f))(d:PE X b (tQ (md X) g)):PT X (.Compare a [.Eq] [b] pos) (tB (md X) (aI (yz false f g))):=qP F3 (kC (Dj c.units) h d (dQ _))
def Le(c:Bool)(f:bE)(g:dF):bE:=λd S=>(f d S).bind λ(x,i)=>(g d i).bind λ(p,j)=>(iC x).bind λv=>(iJ p.1).bind λh=>if v.depth<=60 then some (.bl (if c then !h.any (PyData.eqv · v) else h.any (PyData.eqv · v)),j) else none
def MI{h:Bool}{f:bE}{g:dF}:∀j H Q,tD (md X) (Le h f g) j H Q->Gx (MH X.K h) (tD (md X) f) (tQ (md X) g) j H Q:=λj H Q L=>by
 obtain⟨M,n,S,d,N,ok,e,q⟩:=L
 obtain⟨⟨x,s⟩,w,e⟩:=av e
 obtain⟨⟨⟨y,t⟩,I⟩,C,e⟩:=av e
 obtain⟨v,r,e⟩:=av e
 obtain⟨A,m,e⟩:=av e
 split at e
 ·rename_i c
  obtain⟨rfl,rfl⟩:=cv e
  refine⟨M,n,S,x,s,ok,w,λi u H1 p k B=>⟨i,n,s,y,t,I,ok.to p k,C,λz a F H2 o l G J=> ?_⟩⟩
  exact⟨v,a,F,A,rfl,G.sq,xc (B.ext o) r,pw J m,pU r,jy m,c,q _ _ _ (p.trans o) l (.bl _)⟩
 ·cases e
def A0{f:bE}{g:dF}{k:Nat}(d:er k X.A)(i:PE X a (tD (md X) f))(h:PE X b (tQ (md X) g))(c:behindInMarks .NotIn b=false:=by rfl):PT X (.Compare a [.NotIn] [b] pos) (tB (md X) (aI (Le true f g))):=qP MI (kC (DW d.units) i h c)
end
def Du(S:aF):D->Option Nat
 |.str z=>if z.length<=sizeLine then some z.length else none
 |d=>(qX S d).map (·.1.length)
def Gv(f:bE):bE:=λb S=>(f b S).bind λ(d,a)=>(Du a d).bind λn=>some (.int n,a)
section
variable{X:Cx}{a:Expr}{pos:Pos}
def Nl{f:bE}{p:Pos}(s:Gl X "len")(A:X.mg "len"=none)(u:PE X a (tD (md X) f))(j:starEach [a] X.env= [(false,eval a X.env)]:=by rfl):
  PE X (.Call (.Name "len" p) [a] [] pos) (tD (md X) (Gv f)):=
 kN (jQ (yw.or oZ) s A PySem.boot_len (cP u fq j) (he:=j)) λI H Q B=>by
  obtain⟨C,o,S,d,J,ok,e,q⟩:=B
  obtain⟨⟨g,k⟩,l,e⟩:=av e
  obtain⟨n,b,e⟩:=av e
  obtain⟨rfl,rfl⟩:=cv e
  refine⟨C,o,S,g,k,ok,l,λy v F x h r=> ?_⟩
  by_cases c:∃z,g=.str z
  ·obtain⟨z,rfl⟩:=c
   cases r
   simp only[Du] at b
   split at b <;>cases b
   exact .inl ⟨z,rfl,by assumption,q _ _ _ x h (.int _)⟩
  ·have w:(qX k g).map (·.1.length)=some n:=by
    cases g with
    |str z=>exact absurd ⟨z,rfl⟩ c
    |_=>exact b
   obtain⟨⟨G,t⟩,m,rfl⟩:=oQm.mp w
   obtain⟨a,i,rfl,h2,h3⟩:=CG h r m
   refine .inr ⟨a,i,rfl,h2.sq,?_⟩
   have:=q _ (.int i.length) _ x h (by rw[←h3.length];exact .int _)
   exact this
end
def Jy{b:cN}{S:aF}{f:bE}{Q:D->aF->Prop}(h:E f b S λd a=>Op (Du a d) λn=>Q (.int n) a):E (Gv f) b S Q:=by
 obtain⟨d,a,c,n,e,q⟩:=h
 exact⟨_,a,by unfold Gv;rw[c];simp only[Qbq];rw[e];rfl,q⟩
end DL
namespace DL
open PySem PySem.Spec PyProof.Rows L2
end DL
namespace L2
open PySem PySem.Spec PyProof.Rows
end L2
namespace DL
open PySem PySem.Spec L2
end DL
namespace L2
open PySem PySem.Spec
section
variable{X:Cx}
def I_(K:PySem.W.Frag):R2:=λx y H Q=>∃a b c,x=.ref a/\y=.ref b/\gW K H a c/\gW K H b []/\Q (.bl (!c.isEmpty)) H
def G7(t:X.A.units<cLine):jF X (compareOp .NotEq) (I_ X.K):=by
 intro k s F H x y v u Q I n w h
 obtain⟨a,b,i,rfl,rfl,ha,hb,q⟩:=h
 cases n
 cases w
 obtain⟨d,r,l,G⟩:=I.tuple ha
 obtain⟨c,B,g,m⟩:=I.tuple hb
 have f:=r.length
 have o:=B.length
 have z:c.toArray.size=0:=by simpa using o.symm
 refine SeqAt.RcNeAt.tuples (e:=λ_=>true) l g t (λj C p=>absurd p (by omega)) _ _ _ _ ⟨.bl _,H,I,rfl,?_⟩
 have e:(!((List.range (min d.toArray.size c.toArray.size)).all (λ_=>true)&&d.toArray.size==c.toArray.size))= !i.isEmpty:=by
  rw[z]
  cases i with
  |nil=>simp at f;simp[←f]
  |cons a b=>simp at f;simp[←f]
 rw[e]
 exact q
end
end L2
namespace DL
open PySem PySem.Spec L2
section
variable{X:Cx}{a b e:Expr}{pos:Pos}
def DG:uj:=λ_ x y=>match x,y with
 |.tup xs,.tup []=>some (.bl (!xs.isEmpty))
 |_,_=>none
def Hg:lU (md X) (I_ X.K) DG:=by
 intro t S H x y d u v Q j k p e q
 unfold DG at e
 split at e
 ·cases e
  cases k with
  | tup m g=>
    cases p with
    | tup o i=>
      cases i
      refine⟨_,_,_,rfl,rfl,gW.of m,gW.of o,?_⟩
      have l:=g.length
      rename_i s
      have e:∀{r n:Type} (c:List r) (f:List n),c.length=f.length->(!c.isEmpty)= !f.isEmpty:=λc f h=>by
        cases c <;>cases f <;>simp at h⊢
      refine q _ _ cq.refl j ?_
      rw[e _ _ l]
      exact .bl _
 ·cases e
def Kf{f g:bE}{k:Nat}(c:er k X.A)(h:PE X a (tD (md X) f))(d:PE X b (tD (md X) g)):PT X (.Compare a [.NotEq] [b] pos) (tB (md X) (aI (aW DG f g))):=i3 (G7 c.units0) Hg h d (dQ _)
def JO{S:aF}{xs:List D}{Q:D->Prop}(q:Q (.bl (!xs.isEmpty))):Op (DG S (.tup xs) (.tup [])) Q:=⟨_,rfl,q⟩
end
end DL
namespace Z3
open PySem Zq
abbrev eQ(h:Heap)(T:Addr)(a b c:Value):Prop:=h.get? T=some {cls:=.type "tuple",data:=.seq #[a,b,c]}
structure Ap(z T O i j l a b c:Addr):Prop where
 Tz:T≠z
 Oz:O≠z
 iz:i≠z
 jz:j≠z
 lz:l≠z
 TO:T≠O
 Ti:T≠i
 Tj:T≠j
 Tl:T≠l
 Oi:O≠i
 Oj:O≠j
 Ol:O≠l
 ij:i≠j
 il:i≠l
 jl:j≠l
 az:a≠z
 bz:b≠z
 cz:c≠z
 aO:a≠O
 bO:b≠O
 cO:c≠O
 ai:a≠i
 bi:b≠i
 ci:c≠i
 aj:a≠j
 bj:b≠j
 cj:c≠j
 al:a≠l
 bl:b≠l
 cl:c≠l
def Rest(z O i j l:Addr)(h h':Heap):Prop:=∀c o,c≠z->c≠O->c≠i->c≠j->c≠l->h.get? c=some o->h'.get? c=some o
section
variable{prog:Program}{w:World}{A:Around}{E:Value->Shared->Prop}{s:Shared}{t t2 t3:Bool}{z T O i j l a b c:Addr}{k:Nat}{xs ys zs:Array Value}{x y q1 u v u3:Value}
def yA{Q:Unit->Shared->Prop}{n:Nat}(g:eQ s.heap T u v u3)
  (q:∀h',h'.get? T=some {cls:=.type "tuple",data:=.seq ((#[u,v,u3]:Array Value).setIfInBounds n x)}->Heap.SameBut T s.heap h'->Q () {s with heap:=h'}):
  wpAny (model prog w) A (updateSeq T (·.setIfInBounds n x)) Q E s:=by
 have e:=Heap.get?_update_self (λo=>o.mapSeq (·.setIfInBounds n x)) g rfl
 exact wpAny_updateSeq g rfl (q _ (by rw[e];simp[Obj.mapSeq]) (Heap.SameBut.update ..))
def item(D:Ap z T O i j l a b c){Q:Value->Shared->Prop}(I:kT s.heap z T O .none (.bool false))(gT:eQ s.heap T (.ref i) (.ref j) (.ref l))(gO:eQ s.heap O u v u3)(gi:It t s.heap i a k)(gj:It t2 s.heap j b k)(gl:It t3 s.heap l c k)
  (ga:Sq t s.heap a xs) (gb:Sq t2 s.heap b ys) (gc:Sq t3 s.heap c zs) (ex:xs[k]?=some x) (ey:ys[k]?=some y) (ez:zs[k]?=some q1)
  (q:∀h',kT h' z T O (rawInt s.heap.objs.size) (.bool false)->eQ h' O x y q1->It t h' i a (k+1)->It t2 h' j b (k+1)->It t3 h' l c (k+1)->eQ h' s.heap.objs.size x y q1->Rest z O i j l s.heap h'->Q (.ref s.heap.objs.size) {s with heap:=h'}):
  wpAny (model prog w) A (Builtin.«zip.__next__» ⟨[.ref z],[]⟩) (λY s'=>∃r,Y=.done (.ret r)/\Q r s') E s:=by
 refine(?_:wpAny _ _ (field (.ref z) 2 >>= _) _ _ _)
 refine Qaq (QMq I rfl (x:=.bool false) rfl ?_)
 refine(?_:wpAny _ _ (field (.ref z) 3 >>= _) _ _ _)
 refine Qaq (QMq I rfl (x:=.ref T) rfl (Qaq (wpAny_seqItems gT rfl ?_)))
 refine(?_:wpAny _ _ (Builtin.SmallTypes.ownedTupleIsFree (.ref z) >>= _) _ _ _)
 refine Qaq ?_
 unfold Builtin.SmallTypes.ownedTupleIsFree
 refine Qaq (QMq I rfl (x:=.none) rfl (Qgq ?_))
 simp only[if_true]
 refine Qaq (wpAny_rule (Qaq (QMq I rfl (x:=.ref O) rfl (Qaq (wpAny_setField_rec I (by simp) λh1 R f=> ?_)))))
 replace R:kT h1 z T O .ellipsis (.bool false):=R
 refine Qaq ?_
 simp only[List.zipIdx_cons,List.zipIdx_nil,List.forIn_nil,List.forIn_cons]
 refine Qaq (Qaq (wpAny_onRaise ?_))
 refine(?_:wpAny _ _ (Builtin.SmallTypes.nextOf (.ref i) >>= _) _ _ _)
 refine Qaq (draw (gi.ext f.extBut D.iz) (ga.ext f.extBut D.az) ex λh2 i2 n=>Qgq ?_)
 have O2:eQ h2 O u v u3:=n.extBut _ _ D.Oi (f.extBut _ _ D.Oz gO)
 refine Qaq (wpAny_seqItems O2 rfl (Qaq (yA O2 λh3 N m=>Qaq (wpAny_letGo (Qgq ?_)))))
 replace N:eQ h3 O x v u3:=N
 refine Qaq (Qaq (wpAny_onRaise ?_))
 refine(?_:wpAny _ _ (Builtin.SmallTypes.nextOf (.ref j) >>= _) _ _ _)
 refine Qaq (draw (((gj.ext f.extBut D.jz).ext n.extBut D.ij.symm).ext m.extBut D.Oj.symm) (((gb.ext f.extBut D.bz).ext n.extBut D.bi).ext m.extBut D.bO) ey λh4 j4 B=>Qgq ?_)
 have O4:eQ h4 O x v u3:=B.extBut _ _ D.Oj N
 refine Qaq (wpAny_seqItems O4 rfl (Qaq (yA O4 λh5 W C=>Qaq (wpAny_letGo (Qgq ?_)))))
 replace W:eQ h5 O x y u3:=W
 refine Qaq (Qaq (wpAny_onRaise ?_))
 refine(?_:wpAny _ _ (Builtin.SmallTypes.nextOf (.ref l) >>= _) _ _ _)
 refine Qaq (draw (((((gl.ext f.extBut D.lz).ext n.extBut D.il.symm).ext m.extBut D.Ol.symm).ext B.extBut D.jl.symm).ext C.extBut D.Ol.symm) (((((gc.ext f.extBut D.cz).ext n.extBut D.ci).ext m.extBut D.cO).ext B.extBut D.cj).ext C.extBut D.cO) ez λh6 l6 F=>Qgq ?_)
 have O6:eQ h6 O x y u3:=F.extBut _ _ D.Ol W
 refine Qaq (wpAny_seqItems O6 rfl (Qaq (yA O6 λd M G=>Qaq (wpAny_letGo (Qgq (Qgq ?_))))))
 replace M:eQ d O x y q1:=M
 refine Qaq (wpAny_seqItems M rfl (Qaq (wpAny_newTuple ?_)))
 have sz:d.objs.size=s.heap.objs.size:=by rw[G.1,F.1,C.1,B.1,m.1,n.1,f.1]
 have Z:kT d z T O .ellipsis (.bool false):=G.extBut _ _ D.Oz.symm (F.extBut _ _ D.lz.symm (C.extBut _ _ D.Oz.symm (B.extBut _ _ D.jz.symm (m.extBut _ _ D.Oz.symm (n.extBut _ _ D.iz.symm R)))))
 have r7:Rest z O i j l s.heap d:=λc o p L P S U e=>G.extBut _ _ L (F.extBut _ _ U (C.extBut _ _ L (B.extBut _ _ S (m.extBut _ _ L (n.extBut _ _ P (f.extBut _ _ p e))))))
 have i7:It t d i a (k+1):=((((i2.ext m.extBut D.Oi.symm).ext B.extBut D.ij).ext C.extBut D.Oi.symm).ext F.extBut D.il).ext G.extBut D.Oi.symm
 have j7:It t2 d j b (k+1):=((j4.ext C.extBut D.Oj.symm).ext F.extBut D.jl).ext G.extBut D.Oj.symm
 have l7:It t3 d l c (k+1):=l6.ext G.extBut D.Ol.symm
 have zl:z<d.objs.size:=Qiq Z
 refine(?_:wpAny _ _ (Builtin.SmallTypes.ownedTupleHandOut (.ref z) (.ref d.objs.size) >>= _) _ _ _)
 refine Qaq ?_
 unfold Builtin.SmallTypes.ownedTupleHandOut
 have z8:kT (d.push {cls:=.type "tuple",data:=.seq #[x,y,q1]}) z T O .ellipsis (.bool false):=Qcq _ Z
 refine Qaq (wpAny_setField_rec z8 (by simp) λh9 X b9=> ?_)
 replace X:kT h9 z T O (rawInt d.objs.size) (.bool false):=X
 refine wpAny_setField_rec X (by simp) λg h K=> ?_
 replace h:kT g z T O (rawInt d.objs.size) (.bool false):=h
 have H:∀c o,c≠z->d.get? c=some o->g.get? c=some o:=λc o p e=>K.extBut _ _ p (b9.extBut _ _ p (Qcq _ e))
 have J:eQ g d.objs.size x y q1:=K.extBut _ _ (Nat.ne_of_gt zl) (b9.extBut _ _ (Nat.ne_of_gt zl) (Qrq _ rfl))
 rw[sz] at h J
 refine Qgq ⟨_,rfl,?_⟩
 refine(?_:Q (.ref d.objs.size) _)
 rw[sz]
 exact q g h (H _ _ D.Oz M) (i7.at λo e=>H _ o D.iz e) (j7.at λo e=>H _ o D.jz e) (l7.at λo e=>H _ o D.lz e) J λc o p L P S U e=>H c o p (r7 c o p L P S U e)
def stop(D:Ap z T O i j l a b c){Q:Fin->Shared->Prop}(N:A.handled=none)(d:kT s.heap z T O .none (.bool false))(J:eQ s.heap T (.ref i) (.ref j) (.ref l))(H:It t s.heap i a k)(F:Sq t s.heap a xs)(ex:xs[k]?=none)
  (q:∀h' e,Rest z O i j l s.heap h'->(∃o,h'.get? e=some o/\o.cls=.type "StopIteration")->E (.ref e) {s with heap:=h'}):
  wpAny (model prog w) A (Builtin.«zip.__next__» ⟨[.ref z],[]⟩) Q E s:=by
 refine(?_:wpAny _ _ (field (.ref z) 2 >>= _) _ _ _)
 refine Qaq (QMq d rfl (x:=.bool false) rfl ?_)
 refine(?_:wpAny _ _ (field (.ref z) 3 >>= _) _ _ _)
 refine Qaq (QMq d rfl (x:=.ref T) rfl (Qaq (wpAny_seqItems J rfl ?_)))
 refine(?_:wpAny _ _ (Builtin.SmallTypes.ownedTupleIsFree (.ref z) >>= _) _ _ _)
 refine Qaq ?_
 unfold Builtin.SmallTypes.ownedTupleIsFree
 refine Qaq (QMq d rfl (x:=.none) rfl (Qgq ?_))
 simp only[if_true]
 refine Qaq (wpAny_rule (Qaq (QMq d rfl (x:=.ref O) rfl (Qaq (wpAny_setField_rec d (by simp) λI h g=> ?_)))))
 replace h:kT I z T O .ellipsis (.bool false):=h
 refine Qaq ?_
 simp only[List.zipIdx_cons,List.zipIdx_nil,List.forIn_nil,List.forIn_cons]
 refine Qaq (Qaq (wpAny_onRaise ?_))
 refine(?_:wpAny _ _ (Builtin.SmallTypes.nextOf (.ref i) >>= _) _ _ _)
 refine Qaq (zr N (H.ext g.extBut D.iz) (F.ext g.extBut D.az) ex λK e C f=> ?_)
 obtain⟨G,f,B⟩:=f
 have p:kT K z T O .ellipsis (.bool false):=C _ _ D.iz.symm h
 have L:e≠z:=λn=>by rw[n,p] at f;cases f;simp at B
 exact wpAny_setField_rec p (by simp) λM _ r=>q M e (λc o m _ P _ _ n=>r.extBut _ _ m (C _ _ P (g.extBut _ _ m n))) ⟨G,r.extBut _ _ L f,B⟩
end
def OT(u v x:Value):checkTypeCall "zip" ⟨[u,v,x],[]⟩=pure ():=by kernel_rfl
def OV(u v x:Value):checkBuiltinCall "zip.__new__" ⟨[.type "zip",u,v,x],[]⟩=pure ():=by kernel_rfl
section
variable{prog:Program}{w:World}{A:Around}{E:Value->Shared->Prop}{s:Shared}{t t2 t3:Bool}{z T O i j l a b c:Addr}{k:Nat}{xs ys zs:Array Value}{x y q1 u v u3:Value}
def LM(D:Ap z T O i j l a b c){Q:Option Value->Shared->Prop}(e:kT s.heap z T O .none (.bool false))(p:eQ s.heap T (.ref i) (.ref j) (.ref l))(L:eQ s.heap O u v u3)(h:It t s.heap i a k)(r:It t2 s.heap j b k)(m:It t3 s.heap l c k)
  (f:Sq t s.heap a xs) (C:Sq t2 s.heap b ys) (B:Sq t3 s.heap c zs) (ex:xs[k]?=some x) (g:ys[k]?=some y) (n:zs[k]?=some q1)
  (q:∀h',kT h' z T O (rawInt s.heap.objs.size) (.bool false)->eQ h' O x y q1->It t h' i a (k+1)->It t2 h' j b (k+1)->It t3 h' l c (k+1)->eQ h' s.heap.objs.size x y q1->Rest z O i j l s.heap h'->Q (some (.ref s.heap.objs.size)) {s with heap:=h'}):
  wpAny (model prog w) A (pyNext (.ref z)) Q E s:=by
 have d:s.TypeIs (.ref z) "zip":=⟨_,e,rfl⟩
 unfold pyNext
 exact Qaq (wpAny_attempt (QiQ (name:=Str.ofString "__next__") d F.slot_zip_next (wpAny_call_entry F.slot_zip_next d F.entry_zip_next
  (item D e p L h r m f C B ex g n λh' I J M K H o G=>Qgq (q h' I J M K H o G)) (F.args_zip_next_1 _))))
def LB(D:Ap z T O i j l a b c){Q:Option Value->Shared->Prop}(m:A.handled=none)(f:kT s.heap z T O .none (.bool false))(C:eQ s.heap T (.ref i) (.ref j) (.ref l))(B:It t s.heap i a k)(g:Sq t s.heap a xs)(ex:xs[k]?=none)
  (q:∀h',Rest z O i j l s.heap h'->Q none {s with heap:=h'}):wpAny (model prog w) A (pyNext (.ref z)) Q E s:=by
 have d:s.TypeIs (.ref z) "zip":=⟨_,f,rfl⟩
 unfold pyNext
 refine Qaq (wpAny_attempt (QiQ (name:=Str.ofString "__next__") d F.slot_zip_next (wpAny_call_entry F.slot_zip_next d F.entry_zip_next
  (stop D m f C B g ex λh' e r h=> ?_) (F.args_zip_next_1 _))))
 obtain⟨o,p,n⟩:=h
 exact Qaq (wpAny_isInstance (T:="StopIteration") (b:=true) ⟨o,p,n⟩ isSubtype_stop (Qgq (q _ r)))
end
abbrev G1(h:Heap)(a:Addr):Heap:=h.push {cls:=.type "tuple_iterator",data:=.fields #[.ref a,.int 0 0]}
abbrev G3(h:Heap)(a b c:Addr):Heap:=G1 (G1 (G1 h a) b) c
abbrev G4(h:Heap)(a b c:Addr):Heap:=(G3 h a b c).push {cls:=.type "tuple",data:=.seq #[.ref h.objs.size,.ref (G1 h a).objs.size,.ref (G1 (G1 h a) b).objs.size]}
abbrev G5(h:Heap)(a b c:Addr):Heap:=(G4 h a b c).push {cls:=.type "tuple",data:=.seq #[.none,.none,.none]}
abbrev G6(h:Heap)(a b c:Addr):Heap:=(G5 h a b c).push {cls:=.type "zip",data:=.fields #[.none,.bool false,.bool false,.ref (G3 h a b c).objs.size,.ref (G4 h a b c).objs.size]}
def qW(a b c:Addr)(xs ys j:Array Value):Meets (Builtin.«zip.__new__» ⟨[.type "zip",.ref a,.ref b,.ref c],[]⟩) (λ_ R s=>s.heap.IsTuple a xs/\s.heap.IsTuple b ys/\s.heap.IsTuple c j/\R (.ok (.ret (.ref (G5 s.heap a b c).objs.size))) {s with heap:=G6 s.heap a b c}):=
 .of_wp λk w A R s h=>by
  obtain⟨i,g,d,e,f⟩:=s
  obtain⟨l,m,n,h⟩:=h
  have q:=sub_zip
  have o:Heap.IsTuple (Shared.heap ⟨i,g,d,e,f⟩) a xs:=l
  have r:Heap.IsTuple (Shared.heap ⟨G1 i a,g,d,e,f⟩) b ys:=Sq.push (t:=true) m _
  have p:Heap.IsTuple (Shared.heap ⟨G1 (G1 i a) b,g,d,e,f⟩) c j:=Sq.push (t:=true) (Sq.push (t:=true) n _) _
  wp_walk using wpAny_pyIter_tuple o,wpAny_pyIter_tuple r,wpAny_pyIter_tuple p
  exact⟨_,rfl,h⟩
def OQ(u v x y:Value):argsOk "object.__init__" ⟨[u,v,x,y],[]⟩:=by
 unfold argsOk
 rw[signature?_of (id:="object.__init__") (n:="__init__".toList.reverse) (o:="object".toList.reverse) (by kernel_rfl) F.owner_object]
 kernel_rfl
def Kh{n a b c:Addr}(f:a<n)(d:b<n)(g:c<n):Ap (n+5) (n+3) (n+4) n (n+1) (n+2) a b c:=by
 constructor <;>(intro e;simp only[Addr] at *;omega)
section
variable{prog:Program}{w:World}{A:Around}{E:Value->Shared->Prop}{s:Shared}
def MN{a b c:Addr}{xs ys r:Array Value}{Q:Value->Shared->Prop}(z:s.heap.IsTuple a xs)(G:s.heap.IsTuple b ys)(C:s.heap.IsTuple c r)
  (q:∀h',kT h' (s.heap.objs.size+5) (s.heap.objs.size+3) (s.heap.objs.size+4) .none (.bool false)->eQ h' (s.heap.objs.size+3) (.ref s.heap.objs.size) (.ref (s.heap.objs.size+1)) (.ref (s.heap.objs.size+2))->eQ h' (s.heap.objs.size+4) .none .none .none→
   It true h' s.heap.objs.size a 0->It true h' (s.heap.objs.size+1) b 0->It true h' (s.heap.objs.size+2) c 0->(∀c o,s.heap.get? c=some o->h'.get? c=some o)->Q (.ref (s.heap.objs.size+5)) {s with heap:=h'}):
  wpAny (model prog w) A (call (.type "zip") [.ref a,.ref b,.ref c]) Q E s:=by
 refine callType_new F.called_zip (by decide) (OT _ _ _) (OV _ _ _) (λk=>OQ k _ _ _) F.entry_zip_new (qW a b c xs ys r) ⟨z,G,C,?_⟩
 have d:∀{h:Heap} {o m:Obj} {p:Addr},h.get? p=some m->(h.push o).get? p=some m:=λe=>Qcq _ e
 have f:(G1 s.heap a).objs.size=s.heap.objs.size+1:=Heap.size_push ..
 have i:(G1 (G1 s.heap a) b).objs.size=s.heap.objs.size+2:=by rw[Heap.size_push,f]
 have l:(G3 s.heap a b c).objs.size=s.heap.objs.size+3:=by rw[Heap.size_push,i]
 have g:(G4 s.heap a b c).objs.size=s.heap.objs.size+4:=by rw[Heap.size_push,l]
 have x:(G5 s.heap a b c).objs.size=s.heap.objs.size+5:=by rw[Heap.size_push,g]
 have j:(G6 s.heap a b c).get? (G5 s.heap a b c).objs.size=some _:=Qrq _ rfl
 have v:(G6 s.heap a b c).get? (G4 s.heap a b c).objs.size=some _:=d (Qrq _ rfl)
 have u:(G6 s.heap a b c).get? (G3 s.heap a b c).objs.size=some _:=d (d (Qrq _ rfl))
 have y:(G6 s.heap a b c).get? (G1 (G1 s.heap a) b).objs.size=some _:=d (d (d (Qrq _ rfl)))
 have t:(G6 s.heap a b c).get? (G1 s.heap a).objs.size=some _:=d (d (d (d (Qrq _ rfl))))
 have B:(G6 s.heap a b c).get? s.heap.objs.size=some _:=d (d (d (d (d (Qrq _ rfl)))))
 refine(?_:_/\_)
 rw[l,g,x] at j
 rw[f,i,l] at u
 rw[g] at v
 rw[i] at y
 rw[f] at t
 rw[x]
 exact⟨⟨_,j,rfl⟩,q _ j u v ⟨_,B,rfl,rfl⟩ ⟨_,t,rfl,rfl⟩ ⟨_,y,rfl,rfl⟩ λc o n=>d (d (d (d (d (d n)))))⟩
end
end Z3
namespace L2
open PySem PySem.Spec PyProof.Rows Zq
def OH(K:PySem.W.Frag)(a b c:Addr):It:=
  ⟨λi H=>∃d f e x y z,qe K true H a d/\qe K true H b f/\qe K true H c e/\d[i]?=some x/\f[i]?=some y/\e[i]?=some z,
   λi H v g=>∃p,v=.ref p/\H p=none/\∀d f e x y z,qe K true H a d->qe K true H b f->qe K true H c e->d[i]?=some x->f[i]?=some y->e[i]?=some z->g=upd H p (.tup [x,y,z]),
   λi H=>∃d,qe K true H a d/\d.length<=i⟩
def Es{P:Program}{w:World}{K:PySem.W.Frag}{F:List Expr}{x1:Nat}{tp:Pos}{z T O i j l a b c:Addr}(D:Z3.Ap z T O i j l a b c):
  Turn P w K (.Tuple F x1 tp) (OH K a b c) [z,T,O,i,j,l] z (λn h=>kT h z T O .none (.bool false)/\Z3.eQ h T (.ref i) (.ref j) (.ref l)/\(∃u v x,Z3.eQ h O u v x)/\Zq.It true h i a n/\Zq.It true h j b n/\Zq.It true h l c n) where
 mem:=by simp
 obj:=by
  rintro n h ⟨f,g,⟨u,v,x,q⟩,m,A,t⟩ c d
  simp at d
  rcases d with rfl|rfl|rfl|rfl|rfl|rfl
  ·exact⟨_,f,λv n=>by cases n⟩
  ·exact⟨_,g,λv n=>by cases n⟩
  ·exact⟨_,q,λv n=>by cases n⟩
  ·exact m.obj
  ·exact A.obj
  ·exact t.obj
 keep:=by
  rintro n h h' ⟨f,g,⟨u,v,x,q⟩,m,A,t⟩ k
  exact⟨k z (by simp) _ f,k T (by simp) _ g,⟨u,v,x,k O (by simp) _ q⟩,m.at λo e=>k i (by simp) o e,A.at λo e=>k j (by simp) o e,t.at λo e=>k l (by simp) o e⟩
 item:=by
  rintro X N U R d n p s σ H E I G ⟨f,g,⟨u,v,x,q⟩,m,A,t⟩ Q
  subst N U R
  obtain⟨xs,ys,zs,x,y,e,L,qb,qc,S,hy,he⟩:=Q
  obtain⟨Y,M,Z,_⟩:=I.sq L
  obtain⟨a0,rb,pb,_⟩:=I.sq qb
  obtain⟨a1,rc,pc,_⟩:=I.sq qc
  obtain⟨ux,ex,rx⟩:=M.get S
  obtain⟨uy,ey,ry⟩:=rb.get hy
  obtain⟨uz,ez,rz⟩:=rc.get he
  have B:∀{c o},s.heap.get? c=some o->c≠s.heap.objs.size:=λe=>Qwq (Qiq e)
  have C:∀c∈[z,T,O,i,j,l],c≠s.heap.objs.size:=λc d=>by
   obtain⟨oi,e1,_⟩:=m.obj
   obtain⟨oj,e2,_⟩:=A.obj
   obtain⟨ol,e3,_⟩:=t.obj
   simp at d
   rcases d with rfl|rfl|rfl|rfl|rfl|rfl
   ·exact B f
   ·exact B g
   ·exact B q
   ·exact B e1
   ·exact B e2
   ·exact B e3
  refine Z3.LM D f g q m A t Z pb pc (x:=ux) (y:=uy) (q1:=uz) (by simpa using ex) (by simpa using ey) (by simpa using ez) λh1 z1 O1 i1 j1 l1 n1 J=>⟨_,rfl,?_⟩
  have T1:=J _ _ D.Tz D.TO D.Ti D.Tj D.Tl g
  refine wpAny_letOwnedTupleGo_zip z1 λh2 z2 r=> ?_
  have I2:Inv X p σ (upd H s.heap.objs.size (.tup [x,y,e])) {s with heap:=h2}:=I.turnedNew (t':=s.toks) (fp:= [z,T,O,i,j,l]) G (λc o d e=> ?_) (Qmq _) ?_
  ·refine⟨.ref s.heap.objs.size,_,I2,rfl,⟨s.heap.objs.size,rfl,I.hok.fresh (Qmq _),λa2 a4 a3 x' y' e' q1 q2 q3 q4 q5 q6=> ?_⟩,⟨z2,r.extBut _ _ D.Tz T1,⟨_,_,_,r.extBut _ _ D.Oz O1⟩,i1.ext r.extBut D.iz,j1.ext r.extBut D.jz,l1.ext r.extBut D.lz⟩,λc d=> ?_⟩
   ·rw[I.sq_inj q1 L,S] at q4
    rw[I.sq_inj q2 qb,hy] at q5
    rw[I.sq_inj q3 qc,he] at q6
    cases q4
    cases q5
    cases q6
    rfl
   ·rw[bo (C c d)]
    exact(G c d).1
  ·simp at d
   exact r.extBut _ _ d.1 (J c o d.1 d.2.2.1 d.2.2.2.1 d.2.2.2.2.1 d.2.2.2.2.2 e)
  ·exact⟨by show 3<=_;decide,[ux,uy,uz],.cons rx (.cons ry (.cons rz .nil)),_,r.extBut _ _ (λe=>C z (by simp) e.symm) n1,rfl,rfl,0,rfl⟩
 done:=by
  rintro X N U R d n p s σ H E I G ⟨f,g,⟨u,v,x,q⟩,m,A,t⟩ Q
  subst N U R
  obtain⟨xs,L,S⟩:=Q
  obtain⟨Y,M,Z,_⟩:=I.sq L
  have hl:=M.length
  refine Z3.LB D (I.ok.hd d) f g m Z (by simp;omega) λh1 J=>⟨rfl,I.turnedL (t':=s.toks) (fp:= [z,T,O,i,j,l]) G λc o d e=> ?_⟩
  simp at d
  exact J c o d.1 d.2.2.1 d.2.2.2.1 d.2.2.2.2.1 d.2.2.2.2.2 e
 self:=by
  rintro _ _ _ _ _ ⟨f,_⟩ h
  exact wpAny_pyIter_zip f h
section
variable{X:Cx}
def O0(K:PySem.W.Frag)(h:TA):TI:=λe H R=>h e H λi H1=>∃(a b c:Addr) (d g f:List V),i= [.ref a,.ref b,.ref c]/\qe K true H1 a d/\qe K true H1 b g/\qe K true H1 c f/\R (OH K a b c) H1
def HQ{i:List Expr}{x1:Nat}{tp:Pos}{a b c:Expr}{w:TA}{p pos:Pos}(L:Gl X "zip")(hm:X.mg "zip"=none)(Q:PA X [a,b,c] w)(N:starEach [a,b,c] X.env= [(false,eval a X.env),(false,eval b X.env),(false,eval c X.env)]:=by rfl)(g:starEach [b,c] X.env= [(false,eval b X.env),(false,eval c X.env)]:=by rfl):
  PI X (.Tuple i x1 tp) (.Call (.Name "zip" p) [a,b,c] [] pos) (O0 X.K w):=by
 intro f s Y H R I h
 refine Call_ (kz I L hm (by rfl) (PyProof.Rows.callWith_type1 (df (Q pos f s Y H _ I h) λus u W=> ?_) (by rw[N,g]) (by rw[g];rfl)))
 obtain⟨vs,H1,d,F,x,y,z,xs,ys,zs,e,Z,qb,qc,q⟩:=W
 subst e
 cases F with
 | cons r j=>
   cases j with
   | cons P j=>
     cases j with
     | cons M j=>
       cases j
       cases r
       cases P
       cases M
       obtain⟨B,ra,v,_⟩:=d.sq Z
       obtain⟨A,rb,o,_⟩:=d.sq qb
       obtain⟨J,rc,m,_⟩:=d.sq qc
       refine Z3.MN v o m λh' l S gO C U G k=> ?_
       refine wpAny_pyIter_zip l ⟨_,_,_,_,H1,rfl,d.kept (t':=u.toks) k,Es (Z3.Kh (Sq.lt v) (Sq.lt o) (Sq.lt m)),⟨l,S,⟨_,_,_,gO⟩,C,U,G⟩,λc n=> ?_,q⟩
       have t:u.heap.objs.size<=c:=by
         simp only[Qsq,QXq,or_false] at n
         rcases n with e|e|e|e|e|e <;>(rw[e];first|exact Qmq _|exact Nat.le_add_right _ _)
       exact d.fpOk t (d.hok.fresh t)
end
end L2
namespace DL
open PySem PySem.Spec PyProof.Rows L2
def kP:List D->List D->List D->List D
 |x::xs,y::ys,z::zs=>D.tup [x,y,z]::kP xs ys zs
 |_,_,_=> []
theorem mq:∀{xs ys e:List D} {i:Nat} {d:D},(kP xs ys e)[i]?=some d->∃x y z,xs[i]?=some x/\ys[i]?=some y/\e[i]?=some z/\d=.tup [x,y,z]
 | [],_,_,_,_,h=>by simp[kP] at h
 |_::_,[],_,_,_,h=>by simp[kP] at h
 |_::_,_::_,[],_,_,h=>by simp[kP] at h
 | x::xs,y::ys,z::e,0,d,h=>by
   simp[kP] at h
   exact⟨x,y,z,rfl,rfl,rfl,h.symm⟩
 | x::xs,y::ys,z::e,i+1,d,h=>by
   simp[kP] at h
   obtain⟨a,b,c,g,j,k,f⟩:=mq h
   exact⟨a,b,c,by simpa using g,by simpa using j,by simpa using k,f⟩
theorem wQ:∀{xs ys a:List D},xs.length<=ys.length->xs.length<=a.length->(kP xs ys a).length=xs.length
 | [],_,_,_,_=>by simp[kP]
 |_::_,[],_,h,_=>by simp at h
 |_::_,_::_,[],_,h=>by simp at h
 | x::xs,y::ys,z::a,h,h'=>by
   simp at h h'
   simp[kP,wQ h h']
open Classical in
def zY(f g h:dF):vw:=λb S=>(f b S).bind λ(p,d)=>(g b d).bind λ(r,c)=>(h b c).bind λ(u,a)=>
 if (p.2.isL=false/\r.2.isL=false/\u.2.isL=false)/\p.2.stays c p.1/\p.2.stays a p.1/\r.2.stays a r.1/\p.1.length<=r.1.length/\p.1.length<=u.1.length then some ((kP p.1 r.1 u.1,λS=>p.2.stays S p.1/\r.2.stays S r.1/\u.2.stays S u.1),a) else none
section
variable{X:Cx}{a b c:Expr}{pos:Pos}
def Fy{C:List Expr}{B:Nat}{tp p:Pos}{f g h:dF}(hg:Gl X "zip")(hm:X.mg "zip"=none)(ha:PE X a (tQ (md X) f))(hb:PE X b (tQ (md X) g))(hc:PE X c (tQ (md X) h))(hs:starEach [a,b,c] X.env= [(false,eval a X.env),(false,eval b X.env),(false,eval c X.env)]:=by rfl)(l:starEach [b,c] X.env= [(false,eval b X.env),(false,eval c X.env)]:=by rfl)(F:starEach [c] X.env= [(false,eval c X.env)]:=by rfl):
  PI X (.Tuple C B tp) (.Call (.Name "zip" p) [a,b,c] [] pos) (tI (md X) (zY f g h)):=by
 refine LJ (HQ hg hm (cP ha (cP hb (cP hc fq F) (by rw[l,F])) (by rw[hs,l])) hs l) λσ H R N=> ?_
 obtain⟨ρ,Γ,S,ds,W,S',ok,e,q⟩:=N
 obtain⟨⟨⟨a3,t1⟩,S1⟩,e1,e⟩:=av e
 obtain⟨⟨⟨P,t2⟩,S2⟩,e2,e⟩:=av e
 obtain⟨⟨⟨Z,t3⟩,S3⟩,e3,e⟩:=av e
 dsimp only at e
 split at e
 ·rename_i c
  obtain⟨e4,rfl⟩:=cv e
  obtain⟨rfl,rfl⟩:=Prod.mk.inj e4
  obtain⟨⟨I,l2,Y⟩,w1,w2,w3,n1,n2⟩:=c
  have j:∀{ρ:List Addr} {H:Hp} {a:Addr} {G:List V} {t:Tag},A6 (md X) ρ H a G t->t.isL=false->L2.qe X.K true H a G:=λh e=>by
   have:=h.sqB
   rw[e] at this
   exact this
  refine⟨ρ,Γ,S,a3,t1,S1,ok,e1,λJ a1 a5 H1 B o h1 r1=>⟨J,Γ,S1,P,t2,S2,ok.to B o,e2,λa4 b1 ws H2 x2 s h2 r2=>⟨a4,Γ,S2,Z,t3,S3,(ok.to B o).to x2 s,e3,λa7 c1 ys H3 M m h3 r3=> ?_⟩⟩⟩
  obtain⟨va,Q,a0⟩:=h1.to r1 x2 s w1
  obtain⟨vb,n,a2⟩:=Q.to a0 M m w2
  obtain⟨vc,r,L⟩:=h2.to r2 M m w3
  refine⟨a1,b1,c1,vb,vc,ys,rfl,j n I,j r l2,j h3 Y,q _ _ _ ((B.trans x2).trans M) m λi a6 S4 H4 U k w=> ?_⟩
  obtain⟨us,g1,g2⟩:=n.to a2 U k w.1
  obtain⟨G,g3,g4⟩:=r.to L U k w.2.1
  obtain⟨zs,g5,g6⟩:=h3.to r3 U k w.2.2
  refine⟨λd hd=> ?_,λhi=>⟨us,j g1 I,?_⟩⟩
  ·obtain⟨x,y,z,hx,hy,hz,rfl⟩:=mq hd
   obtain⟨u,hu,ru⟩:=g2.get hx
   obtain⟨v,hv,rv⟩:=g4.get hy
   obtain⟨z',A,rz⟩:=g6.get hz
   refine⟨⟨us,G,zs,u,v,z',j g1 I,j g3 l2,j g5 Y,hu,hv,A⟩,λv1 H5 N=> ?_⟩
   obtain⟨p,rfl,hp,hq⟩:=N
   have:=hq us G zs u v z' (j g1 I) (j g3 l2) (j g5 Y) hu hv A
   subst this
   exact⟨cq.laid hp,k.lay hp,.tup bN ((bf.cons ru (.cons rv (.cons rz .nil))).ext (cq.laid hp))⟩
  ·rw[hi]
   rw[wQ n1 n2]
   exact Nat.le_of_eq g2.length.symm
 ·cases e
end
end DL
namespace L2
open PySem PySem.Spec PyProof.Rows
section
variable{X:Cx}{pos:Pos}
def Ja(i j l:Nat)(b:TA):TS:=λD a H=>b a H λc H1=>∃v w z,c= [v,w,z]/\D.nx (((a.set i (some v)).set j (some w)).set l (some z)) H1
def IE{i j l:Nat}{x y z:Str}{a b c:Expr}{S:TA}{J u r C:Pos}{kt k2 pt2}(hc:X.calm=true)(K:X.N.Nodup)(hi:X.N[i]?=some x)(hj:X.N[j]?=some y)(hl:X.N[l]?=some z)(F:i≠j)(B:i≠l)(M:j≠l)
  (Q:X.env.scope.names.lookup x=some .local) (P:X.env.scope.names.lookup y=some .local) (hz:X.env.scope.names.lookup z=some .local) (ha:PA X [a,b,c] S)
  (hw:swappedStores [.Tuple [.Name x J,.Name y u,.Name z r] kt C] (.Tuple [a,b,c] k2 pt2) X.env=pure (some [x,y,z]))
  (hs:swapsWithSole [.Tuple [.Name x J,.Name y u,.Name z r] kt C] (.Tuple [a,b,c] k2 pt2) pos.line X.env=pure false:=by rfl):
  PS X (.Assign [.Tuple [.Name x J,.Name y u,.Name z r] kt C] (.Tuple [a,b,c] k2 pt2) pos) (Ja i j l S):=by
 intro d s n H D I h
 rw[exec_Assign_arm]
 refine Qaq (wpAny_standAt ?_)
 rw[hs]
 refine Qaq (Qgq ?_)
 rw[Quq (by decide)]
 refine Qaq (Tuple_ (df (ha _ d s n H _ I h) λus k Y=> ?_))
 obtain⟨vs,H1,I1,r1,G⟩:=Y
 obtain⟨v,w,t,Z,G⟩:=G
 subst Z
 obtain⟨m,f,g,rfl,rv,rw',rt⟩:∃m f g,us= [m,f,g]/\RelV v m/\RelV w f/\RelV t g:=by
  cases r1 with
  | cons p q=>
    cases q with
    | cons p' q'=>
      cases q' with
      | cons p2 q2=>
        cases q2
        exact⟨_,_,_,rfl,p,p',p2⟩
 refine QhQ ?_ (by show 3<=_;decide)
 have I2:Inv X d n H1 {k with heap:=k.heap.push {cls:=.type "tuple",data:=.seq [m,f,g].toArray}}:=I1.kept (t':=k.toks) λb o e=>Qcq _ e
 rw[hw]
 refine Qaq (Qgq ?_)
 show wpAny (model X.prog X.w) X.A (do rule "assign.swapped-stores";let items←unpackItems (.ref k.heap.objs.size) 3 none;assignInOrder [λv=>bindName X.env z v,λv=>bindName X.env y v,λv=>bindName X.env x v] items.reverse;pure Flow.next) _ _ _
 refine Qaq (wpAny_rule (Qaq (unpackItems_tuple (items:= #[m,f,g]) (I.ok.hd hc) (IsTup.new k.heap _) λh' L=> ?_)))
 have U:=I2.kept (h':=h') (t':=k.toks) λb o e=>L b o (Qwq (Qiq e)) e
 show wpAny _ _ (assignInOrder [λv=>bindName X.env z v,λv=>bindName X.env y v,λv=>bindName X.env x v] [g,f,m] >>= λ_=>pure Flow.next) _ _ _
 refine Qaq (assignInOrder_cons (wpAny_bindName (iB U K hl (.inl hz) rt (λs2 I4=> ?_) (.inr hz))))
 refine assignInOrder_cons (wpAny_bindName (iB I4 K hj (.inl P) rw' (λs3 W=> ?_) (.inr P)))
 refine assignInOrder_cons (wpAny_bindName (iB W K hi (.inl Q) rv (λs4 R=>assignInOrder_nil (Qgq ?_)) (.inr Q)))
 have e:((n.set l (some t)).set j (some w)).set i (some v)=((n.set i (some v)).set j (some w)).set l (some t):=by
  rw[List.set_comm _ _ (Ne.symm F),List.set_comm _ _ (Ne.symm B),List.set_comm _ _ (Ne.symm M)]
 rw[e] at R
 exact⟨_,H1,R,G⟩
end
end L2
namespace DL
open PySem PySem.Spec L2
section
variable{X:Cx}{st:Stmt}
def Dt(i j l:Nat)(f:fW):cX:=λa S=>(f a S).bind λ(c,b)=>match c with
 | [v,w,z]=>some (.nx (((a.set i (some v)).set j (some w)).set l (some z)) b)
 |_=>none
def JM{i j l:Nat}{f:fW}(h:PS X st (Ja i j l (ze (md X) f))):PS X st (tS (md X) (Dt i j l f)):=Ef h λD v H m=>by
 obtain⟨n,c,S,o,ok,e,q⟩:=m
 obtain⟨⟨t,k⟩,b,e⟩:=av e
 dsimp only at e
 split at e
 ·cases e
  refine⟨n,c,S,_,k,ok,b,λg u s x st r=> ?_⟩
  cases r with
  | cons r a=>
    cases a with
    | cons p a=>
      cases a with
      | cons d a=>
        cases a
        exact⟨_,_,_,rfl,q _ _ _ x ⟨(((ok.en.ext x).set r).set p).set d,st⟩⟩
 ·cases e
def JH{e:cN}{S:aF}{i j l:Nat}{f:fW}{Q:Out->Prop}(h:∃ds d,f e S=some (ds,d)/\∃a b c,ds= [a,b,c]/\Q (.nx (((e.set i (some a)).set j (some b)).set l (some c)) d)):∃o,Dt i j l f e S=some o/\Q o:=by
 obtain⟨ds,d,g,a,b,c,rfl,q⟩:=h
 exact⟨_,by unfold Dt;rw[g];rfl,q⟩
end
end DL
namespace W28
open PySem PySem.Spec L2 DL
abbrev c9:=aW jr
abbrev dE(v:Nat)(k:Int):=aW jr (aw v) (cF (.int k))
abbrev gU(v:Nat)(k:Int):=au (aW jr (aw v) (cF (.int k)))
abbrev jq(x:Str):=au (cF (.str x))
abbrev bW(k:Int):=cF (.int k)
abbrev aG(k:Nat):=au (aw k)
abbrev da(k:Int):=au (cF (.int k))
def m7:cX:=
 (aH (bg 2 (bW 0))
 (aH (eS (aI (aW Ej (aw 1) (hV (a9 (aw 0))))) (bg 2 (c9 (aw 0) (aw 1))) fV)
 (GT (bt (au (aW pR (aw 2) (A_ intOfD (au (aW N6 (aw 2) (aW EZ (bW 10) (bW 18))) ax))) (au (aW oU (aW bU (aW bU (aW oU (aw 2) (bW 2305843009213693951)) (aW pR (bW 7919) (aw 1))) (bW 3)) (bW 2305843009213693951)) (da 0 ax)))))))
def kE:dG:=eY 3 m7
def nH:cX:=
 (aH (eS (aI (aW KC (dE 0 0) (bW 0))) (aH (bg 2 (aW oU (dE 0 0) (aw 1)))
 (aH (tf (aW wW (dE 0 0) (aw 1)) (K5 (aw 0) (bW 0)))
 (cH (aw 2)))) fV)
 (aH (tf (aW bU (dE 0 2) (bW 1)) (K5 (aw 0) (bW 2)))
 (aH (bg 3 (aW oU (aW pR (aW bU (aW bU (dE 0 1) (aW pR (aW pR (bW 65537) (dE 0 2)) (dE 0 2))) (bW 11)) (bW 48271)) (bW 2305843009213693921)))
 (aH (bg 3 (aW oU (aW pR (aw 3) (aW bU (aW oU (aw 3) (bW 1000003)) (aW pR (bW 99991) (dE 0 2)))) (bW 2305843009213693907)))
 (cH (aW oU (aW bU (aW wW (aw 3) (bW 97)) (aW wW (aw 3) (bW 1000033))) (aw 1)))))))
def aE:dG:=eY 4 nH
def rR:cX:=
 (aH (bg 2 (cF (.str "abcdefghijklmnopqrstuvwxyz")))
 (aH (AM 3 4 (au (aA aE (aG 0 (da 26 ax))) (au (c9 (bT (bt (da 1 (da 3 (da 5 (da 7 (da 9 (da 11 ax)))))))) (aA aE (aG 0 (da 6 ax)))) ax)))
 (aH (bg 5 (bT (bt ax)))
 (aH (kH (vp (aw 1)) (cn 6) (m8 (rQ fX (aw 5) (au (aW bU (c9 (aw 2) (aW oU (aW bU (aw 3) (aW pR (aw 4) (aw 6))) (bW 26))) (c9 (bT (bt (jq "" (jq "zq" (jq "x" (jq "qqzzx" ax)))))) (aW oU (aW bU (aw 3) (aW pR (aw 6) (aw 6))) (bW 4)))) ax))))
 (GT (Da (a9 (aw 5))))))))
def cA:dG:=eY 7 rR
def jX:cX:=
 (cH (c9 (aw 1) (aA aE (aG 0 (au (hV (a9 (aw 1))) ax)))))
def bx:dG:=eY 2 jX
def rq(self:dG):cX:=
 (aH (bg 4 (aA aE (aG 0 (da 10 ax))))
 (aH (eS (GV (aI (aW (fP false) (aw 3) (bW 0))) (GV (aI (aW Ej (aw 4) (bW 4))) (aI (eqQ false (a9 (aw 1)) (gL (bt ax)))))) (aH (eS (g7 (aI (dB (a9 (aw 1)))) (aI (aW KC (aA aE (aG 0 (da 3 ax))) (bW 0)))) (cH (aA bx (aG 0 (aG 1 ax)))) fV)
 (cH (aA aE (aG 0 (au (c9 (bT (bt (da 3 (da 10 ax)))) (A_ intOfD (au (aW (fP false) (aA aE (aG 0 (da 4 ax))) (bW 0)) ax))) ax))))) fV)
 (aH (eS (g7 (aI (aW (fP false) (aw 4) (bW 4))) (aI (dB (a9 (aw 2))))) (cH (a8 (jq "waits" (au (aA bx (aG 0 (aG 2 ax))) ax)))) fV)
 (aH (eS (aI (aW (fP false) (aw 4) (bW 5))) (cH (a8 (jq "not" (au (aA self (aG 0 (aG 1 (aG 2 (au (aW oo (aw 3) (bW 1)) ax))))) ax)))) fV)
 (aH (bg 5 (c9 (bT (bt (jq "plus" (jq "minus" (jq "less" (jq "same" (jq "both" ax))))))) (aA aE (aG 0 (da 5 ax)))))
 (cH (a8 (aG 5 (au (aA self (aG 0 (aG 1 (aG 2 (au (aW oo (aw 3) (bW 1)) ax))))) (au (aA self (aG 0 (aG 1 (aG 2 (au (aW oo (aw 3) (bW 1)) ax))))) ax))))))))))
def bu:Nat->dG
 |0=>λ_ _=>none
 |n+1=>eY 6 (rq (bu n))
def m4:cX:=
 (aH (bg 4 (aA bx (aG 0 (aG 2 ax))))
 (aH (bg 5 (c9 (bT (bt (da 0 (jq "given" (au (aA (bu 4) (aG 0 (aG 1 (aG 2 (da 1 ax))))) ax))))) (aA aE (aG 0 (da 3 ax)))))
 (aH (bg 6 (aA aE (aG 0 (da 3 ax))))
 (aH (eS (aI (aW (fP false) (aw 6) (bW 0))) (GT (bt (au (a8 (jq "wait" (aG 4 (aG 5 ax)))) ax))) fV)
 (aH (bg 7 (a8 (jq "not" (au (aA (bu 4) (aG 0 (aG 1 (au (bT (bt ax)) (da 2 ax))))) ax))))
 (aH (bg 8 (bT (bt (au (a8 (jq "unless" (aG 7 (au (aW bU (aw 3) (bW 3)) ax)))) (au (a8 (jq "wait" (aG 4 (aG 5 ax)))) (au (a8 (jq "go" (au (c9 (bT (bt (aG 3 (au (aW bU (aw 3) (bW 3)) ax)))) (A_ intOfD (au (aW (fP false) (aw 6) (bW 1)) ax))) ax))) ax))))))
 (cH (aw 8))))))))
def kD:dG:=eY 9 m4
def nq:cX:=
 (aH (tf (aw 1) (lJ (nG 3 (aR (cn 4) (aR (cn 5) (aR (cn 6) eJ))))))
 (aH (bg 7 (bT (sN (a9 (aw 5)) (gL (bt (jq "given" ax))))))
 (aH (bg 8 (bT (bt ax)))
 (aH (kH (vp (aW bU (bW 1) (aA aE (aG 0 (aG 3 ax))))) (cn 9) (aH (bg 10 (aA aE (aG 0 (da 10 ax))))
 (eS (g7 (aI (aW Ej (aw 10) (bW 3))) (aI (dB (a9 (aw 6))))) (m8 (Cb (aw 8) (gL (dj kD (aG 0 (aG 7 (aG 6 (au (hV (a9 (aw 8))) ax)))))))) (eS (g7 (aI (aW Ej (aw 10) (bW 5))) (aI (dB (a9 (aw 6))))) (aH (bg 11 (c9 (bT (bt (jq "call" (jq "all" ax)))) (A_ intOfD (au (Ei (aW (fP false) (aw 4) (cF (.str "when free"))) (aW (fP false) (aA aE (aG 0 (da 3 ax))) (bW 0))) ax))))
 (m8 (rQ fX (aw 8) (au (a8 (aG 11 (au (aA bx (aG 0 (aG 6 ax))) ax))) ax)))) (eS (g7 (aI (aW (fP false) (aw 10) (bW 5))) (aI (dB (a9 (aw 2))))) (aH (tf (aA bx (aG 0 (aG 2 ax))) (lJ (nG 2 (aR (cn 12) (aR (cn 13) eJ)))))
 (aH (bg 14 (aA bx (aG 0 (au (bT (sN (gL (bt (au (cF .non) ax))) (a9 (aw 5)))) ax))))
 (m8 (rQ fX (aw 8) (au (a8 (jq "do" (aG 14 (aG 12 (au (aA bx (aG 0 (aG 13 ax))) (au (aA (bu 4) (aG 0 (aG 7 (au (bT (bt ax)) (da 1 ax))))) ax)))))) ax))))) (eS (aI (aW (fP false) (aw 10) (bW 6))) (m8 (rQ fX (aw 8) (au (a8 (jq "tell" (au (aA (bu 4) (aG 0 (aG 7 (aG 6 (da 1 ax))))) ax))) ax))) (eS (aI (aW (fP false) (aw 10) (bW 7))) (aH (m8 (rQ fX (aw 8) (au (a8 (jq "unless" (au (aA (bu 4) (aG 0 (aG 7 (aG 6 (da 2 ax))))) (au (aW bU (hV (a9 (aw 8))) (bW 2)) ax)))) ax)))
 (m8 (rQ fX (aw 8) (au (a8 (jq "tell" (au (aA aE (aG 0 (da 10 ax))) ax))) ax)))) (eS (aI (dB (a9 (aw 5)))) (m8 (rQ fX (aw 8) (au (a8 (jq "put" (au (aA bx (aG 0 (aG 5 ax))) (au (aA (bu 4) (aG 0 (aG 7 (aG 6 (da 2 ax))))) ax)))) ax))) (m8 (rQ fX (aw 8) (au (a8 (jq "tell" (au (aA (bu 4) (aG 0 (aG 7 (au (bT (bt ax)) (da 1 ax))))) ax))) ax)))))))))))
 (cH (tupQ (gA (a9 (aw 8)))))))))
def kf:dG:=eY 15 nq
def nP:cX:=
 (aH (bg 3 (c9 (bT (bt (jq "at once" (jq "when free" ax)))) (aA aE (aG 0 (da 2 ax)))))
 (aH (bg 4 (bT (dj cA (aG 0 (au (c9 (bT (bt (da 1 (da 1 (da 2 (da 0 ax)))))) (aA aE (aG 0 (da 4 ax)))) ax)))))
 (aH (bg 5 (bT (dj cA (aG 0 (au (c9 (bT (bt (da 1 (da 1 (da 2 (da 0 ax)))))) (aA aE (aG 0 (da 4 ax)))) ax)))))
 (aH (bg 6 (bT (bt ax)))
 (aH (kH (j2 (gL (dj cA (aG 0 (au (c9 (bT (bt (da 1 (da 2 (da 2 (da 3 ax)))))) (aA aE (aG 0 (da 4 ax)))) ax))))) (cn 7) (aH (bg 8 (bT (Ij (gL (bt (au (a8 (aG 1 (au (bT (cp [none] (j2 (a9 (aw 6))) (cn 0) de (dE 0 0))) ax))) ax))) (A_ intOfD (au (dB (a9 (aw 6))) ax)))))
 (m8 (rQ fX (aw 6) (au (a8 (aG 7 (au (aA kf (aG 0 (au (a8 (aG 3 (aG 4 (aG 5 ax)))) (au (bT (sN (a9 (aw 2)) (a9 (aw 8)))) (da 3 ax))))) ax))) ax)))))
 (cH (a8 (aG 1 (aG 3 (au (tupQ (gL (cp [none,some 0] (j2 (a9 (aw 4))) (cn 0) de (a8 (aG 0 (au (aA aE (aG 1 (da 3 ax))) ax)))))) (au (tupQ (gL (cp [none,some 0] (j2 (a9 (aw 5))) (cn 0) de (a8 (aG 0 (au (c9 (bT (bt (jq "row" (jq "turns" ax)))) (aA aE (aG 1 (da 2 ax)))) ax)))))) (au (tupQ (gA (a9 (aw 6)))) ax))))))))))))
def kq:dG:=eY 9 nP
def lF:cX:=
 (aH (bg 2 (bT (bt ax)))
 (aH (kH (j2 (gL (dj cA (aG 0 (au (aW bU (bW 1) (aA aE (aG 0 (aG 1 ax)))) ax))))) (cn 3) (aH (bg 4 (bT (cp [none] (j2 (a9 (aw 2))) (cn 0) de (a8 (gU 0 0 (au (bT (cp [none] (j2 (a9 (dE 0 4))) (cn 0) de (dE 0 0))) ax))))))
 (m8 (rQ fX (aw 2) (au (aA kq (aG 0 (aG 3 (aG 4 ax)))) ax)))))
 (cH (tupQ (gL (xK (a9 (aw 2))))))))
def i0:dG:=eY 5 lF
def mZ:cX:=
 (aH (bg 5 (bT (bt ax)))
 (aH (kH (vp (aW bU (bW 1) (aA aE (aG 0 (aG 4 ax))))) (cn 6) (aH (bg 7 (aA aE (aG 0 (da 12 ax))))
 (eS (g7 (aI (aW Ej (aw 7) (bW 6))) (aI (aW DG (aw 1) (a8 ax)))) (aH (bg 8 (aA bx (aG 0 (aG 1 ax))))
 (aH (bg 9 (bT (sN (gL (bt (au (cF .non) ax))) (a9 (aw 2)))))
 (aH (bg 10 (c9 (aA bx (aG 0 (gU 8 4 ax))) (bW 0)))
 (m8 (rQ fX (aw 5) (au (a8 (jq "do" (au (aA bx (aG 0 (aG 9 ax))) (gU 8 0 (aG 10 (au (aA (bu 4) (aG 0 (aG 2 (au (bT (bt ax)) (da 1 ax))))) ax)))))) ax)))))) (eS (g7 (aI (aW Ej (aw 7) (bW 8))) (aI (dB (a9 (aw 3))))) (m8 (rQ fX (aw 5) (au (a8 (au (c9 (bT (bt (jq "take" (jq "give" ax)))) (aA aE (aG 0 (da 2 ax)))) (au (aA bx (aG 0 (aG 3 ax))) ax))) ax))) (eS (g7 (aI (aW (fP false) (aw 7) (bW 8))) (aI (dB (a9 (aw 2))))) (m8 (rQ fX (aw 5) (au (a8 (jq "put" (au (aA bx (aG 0 (aG 2 ax))) (au (aA (bu 4) (aG 0 (aG 2 (au (bT (bt ax)) (da 2 ax))))) ax)))) ax))) (aH (eS (aI (aW (fP false) (aw 7) (bW 9))) (m8 (rQ fX (aw 5) (au (a8 (jq "unless" (au (aA (bu 4) (aG 0 (aG 2 (au (bT (bt ax)) (da 2 ax))))) (au (aW bU (hV (a9 (aw 5))) (bW 2)) ax)))) ax))) fV)
 (aH (eS (aI (aW (fP false) (aw 7) (bW 10))) (m8 (rQ fX (aw 5) (au (a8 (jq "go" (au (aW bU (hV (a9 (aw 5))) (bW 2)) ax))) ax))) fV)
 (m8 (rQ fX (aw 5) (au (a8 (jq "say" (au (aA (bu 4) (aG 0 (aG 2 (au (bT (bt ax)) (da 1 ax))))) ax))) ax))))))))))
 (aH (eS (g7 (aI (dB (a9 (aw 2)))) (aI (aW (fP false) (aA aE (aG 0 (da 4 ax))) (bW 0)))) (aH (AM 11 12 (au (aA bx (aG 0 (aG 2 ax))) (au (hV (a9 (aw 5))) ax)))
 (aH (m8 (rQ fX (aw 5) (au (a8 (jq "put" (aG 11 (au (a8 (jq "plus" (aG 11 (da 1 ax)))) ax)))) ax)))
 (m8 (Cb (aw 5) (gL (bt (au (a8 (jq "unless" (au (a8 (jq "less" (aG 11 (da 3 ax)))) (au (aW bU (aw 12) (bW 3)) ax)))) (au (a8 (jq "go" (da 0 ax))) ax)))))))) fV)
 (cH (tupQ (gA (a9 (aw 5))))))))
def gD:dG:=eY 13 mZ
def lR:cX:=
 (aH (bg 3 (aA i0 (aG 0 (aG 1 ax))))
 (aH (bg 4 (bT (cp [none] (j2 (gL (dj cA (aG 0 (au (c9 (bT (bt (da 0 (da 0 (da 1 (da 2 ax)))))) (aA aE (aG 0 (da 4 ax)))) ax))))) (cn 0) (aI (aW Ej (Gv (aw 0)) (bW 5))) (aW bU (cF (.str "pass")) (aw 0)))))
 (aH (bg 5 (bT (cp [none] (j2 (gL (dj cA (aG 0 (au (c9 (bT (bt (da 0 (da 0 (da 0 (da 1 ax)))))) (aA aE (aG 0 (da 4 ax)))) ax))))) (cn 0) de (aW bU (cF (.str "o")) (aw 0)))))
 (aH (bg 6 (bT (bt ax)))
 (aH (kH (vp (aw 2)) (cn 7) (aH (bg 8 (bT (cp [none] (j2 (gL (dj cA (aG 0 (au (c9 (bT (bt (da 0 (da 1 (da 1 (da 2 ax)))))) (aA aE (aG 0 (da 4 ax)))) ax))))) (cn 0) de (aW bU (cF (.str "h")) (aw 0)))))
 (aH (bg 9 (aA gD (aG 0 (aG 3 (au (bT (sN (a9 (aw 8)) (a9 (aw 5)))) (aG 4 (da 3 ax)))))))
 (m8 (rQ fX (aw 6) (au (a8 (au (tupQ (gL (cp [none,some 0] (j2 (a9 (aw 8))) (cn 0) de (a8 (aG 0 (au (aA aE (aG 1 (da 3 ax))) ax)))))) (aG 9 ax))) ax))))))
 (cH (a8 (aG 3 (au (tupQ (gL (cp [none,some 0] (j2 (a9 (aw 4))) (cn 0) de (a8 (aG 0 (au (aA aE (aG 1 (da 3 ax))) ax)))))) (au (tupQ (gL (cp [none,some 0] (j2 (a9 (aw 5))) (cn 0) de (a8 (aG 0 (au (aA aE (aG 1 (da 3 ax))) ax)))))) (au (tupQ (gA (a9 (aw 6)))) ax)))))))))))
def jc:dG:=eY 10 lR
def nW:cX:=
 (cH (tupQ (gL (cp [none,none] (j2 (a9 (aw 0))) (lJ (nG 2 (aR (cn 0) (aR (cn 1) eJ)))) de (aw 1)))))
def gh:dG:=eY 1 nW
def lK:cX:=
 (aH (tf (aw 0) (lJ (nG 5 (aR (cn 1) (aR (cn 2) (aR (cn 3) (aR (cn 4) (aR (cn 5) eJ))))))))
 (cH (a8 (au (aA gh (aG 3 ax)) (au (cF (.int (-1))) (au (a8 ax) (au (a8 ax) (au (tupQ (gL (cp [none] (j2 (a9 (aw 4))) (cn 0) de (a8 ax)))) ax))))))))
def jj:dG:=eY 6 lK
def Bc:cX:=
 (aH (tf (aw 0) (lJ (nG 4 (aR (cn 1) (aR (cn 2) (aR (cn 3) (aR (cn 4) eJ)))))))
 (aH (bg 5 (a8 (au (cF (.int (-1))) (au (cF (.int (-1))) (da 0 (da 0 (da 0 ax)))))))
 (cH (a8 (au (tupQ (gL (cp [none] (j2 (a9 (aw 1))) (cn 0) de (aA jj (aG 0 ax))))) (au (tupQ (gL (cp [none,none] (j2 (a9 (aw 2))) (lJ (nG 2 (aR (cn 0) (aR (cn 1) eJ)))) de (a8 (aG 1 (au (a8 ax) ax)))))) (au (aA gh (aG 3 ax)) (au (tupQ (gL (cp [none,none,some 5] (j2 (a9 (aw 4))) (lJ (nG 2 (aR (cn 0) (aR (cn 1) eJ)))) de (a8 (au (aA gh (aG 0 ax)) (au (a8 (aG 2 ax)) ax)))))) ax))))))))
def u5:dG:=eY 6 Bc
def qp:cX:=
 (GT (cp [none,none] (j2 (a9 (aw 0))) (lJ (nG 2 (aR (cn 0) (aR (cn 1) eJ)))) de (aw 1)))
def my:dG:=eY 1 qp
def iG:cX:=
 (aH (bg 1 (bT (bt ax)))
 (aH (kH (j2 (a9 (dE 0 1))) (lJ (nG 2 (aR (cn 2) (aR (cn 3) eJ)))) (m8 (w6 (aw 1) (a9 (aw 3)))))
 (aH (kH (j2 (a9 (dE 0 0))) (lJ (nG 5 (aR (cn 4) (aR (cn 5) (aR (cn 3) (aR (cn 6) (aR (cn 7) eJ))))))) (aH (m8 (w6 (aw 1) (a9 (aW bU (aw 3) (aw 6)))))
 (kH (j2 (a9 (aw 7))) (cn 8) (m8 (Cb (aw 1) (gL (dj my (aG 8 ax))))))))
 (cH (aw 1)))))
def eE:dG:=eY 9 iG
def kW:cX:=
 (cH (c9 (c9 (c9 (dE 0 3) (aw 1)) (bW 1)) (qB (bW 1))))
def cV:dG:=eY 2 kW
def rJ:cX:=
 (aH (AM 3 4 (gU 2 0 (gU 2 1 ax)))
 (aH (eS (aI (aW (fP false) (aw 3) (cF (.int (-1))))) (cH (c9 (c9 (dE 0 3) (aw 1)) (bW 1))) fV)
 (cH (c9 (c9 (c9 (c9 (dE 0 0) (aw 3)) (bW 4)) (aw 4)) (bW 1)))))
def fB:dG:=eY 5 rJ
def iQ:cX:=
 (aH (bg 3 (aA cV (aG 1 (aG 2 ax))))
 (cH (Ei (aW (fP false) (dE 3 0) (cF (.int (-1)))) (aW (fP false) (dE 3 2) (hV (a9 (aA fB (aG 0 (aG 2 (aG 3 ax))))))))))
def fH:dG:=eY 4 iQ
def qQ:cX:=
 (aH (bg 2 (bT (dj eE (aG 1 ax))))
 (GT (cp [none,some 0,some 1,some 2] (vp (hV (a9 (dE 1 3)))) (cn 0) (g7 (aI (Hj true (aw 0) (a9 (aw 3)))) (vN (mK (aA fH (aG 1 (aG 2 (aG 0 ax))))))) (aw 0))))
def iq:dG:=eY 3 qQ
def qk:cX:=
 (GT (cp [none] (j2 (a9 (aw 0))) (cn 0) de (dE 0 0)))
def ee:dG:=eY 1 qk
def rg:cX:=
 (cH (J5 (gL (dj ee (aG 0 ax))) (aw 1)))
def dg:dG:=eY 2 rg
def m5:cX:=
 (cH (aW bU (aW bU (oY (aw 0) qd (oV (aw 1))) (a8 (aG 2 ax))) (oY (aw 0) (oV (aW bU (aw 1) (bW 1))) qd)))
def dA:dG:=eY 3 m5
def nE:cX:=
 (cH (aW bU (oY (aw 0) qd (oV (bW 3))) (a8 (au (aA dA (gU 0 3 (aG 1 (au (a8 (aG 2 (aG 3 ax))) ax)))) ax))))
def fg:dG:=eY 4 nE
def n_:cX:=
 (cH (aW bU (a8 (au (aA dA (gU 0 0 (aG 1 (aG 2 ax)))) ax)) (oY (aw 0) (oV (bW 1)) qd)))
def c8:dG:=eY 3 n_
def j8:cX:=
 (aH (bg 5 (c9 (aA cV (aG 1 (aG 2 ax))) (bW 0)))
 (aH (eS (aI (aW (fP true) (aw 5) (cF (.int (-1))))) (aH (bg 6 (aA dg (au (c9 (c9 (dE 0 0) (aw 5)) (bW 2)) (aG 3 ax))))
 (aH (bg 7 (aA dA (au (c9 (c9 (dE 1 0) (aw 5)) (bW 0)) (aG 6 (aG 4 ax)))))
 (cH (aA c8 (aG 1 (aG 5 (au (aW bU (a8 (aG 7 ax)) (oY (c9 (dE 1 0) (aw 5)) (oV (bW 1)) qd)) ax))))))) fV)
 (aH (eS (aI (Hj false (aw 3) (gL (dj ee (gU 0 2 ax))))) (aH (bg 8 (aA dA (gU 1 2 (au (aA dg (gU 0 2 (aG 3 ax))) (aG 4 ax)))))
 (cH (a8 (gU 1 0 (gU 1 1 (aG 8 (gU 1 3 ax))))))) fV)
 (aH (tf (c9 (dE 1 3) (aw 2)) (lJ (nG 2 (aR (cn 7) (aR (cn 9) eJ)))))
 (aH (bg 6 (aA dg (au (c9 (c9 (dE 0 3) (aw 2)) (bW 0)) (aG 3 ax))))
 (cH (aA fg (aG 1 (aG 2 (au (aA dA (aG 7 (aG 6 (aG 4 ax)))) (aG 9 ax)))))))))))
def ff:dG:=eY 10 j8
def jn:cX:=
 (aH (eS (aI (aW (fP false) (aw 0) (cF (.str "plus")))) (cH (A_ minD (au (aW bU (aw 1) (aw 2)) (au (cF (.int (9))) ax)))) fV)
 (aH (eS (aI (aW (fP false) (aw 0) (cF (.str "minus")))) (cH (A_ maxD (au (aW oo (aw 1) (aw 2)) (da 0 ax)))) fV)
 (aH (eS (aI (aW (fP false) (aw 0) (cF (.str "less")))) (cH (xv (aI (aW Ej (aw 1) (aw 2))) (bW 1) (bW 0))) fV)
 (aH (eS (aI (aW (fP false) (aw 0) (cF (.str "same")))) (cH (xv (aI (aW (fP false) (aw 1) (aw 2))) (bW 1) (bW 0))) fV)
 (cH (xv (g7 (aI (aW (fP true) (aw 1) (bW 0))) (aI (aW (fP true) (aw 2) (bW 0)))) (bW 1) (bW 0)))))))
def gE:dG:=eY 3 jn
def qm(self:dG):cX:=
 (aH (eS (mK (DF "int" (aw 0))) (cH (aw 0)) fV)
 (aH (eS (mK (DF "str" (aw 0))) (cH (LO (aw 1) (aw 0))) fV)
 (aH (eS (aI (aW (fP false) (dE 0 0) (cF (.str "waits")))) (cH (xv (aI (aW KC (LO (aw 2) (dE 0 1)) (bW 0))) (bW 1) (bW 0))) fV)
 (aH (bg 3 (aA self (gU 0 1 (aG 1 (aG 2 ax)))))
 (aH (eS (aI (aW (fP false) (dE 0 0) (cF (.str "not")))) (cH (xv (aI (aW (fP false) (aw 3) (bW 0))) (bW 1) (bW 0))) fV)
 (cH (aA gE (gU 0 0 (aG 3 (au (aA self (gU 0 2 (aG 1 (aG 2 ax)))) ax))))))))))
def gu:Nat->dG
 |0=>λ_ _=>none
 |n+1=>eY 4 (qm (gu n))
def mF:cX:=
 (aH (bg 4 (aA cV (aG 1 (aG 2 ax))))
 (aH (bg 5 (dE 4 0))
 (aH (eS (aI (aW (fP false) (aw 5) (cF (.int (-1))))) (aH (bg 6 (Li (gL (dj ee (gU 0 2 ax))) (a9 (dE 1 2))))
 (aH (m8 (Hf (aw 6) (Li (gL (dj ee (au (c9 (c9 (dE 0 3) (aw 2)) (bW 0)) ax))) (a9 (c9 (c9 (dE 1 3) (aw 2)) (bW 0))))))
 (cH (aA (gu 6) (aG 3 (aG 6 (au NC ax))))))) fV)
 (aH (bg 6 (Li (gL (dj ee (au (c9 (c9 (dE 0 0) (aw 5)) (bW 2)) ax))) (a9 (c9 (c9 (dE 1 0) (aw 5)) (bW 0)))))
 (aH (Nb (aw 6) (cF (.str "given")) (dE 4 3))
 (aH (LS 7 (qV [none,none] (Eb (gL (dj ee (au (c9 (c9 (dE 0 0) (aw 5)) (bW 3)) ax))) (a9 (c9 (c9 (dE 1 0) (aw 5)) (bW 4)))) (lJ (nG 2 (aR (cn 0) (aR (cn 1) eJ)))) de (aw 0) (hV (a9 (aw 1)))))
 (cH (aA (gu 6) (aG 3 (aG 6 (aG 7 ax)))))))))))
def dP:dG:=eY 8 mF
def xh:cX:=
 (cH (aA ff (aG 0 (aG 1 (aG 2 (gU 3 1 (au (aA dP (aG 0 (aG 1 (aG 2 (gU 3 2 ax))))) ax)))))))
def sZ:dG:=eY 4 xh
def f_:cX:=
 (aH (tf (c9 (dE 0 3) (aw 1)) (lJ (nG 2 (aR (cn 3) (aR (cn 4) eJ)))))
 (cH (aA fg (aG 0 (aG 1 (aG 3 (au (aW bU (oY (aw 4) qd (oV (qB (bW 1)))) (a8 (aG 2 ax))) ax)))))))
def dN:dG:=eY 5 f_
def xt:cX:=
 (aH (bg 3 (aA cV (aG 0 (aG 1 ax))))
 (cH (aA dN (aG 0 (aG 1 (au (aW bU (aW bU (oY (aw 3) qd (oV (bW 2))) (a8 (aG 2 ax))) (oY (aw 3) (oV (bW 3)) qd)) ax))))))
def kI:dG:=eY 4 xt
def nX:cX:=
 (aH (eS (aI (aW (fP false) (aA dP (aG 0 (aG 1 (aG 2 (gU 3 1 ax))))) (bW 0))) (cH (aA kI (aG 1 (aG 2 (gU 3 2 ax))))) fV)
 (cH (aw 1)))
def jW:dG:=eY 4 nX
def Bu:cX:=
 (cH (aA kI (aG 1 (aG 2 (gU 3 1 ax)))))
def yD:dG:=eY 4 Bu
def tY:cX:=
 (aH (tf (c9 (dE 0 0) (aw 1)) (lJ (nG 5 (aR (cn 3) (aR (cn 4) (aR (cn 5) (aR (cn 6) (aR (cn 7) eJ))))))))
 (aH (eS (aI (aW (fP false) (aw 4) (cF (.int (-1))))) (cH (aA c8 (aG 0 (aG 1 (au (a8 (aG 3 (aG 2 (aG 5 (aG 6 (aG 7 ax)))))) ax))))) fV)
 (cH (aA c8 (aG 0 (aG 1 (au (a8 (aG 3 (aG 4 (au (aW bU (aw 5) (a8 (aG 2 ax))) (aG 6 (aG 7 ax)))))) ax)))))))
def k0:dG:=eY 8 tY
def B2:cX:=
 (aH (bg 4 (aA dg (gU 0 0 (gU 3 2 ax))))
 (aH (bg 5 (aA dg (au (c9 (c9 (dE 0 0) (aw 4)) (bW 4)) (gU 3 3 ax))))
 (aH (bg 6 (a8 (aG 4 (aG 5 (da 0 (au (aA dP (aG 0 (aG 1 (aG 2 (gU 3 4 ax))))) (da 0 ax)))))))
 (aH (tf (c9 (dE 1 3) (aw 2)) (lJ (nG 2 (aR (cn 7) (aR (cn 8) eJ)))))
 (cH (aA k0 (au (aA fg (aG 1 (aG 2 (aG 7 (au (aW bU (aw 8) (a8 (aG 6 ax))) ax))))) (aG 4 (aG 2 ax)))))))))
def x_:dG:=eY 9 B2
def uY:cX:=
 (aH (bg 4 (c9 (aA cV (aG 1 (aG 2 ax))) (bW 0)))
 (cH (a8 (aG 4 (au (aA dg (au (c9 (c9 (dE 0 0) (aw 4)) (bW 3)) (aG 3 ax))) ax)))))
def jv:dG:=eY 5 uY
def nc:cX:=
 (aH (bg 4 (c9 (dE 0 0) (aw 1)))
 (cH (aA c8 (aG 0 (aG 1 (au (aW bU (oY (aw 4) qd (oV (bW 4))) (a8 (au (aA dA (gU 4 4 (aG 2 (aG 3 ax)))) ax))) ax))))))
def fu:dG:=eY 5 nc
def BV:cX:=
 (aH (tf (c9 (dE 0 0) (aw 1)) (lJ (nG 5 (aR (cn 2) (aR (cn 3) (aR (cn 4) (aR (cn 5) (aR (cn 6) eJ))))))))
 (aH (eS (mK (aw 5)) (cH (aA c8 (aG 0 (aG 1 (au (a8 (aG 2 (gU 5 0 (aG 4 (au (oY (aw 5) (oV (bW 1)) qd) (aG 6 ax)))))) ax))))) fV)
 (aH (eS (mK (aw 4)) (cH (aA c8 (aG 0 (aG 1 (au (a8 (aG 2 (gU 4 0 (au (oY (aw 4) (oV (bW 1)) qd) (aG 5 (aG 6 ax)))))) ax))))) fV)
 (cH (aA c8 (aG 0 (aG 1 (au (a8 (aG 2 (au (cF (.int (-1))) (aG 4 (aG 5 (aG 6 ax)))))) ax))))))))
def qy:dG:=eY 7 BV
def ua:cX:=
 (aH (tf (aA jv (aG 0 (aG 1 (aG 2 (gU 3 1 ax))))) (lJ (nG 2 (aR (cn 4) (aR (cn 5) eJ)))))
 (aH (bg 6 (bW 0))
 (aH (eS (aI (aW (fP false) (c9 (c9 (c9 (c9 (dE 0 0) (aw 4)) (bW 3)) (aw 5)) (bW 1)) (cF (.str "turns")))) (bg 6 (aA dP (aG 0 (aG 1 (aG 2 (gU 3 2 ax)))))) fV)
 (aH (bg 7 (c9 (c9 (c9 (dE 1 0) (aw 4)) (bW 4)) (aw 5)))
 (aH (bg 8 (hV (gL (cp [none,none,some 6] (j2 (a9 (aw 7))) (lJ (nG 2 (aR (cn 0) (aR (cn 1) eJ)))) (aI (aW Lf (aw 0) (aw 2))) (aw 0)))))
 (aH (bg 9 (aA fu (aG 1 (aG 4 (aG 5 (au (aW bU (aW bU (oY (aw 7) qd (oV (aw 8))) (a8 (au (a8 (aG 6 (aG 2 ax))) ax))) (oY (aw 7) (oV (aw 8)) qd)) ax))))))
 (cH (aA qy (aG 9 (aG 4 ax))))))))))
def oE:dG:=eY 10 ua
def uF:cX:=
 (aH (tf (aA jv (aG 0 (aG 1 (aG 2 (gU 3 1 ax))))) (lJ (nG 2 (aR (cn 4) (aR (cn 5) eJ)))))
 (aH (bg 6 (c9 (c9 (c9 (dE 1 0) (aw 4)) (bW 4)) (aw 5)))
 (aH (eS (vN (mK (aw 6))) (cH (aw 1)) fV)
 (aH (bg 7 (aA fu (aG 1 (aG 4 (aG 5 (au (oY (aw 6) (oV (bW 1)) qd) ax))))))
 (aH (eS (aI (aW (fP false) (c9 (c9 (dE 0 0) (aw 4)) (bW 1)) (cF (.str "when free")))) (cH (aw 7)) fV)
 (aH (tf (c9 (dE 7 0) (aw 4)) (lJ (nG 5 (aR (cn 8) (aR (cn 9) (aR (cn 10) (aR (cn 11) (aR (cn 12) eJ))))))))
 (cH (aA c8 (aG 7 (aG 4 (au (a8 (aG 8 (au (c9 (dE 6 0) (bW 1)) (aG 10 (au (aW bU (aw 11) (a8 (aG 2 ax))) (aG 12 ax)))))) ax)))))))))))
def p7:dG:=eY 13 uF
def yJ:cX:=
 (aH (tf (aA jv (aG 0 (aG 1 (aG 2 (gU 3 1 ax))))) (lJ (nG 2 (aR (cn 4) (aR (cn 5) eJ)))))
 (cH (aA fu (aG 1 (aG 4 (aG 5 (au (a8 ax) ax)))))))
def tE:dG:=eY 6 yJ
def uS:cX:=
 (aH (bg 4 (aA dP (aG 0 (aG 1 (aG 2 (gU 3 1 ax))))))
 (cH (aA dN (aG 1 (aG 2 (au (aW bU (oY (aA cV (aG 1 (aG 2 ax))) qd (oV (bW 4))) (a8 (aG 4 ax))) ax))))))
def pP:dG:=eY 5 uS
def ni:cX:=
 (cH (aW bU (a8 (gU 0 0 (au (aA dA (gU 0 1 (aG 1 (aG 2 ax)))) ax))) (oY (aw 0) (oV (bW 2)) qd)))
def ft:dG:=eY 3 ni
def BJ:cX:=
 (aH (bg 4 (aA dg (gU 0 1 (aG 3 ax))))
 (aH (tf (c9 (dE 1 1) (aw 4)) (lJ (nG 2 (aR (cn 5) (aR (cn 6) eJ)))))
 (aH (eS (aI (aW KC (aw 5) (bW 0))) (cH (aA ft (aG 1 (aG 4 (au (a8 (au (aW oo (aw 5) (bW 1)) (aG 6 ax))) ax))))) fV)
 (cH (aA ft (aG 1 (aG 4 (au (a8 (aG 5 (au (aW bU (aw 6) (a8 (aG 2 ax))) ax))) ax))))))))
def t4:dG:=eY 7 BJ
def uo:cX:=
 (cH (aA t4 (aG 0 (aG 1 (aG 2 (gU 3 1 ax))))))
def oD:dG:=eY 4 uo
def lH:cX:=
 (aH (bg 3 (aA dg (gU 0 1 (aG 2 ax))))
 (aH (tf (c9 (dE 1 1) (aw 3)) (lJ (nG 2 (aR (cn 4) (aR (cn 5) eJ)))))
 (aH (eS (mK (aw 5)) (cH (aA ft (aG 1 (aG 3 (au (a8 (aG 4 (au (oY (aw 5) (oV (bW 1)) qd) ax))) ax))))) fV)
 (cH (aA ft (aG 1 (aG 3 (au (a8 (au (A_ minD (au (aW bU (aw 4) (bW 1)) (au (cF (.int (9))) ax))) (aG 5 ax))) ax))))))))
def gM:dG:=eY 6 lH
def u4:cX:=
 (cH (aA gM (aG 0 (aG 1 (gU 3 1 ax)))))
def oX:dG:=eY 4 u4
def uv:cX:=
 (cH (aA t4 (aG 0 (au (aA gM (aG 0 (aG 1 (gU 3 1 ax)))) (aG 2 (gU 3 2 ax))))))
def pO:dG:=eY 4 uv
def yW:cX:=
 (cH (aw 1))
def sU:dG:=eY 4 yW
def mw:List (Str×Str):= [("put","by_put"),("unless","by_unless"),("go","by_go"),("do","by_do"),("wait","by_wait"),("call","by_call"),("all","by_all"),("tell","by_tell"),("take","by_take"),("give","by_give"),("pass","by_pass"),("say","by_say")]
def uC:List (Str×dG):= [("by_put",sZ),("by_unless",jW),("by_go",yD),("by_do",x_),("by_wait",oE),("by_call",p7),("by_all",tE),("by_tell",pP),("by_take",oD),("by_give",oX),("by_pass",pO),("by_say",sU)]
def wZ:cX:=
 (aH (bg 4 (Nc mw (dE 3 0)))
 (cH (uD 4 uC (aG 0 (aG 1 (aG 2 (aG 3 ax)))))))
def jH:dG:=eY 5 wZ
def qN:cX:=
 (aH (tf (c9 (dE 1 3) (aw 2)) (lJ (nG 2 (aR (cn 3) (aR (cn 4) eJ)))))
 (aH (tf (c9 (aw 4) (qB (bW 1))) (lJ (nG 5 (aR (cn 5) (aR (cn 6) (aR (cn 7) (aR (cn 8) (aR (cn 9) eJ))))))))
 (aH (bg 10 (aA fg (au (aA qy (aG 1 (aG 5 ax))) (aG 2 (aG 3 (au (oY (aw 4) qd (oV (qB (bW 1)))) ax))))))
 (aH (bg 11 (c9 (aA fB (aG 0 (aG 2 (au (c9 (aw 4) (qB (bW 2))) ax)))) (aW oo (c9 (c9 (aw 4) (qB (bW 2))) (bW 2)) (bW 1))))
 (aH (eS (aI (aW (GX false) (dE 11 1) (cF .non))) (cH (aw 10)) fV)
 (cH (aA ff (aG 0 (aG 10 (aG 2 (gU 11 1 (aG 9 ax))))))))))))
def jN:dG:=eY 12 qN
def lY:cX:=
 (aH (bg 3 (aA cV (aG 1 (aG 2 ax))))
 (aH (bg 4 (dE 3 0))
 (aH (eS (g7 (aI (aW (fP true) (aw 4) (cF (.int (-1))))) (aI (aW (fP true) (c9 (c9 (dE 1 0) (aw 4)) (bW 1)) (aw 2)))) (cH (a8 (au (aA k0 (aG 1 (aG 4 (aG 2 ax)))) (au (cF .non) ax)))) fV)
 (aH (bg 5 (aA fB (aG 0 (aG 2 (aG 3 ax)))))
 (aH (eS (aI (aW (fP false) (dE 3 2) (hV (a9 (aw 5))))) (cH (a8 (au (aA jN (aG 0 (aG 1 (aG 2 ax)))) (au (cF .non) ax)))) fV)
 (aH (bg 6 (c9 (aw 5) (dE 3 2)))
 (aH (bg 7 (cF .non))
 (aH (eS (aI (aW (fP false) (dE 6 0) (cF (.str "say")))) (bg 7 (a8 (aG 2 (au (aA dP (aG 0 (aG 1 (aG 2 (gU 6 1 ax))))) ax)))) fV)
 (cH (a8 (au (aA jH (aG 0 (au (aA kI (aG 1 (aG 2 (au (aW bU (dE 3 2) (bW 1)) ax)))) (aG 2 (aG 6 ax))))) (aG 7 ax))))))))))))
def o_:dG:=eY 8 lY
def vt:cX:=
 (aH (eS (aI (Hj true (aw 2) (gL (dj iq (aG 0 (aG 1 ax)))))) never fV)
 (cH (aA o_ (aG 0 (aG 1 (aG 2 ax))))))
def oN:dG:=eY 3 vt
def rV:cX:=
 (aH (Dt 3 4 5 (au (aA u5 (aG 1 ax)) (au (bT (bt ax)) (au (bT (bt (au (aA u5 (aG 1 ax)) ax))) ax))))
 (aH (kH (vp (aW bU (bW 1) (aA aE (aG 0 (da 24 ax))))) (cn 6) (aH (bg 7 (bT (dj iq (aG 1 (aG 3 ax)))))
 (eS (aI (dB (a9 (aw 7)))) (aH (bg 8 (aA bx (aG 0 (aG 7 ax))))
 (kH (vp (aW bU (bW 1) (aA aE (aG 0 (au (c9 (bT (bt (da 2 (da 6 ax)))) (aA aE (aG 0 (da 2 ax)))) ax))))) (cn 9) (eS (g7 (aI (aW Ej (hV (a9 (aw 4))) (aw 2))) (aI (Hj false (aw 8) (gL (dj iq (aG 1 (aG 3 ax))))))) (aH (bg 3 (c9 (aA oN (aG 1 (aG 3 (aG 8 ax)))) (bW 0)))
 (aH (m8 (rQ fX (aw 4) (aG 8 ax)))
 (m8 (rQ fX (aw 5) (aG 3 ax))))) fV))) fV)))
 (cH (a8 (au (tupQ (gA (a9 (aw 4)))) (aG 5 ax))))))
def i8:dG:=Lg 10 rV
def iS:cX:=
 (aH (eS (GV (aI (aW (pk true) (dE 0 1) (aw 2))) (aI (aW (pk false) (dE 1 1) (aw 2)))) (cH (cF (.bl true))) fV)
 (aH (eS (g7 (aI (aW (pk true) (dE 0 4) (dE 1 4))) (aI (aW (pk false) (oY (dE 1 3) (oV (qB (bW 1))) qd) (a8 (aG 2 ax))))) (aH (bg 3 (bT (cp [none,none] (Eb (a9 (dE 0 4)) (a9 (dE 1 4))) (lJ (nG 2 (aR (cn 0) (aR (cn 1) eJ)))) (aI (aW (pk true) (aw 0) (aw 1))) (c9 (dE 0 0) (bW 1)))))
 (cH (yz false (a9 (aw 3)) (gL (bt (gU 1 1 ax)))))) fV)
 (aH (eS (aI (aW (pk true) (dE 0 3) (a8 ax))) (cH (aW (pk false) (dE 1 1) (c9 (dE 0 3) (bW 0)))) fV)
 (cH (aW (pk false) (dE 1 1) (c9 (bT (sN (gL (A2 (a9 (dE 0 2)))) (gL (bt (au (qB (bW 1)) ax))))) (bW 0)))))))
def dW:dG:=eY 4 iS
def kQ:cX:=
 (aH (kH (j2 (a9 (a8 (da 0 (da 1 ax))))) (cn 2) (aH (bg 3 (oY (aw 0) (oV (aw 2)) qd))
 (eS (g7 (aI (aW (pk false) (oY (aw 1) qd (oV (hV (a9 (aw 3))))) (aw 3))) (aI (aW Lf (hV (a9 (aw 1))) (aW bU (hV (a9 (aw 3))) (bW 1))))) (cH (cF (.bl true))) fV)))
 (cH (cF (.bl false))))
def dh:dG:=eY 4 kQ
def jJ:cX:=
 (aH (bg 4 (bT (cp [none,some 1] (j2 (a9 (aw 2))) (cn 0) (aI (Le true (aw 0) (a9 (aw 1)))) (aw 0))))
 (aH (eS (aI (yz false (a9 (aw 4)) (gL (bt ax)))) (cH (Jl (aW (pk false) (aw 2) (aw 1)) (Jl (aW (pk false) (aw 2) (oY (aw 1) (oV (bW 1)) qd)) (aW (pk false) (aw 2) (a8 ax))))) fV)
 (aH (eS (GV (aI (aW KC (hV (a9 (aw 4))) (bW 1))) (aI (aW (pk true) (c9 (dE 4 0) (bW 1)) (aw 3)))) (cH (cF (.bl false))) fV)
 (aH (bg 5 (c9 (dE 4 0) (bW 0)))
 (aH (bg 6 (bT (cp [none,some 0,some 5] (j2 (a9 (aw 1))) (cn 0) (GV (aI (aW (pk false) (aw 1) (cF (.str "row")))) (aI (aW Lf (dE 0 0) (aw 2)))) (aw 0))))
 (cH (yz false (gL (A2 (a9 (aw 2)))) (gL (sN (gL (sN (a9 (aw 6)) (a9 (aw 4)))) (gL (cp [none,some 6] (j2 (a9 (aw 1))) (cn 0) (aI (Le true (aw 0) (a9 (aw 1)))) (aw 0))))))))))))
def eO:dG:=eY 7 jJ
def rX:cX:=
 (aH (kH (zY (a9 (dE 0 0)) (a9 (dE 1 0)) (a9 (dE 2 0))) (lJ (nG 3 (aR (cn 4) (aR (cn 5) (aR (cn 6) eJ))))) (aH (eS (GV (vN (mK (aA dh (gU 5 2 (gU 6 2 ax))))) (vN (mK (aA dh (gU 5 3 (gU 6 3 ax)))))) (cH (cF (.bl false))) fV)
 (aH (kH (zY (a9 (dE 4 3)) (a9 (dE 5 4)) (a9 (dE 6 4))) (lJ (nG 3 (aR (cn 7) (aR (cn 8) (aR (cn 9) eJ))))) (eS (vN (mK (aA eO (gU 7 1 (aG 8 (aG 9 (aG 3 ax))))))) (cH (cF (.bl false))) fV))
 (eS (vN (mK (aA dW (aG 5 (aG 6 (aG 3 ax)))))) (cH (cF (.bl false))) fV))))
 (cH (HC (gL (cp [none,none] (Eb (a9 (dE 1 1)) (a9 (dE 2 1))) (lJ (nG 2 (aR (cn 0) (aR (cn 1) eJ)))) de (aA dh (gU 0 1 (gU 1 1 ax))))))))
def i6:dG:=eY 10 rX
def KR:cX:=
 (aH (kH (vp (A_ maxD (da 1 (au (A_ minD (da 4 (au (hV (a9 (aw 0))) ax))) ax)))) (cn 1) (aH (bg 2 (bT (dj kE (aG 0 (aG 1 ax)))))
 (aH (bg 3 (aA jc (aG 2 (da 3 (au (aW bU (bW 2) (aA aE (aG 2 (da 3 ax)))) ax)))))
 (aH (tf (aA i8 (aG 2 (aG 3 (da 60 ax)))) (lJ (nG 2 (aR (cn 4) (aR (cn 5) eJ)))))
 (kH (Ct (a9 (aw 4))) (lJ (nG 2 (aR (cn 6) (aR (cn 7) eJ)))) (eS (vN (mK (aA i6 (aG 3 (au (c9 (aw 5) (aw 6)) (au (c9 (aw 5) (aW bU (aw 6) (bW 1))) (aG 7 ax))))))) (cH (cF (.bl false))) fV))))))
 (cH (cF (.bl true))))
def HK:dG:=eY 8 KR
def top(i:Nat):Stmt:=PySem.Challenge.pw_calledroom_k91_whole_let_on_in_order.main.body.getD i (.Pass ⟨0,0,0,0⟩)
abbrev lG:Stmt:=top 56
abbrev kX:Stmt:=top 57
abbrev jY:Stmt:=top 59
abbrev kU:Stmt:=top 58
abbrev nu:Stmt:=top 60
abbrev lL:Stmt:=top 61
abbrev k8:Stmt:=top 62
abbrev lO:Stmt:=top 63
abbrev ko:Stmt:=top 64
abbrev iP:Stmt:=top 65
abbrev j_:Stmt:=top 66
abbrev kY:Stmt:=top 10
abbrev ke:Stmt:=top 12
abbrev yf:Stmt:=top 11
abbrev nY:Stmt:=top 21
abbrev gY:Stmt:=top 51
abbrev jV:Stmt:=top 13
abbrev kc:Stmt:=top 14
abbrev gZ:Stmt:=top 52
abbrev om:Stmt:=top 50
abbrev nL:Stmt:=top 23
abbrev oq:Stmt:=top 25
abbrev l_:Stmt:=top 15
abbrev lE:Stmt:=top 18
abbrev k_:Stmt:=top 16
abbrev kZ:Stmt:=top 27
abbrev iO:Stmt:=top 6
abbrev nR:Stmt:=top 5
abbrev nQ:Stmt:=top 26
abbrev vh:Stmt:=top 31
abbrev fN:Stmt:=top 19
abbrev vf:Stmt:=top 20
abbrev mh:Stmt:=top 32
abbrev xV:Stmt:=top 33
abbrev qJ:Stmt:=top 28
abbrev xB:Stmt:=top 34
abbrev qH:Stmt:=top 35
abbrev lX:Stmt:=top 36
abbrev xp:Stmt:=top 29
abbrev qh:Stmt:=top 37
abbrev qj:Stmt:=top 38
abbrev uQ:Stmt:=top 39
abbrev qK:Stmt:=top 40
abbrev me:Stmt:=top 17
abbrev xM:Stmt:=top 42
abbrev qg:Stmt:=top 41
abbrev jZ:Stmt:=top 44
abbrev rj:Stmt:=top 43
abbrev qM:Stmt:=top 45
abbrev u0:Stmt:=top 46
abbrev ow:Stmt:=top 48
abbrev m9:Stmt:=top 30
abbrev rh:Stmt:=top 54
abbrev qz:Stmt:=top 53
abbrev j0:Stmt:=top 67
abbrev eU:Stmt:=top 70
abbrev gd:Stmt:=top 68
abbrev fJ:Stmt:=top 69
abbrev kn:Stmt:=top 71
abbrev oW:Stmt:=top 72
end W28
namespace W28
open PySem PySem.Spec L2 DL PyProof.Rows
abbrev zP:List Str:= ["_law_hand_here","_law_many"]
abbrev Iv:List Str:= ["_law_hand_here","_law_most","_law_hands"]
abbrev IM:List Str:= ["_law_hand_here","_law_most"]
abbrev Cm:List Str:= ["_law_hand_here","_law_name","_law_later"]
abbrev CF:List Str:= ["_law_hand_here","_law_room_here","_law_later","_law_many"]
abbrev De:List Str:= ["_law_hand_here","_law_rooms_here","_law_words","_law_passes","_law_many"]
abbrev zI:List Str:= ["_law_hand_here","_law_some"]
abbrev DC:List Str:= ["_law_hand_here","_law_words","_law_bells","_law_at"]
abbrev w4:List Str:= ["_law_hand_here","_law_words","_law_bells","_law_deep"]
abbrev CT:List Str:= ["_law_hand_here","_law_world_here","_law_most"]
abbrev CW:List Str:= ["_law_old","_law_new","_law_own"]
abbrev CU:List Str:= ["_law_old","_law_new"]
abbrev Jh:List Str:= ["_law_one","_law_hand_here"]
abbrev CD:List Str:= ["_law_one"]
abbrev Cw:List Str:= ["_law_script","_law_k"]
abbrev FP:List Str:= ["_law_script"]
abbrev Cr:List Str:= ["_law_sort","_law_old","_law_new","_law_own"]
abbrev C7:List Str:= ["_law_world_here","_law_old","_law_new","_law_own"]
abbrev zy:List Str:= ["form","first","second"]
abbrev zZ:List Str:= ["line"]
abbrev Aa:List Str:= ["parts","at","part"]
abbrev An:List Str:= ["roll","name"]
abbrev zg:List Str:= ["roll"]
abbrev zv:List Str:= ["room"]
abbrev zJ:List Str:= ["scene","at","room"]
abbrev Ag:List Str:= ["scene","at","turnstile"]
abbrev Cs:List Str:= ["scene","hand","frame"]
abbrev Dg:List Str:= ["scene","hand","row"]
abbrev zX:List Str:= ["scene","hand","values","frames"]
abbrev Ac:List Str:= ["scene","hand"]
abbrev CL:List Str:= ["scene","room","bell","line"]
abbrev CP:List Str:= ["scene","room","hand"]
abbrev CH:List Str:= ["scene","room"]
abbrev C_:List Str:= ["scene"]
abbrev zx:List Str:= ["things"]
abbrev wj:List Str:= ["tree","things","waiting"]
abbrev Dd:List Str:= ["world","hand","frame"]
abbrev Dh:List Str:= ["world","scene","hand","name"]
abbrev bR:List Str:= ["world","scene","hand","row"]
abbrev C0:List Str:= ["world","scene","hand","tree"]
abbrev C2:List Str:= ["world","scene","hand","word","value"]
abbrev Dz:List Str:= ["world","scene","hand","word"]
abbrev eF:List Str:= ["world","scene","hand"]
abbrev yl:List Str:= ["world","scene","name"]
abbrev xn:List Str:= ["world","scene"]
abbrev yE:List Str:= ["world"]
section
variable(P:Program)(w:World)(K:PySem.W.Frag)(mg:Str->Option Value)(base:Heap)
abbrev zR:Prop:=fD P w K mg base 1 "_law_hand" Cw kE
abbrev cK:Prop:=fD P w K mg base 1 "_law_take" zP aE
abbrev kg:Prop:=fD P w K mg base 2 "_law_names" zP cA
abbrev gS:Prop:=fD P w K mg base 2 "_law_pick" zI bx
abbrev nj:Prop:=fD P w K mg base 7 "_law_sum" w4 (bu 4)
abbrev AO:Prop:=fD P w K mg base 8 "_law_wait" DC kD
abbrev zh:Prop:=fD P w K mg base 9 "_law_deed" CF kf
abbrev Ah:Prop:=fD P w K mg base 10 "_law_room" Cm kq
abbrev xI:Prop:=fD P w K mg base 11 "_law_rooms" IM i0
abbrev tX:Prop:=fD P w K mg base 8 "_law_program" De gD
abbrev xm:Prop:=fD P w K mg base 12 "_law_world" Iv jc
abbrev r_:Prop:=fD P w K mg base 1 "values_of" zx gh
abbrev xO:Prop:=fD P w K mg base 2 "begun_room" zv jj
abbrev H_:Prop:=fD P w K mg base 3 "begun" yE u5
abbrev Ce:Prop:=fD P w K mg base 1 "hands_at" zZ my
abbrev sL:Prop:=fD P w K mg base 2 "hands_in_rows" C_ eE
abbrev dX:Prop:=fD P w K mg base 1 "last_frame" Ac cV
abbrev kJ:Prop:=fD P w K mg base 1 "program_of" Dd fB
abbrev sC:Prop:=fD P w K mg base 2 "is_behind_all" eF fH
abbrev tH:Prop:=fD P w K mg base 3 "may_step" xn iq
abbrev m6:Prop:=fD P w K mg base 1 "names_of" zg ee
abbrev iT:Prop:=fD P w K mg base 2 "place_of" An dg
abbrev gQ:Prop:=fD P w K mg base 1 "with_part" Aa dA
abbrev jh:Prop:=fD P w K mg base 2 "with_hand" zX fg
abbrev gK:Prop:=fD P w K mg base 2 "with_room" zJ c8
abbrev rD:Prop:=fD P w K mg base 3 "put_thing" C2 ff
abbrev u9:Prop:=fD P w K mg base 1 "value_of_two" zy gE
abbrev BM:Prop:=fD P w K mg base 8 "value_of" wj (gu 6)
abbrev fZ:Prop:=fD P w K mg base 9 "reckoned" C0 dP
abbrev jb:Prop:=fD P w K mg base 3 "with_last_frame" Cs dN
abbrev tV:Prop:=fD P w K mg base 4 "at_row" Dg kI
abbrev wR:Prop:=fD P w K mg base 3 "come_in" CP k0
abbrev qo:Prop:=fD P w K mg base 3 "bell_of" Dz jv
abbrev lQ:Prop:=fD P w K mg base 3 "with_line" CL fu
abbrev Cu:Prop:=fD P w K mg base 3 "leave" CH qy
abbrev rY:Prop:=fD P w K mg base 2 "with_pass" Ag ft
abbrev CV:Prop:=fD P w K mg base 3 "taken" Dh t4
abbrev pF:Prop:=fD P w K mg base 3 "given_back" yl gM
abbrev Ba:Prop:=fD P w K mg base 11 "row_done" bR jH
abbrev Bp:Prop:=fD P w K mg base 4 "end_deed" eF jN
abbrev DS:Prop:=fD P w K mg base 12 "step_of" eF o_
abbrev Ea:Prop:=fD P w K mg base 13 "stepped" eF oN
abbrev yP:Prop:=fD P w K mg base 14 "_law_weave" CT i8
abbrev mL:Prop:=fD P w K mg base 1 "_law_within_right" CW dW
abbrev qt:Prop:=fD P w K mg base 1 "_law_row_right" CU dh
abbrev oS:Prop:=fD P w K mg base 1 "_law_bell_right" Cr eO
abbrev xQ:Prop:=fD P w K mg base 2 "_law_right" C7 i6
end
def NW{X:Cx}{a:Expr}{pos:Pos}{f:dF}{p:Pos}(c:Gl X "len")(b:X.mg "len"=none)(e:PE X a (tQ (md X) f))(d:starEach [a] X.env= [(false,eval a X.env)]):PE X (.Call (.Name "len" p) [a] [] pos) (tD (md X) (hV f)):=oO c b e d
def dH{X:Cx}{pos:Pos}{N:List Str}{js:List (Option Nat)}{a:Scope}{c:List (Str×Addr)}{h b e:Expr}{d:List Expr}{i:vw}{g:mI}{t:kA}{f:bE}(S:aS X N js a c)(k:X.calm=true)(hi:PI X h b (tI (md X) i))(j:∀C s H fp,PG (aP X N a c C s H fp) h (tG (md (aP X N a c C s H fp)) g))(ht:∀C s H fp,nB (aP X N a c C s H fp) d (tB (md (aP X N a c C s H fp)) t))(he:∀C s H fp,PE (aP X N a c C s H fp) e (tD (md (aP X N a c C s H fp)) f))(l:∀x,foldedSetIterable b X.env x=pure x:=by intro _;rfl):PE X (.ListComp e [⟨h,b,d,0⟩] a pos) (tL (md X) (cp js i g t f)):=xC S k hi j ht he l
def sW{X:Cx}{pos:Pos}{N:List Str}{js:List (Option Nat)}{a:Scope}{j:List (Str×Addr)}{k b h c:Expr}{e:List Expr}{i:vw}{g:mI}{t:kA}{f:bE}{n:Nat}{d:Pos}(S:aS X N js a j)(q:X.calm=true)(hi:PI X k b (tI (md X) i))(p:∀C s H fp,PG (aP X N a j C s H fp) k (tG (md (aP X N a j C s H fp)) g))(ht:∀C s H fp,nB (aP X N a j C s H fp) e (tB (md (aP X N a j C s H fp)) t))(he:∀C s H fp,PE (aP X N a j C s H fp) h (tD (md (aP X N a j C s H fp)) f))(m:PG X c (pV n))(r:∀x,foldedSetIterable b X.env x=pure x:=by intro _;rfl)(l:swapsWithSole [c] (.ListComp h [⟨k,b,e,0⟩] a pos) d.line X.env=pure true:=by rfl)(o:(assignEach [c] X.env).map (·.2)= [assign c X.env]:=by rfl):PS X (.Assign [c] (.ListComp h [⟨k,b,e,0⟩] a pos) d) (tS (md X) (bg n (bT (cp js i g t f)))):=Br S q hi p ht he m r l o
def FA{X:Cx}{pos:Pos}{N:List Str}{js:List (Option Nat)}{a:Scope}{d:List (Str×Addr)}{h b l k c:Expr}{f:List Expr}{i:vw}{g:mI}{t:kA}{o p:bE}{n:Nat}{e:Pos}(S:aS X N js a d)(u:X.calm=true)(hi:PI X h b (tI (md X) i))(r:∀C s H fp,PG (aP X N a d C s H fp) h (tG (md (aP X N a d C s H fp)) g))(ht:∀C s H fp,nB (aP X N a d C s H fp) f (tB (md (aP X N a d C s H fp)) t))(w:∀C s H fp,PE (aP X N a d C s H fp) l (tD (md (aP X N a d C s H fp)) o))(y:∀C s H fp,PE (aP X N a d C s H fp) k (tD (md (aP X N a d C s H fp)) p))(m:PG X c (pV n))(v:∀x,foldedSetIterable b X.env x=pure x:=by intro _;rfl)(j:swapsWithSole [c] (.DictComp l k [⟨h,b,f,0⟩] a pos) e.line X.env=pure true:=by rfl)(q:(assignEach [c] X.env).map (·.2)= [assign c X.env]:=by rfl):PS X (.Assign [c] (.DictComp l k [⟨h,b,f,0⟩] a pos) e) (tS (md X) (LS n (qV js i g t o p))):=HG S u hi r ht w y m v j q
local macro_rules|`(tactic|ac_rfl)=>do
 let g (l:List (String×Nat)):Lean.MacroM (Array (Lean.TSyntax `Lean.Parser.Tactic.tacticSeq)):=l.toArray.mapM λ(s,k)=>do
  let ws:=((s.splitOn " ").map λn=>Lean.mkIdent n.toName).toArray
  let h←`(?_)
  let e:=Lean.Syntax.mkApp ⟨ws[0]!.raw⟩ ((ws.toList.tail!.map λw=>⟨w.raw⟩).toArray++Array.replicate k h)
  `(tacticSeq|refine $e)
 let a←g [("Bj",5),("v_",5),("aB",3),("aQ",0),("aZ",0),("cB",3),("bK",2),("fU",1),("gC",3),("gN",1),("uG",5),("kL",1),("fS",0),("kS",3),("mY",2),("iK",0),("hG",1),("ES",1),("fT",1),("Cj",4),("yR",0),("CK",1),("i3 AW AU",3),("Oh",5),("Mo",0),("sR",3),("y8",0),("yj",1),("iD",2),("Cz",5),("NW",4),("eV",6),("vq",6),("Jg",2),("IU",2),("i3 GA FD",3),("tw",2),("Ma AW AU",3),("OK",2),("IW",1),("JF",1),("L_",0),("Mv",5),("i3 OB Ox",3),("OP",3),("i3 Lm Ml",3),("DA",2),("yb",4),("Nh",2),("Jq",1),("Co",1),("K6",10),("OF",3),("Gb",6),("OA",2),("K_",6),("M_",3),("Ng",4),("Bh",0),("Ma OJ Oo",3),("Og",2),("w_or",2),("OI",3),("ON",2),("Na",2),("Lb",4),("Nl",4),("M6",6),("NU",3),("OM",7),("MS",6),("Nr",0),("NM",5),("Jn",6),("i3 Jo Jf",3),("i3 NO N9",3),("M5",0),("Nu",4),("cG",1),("C3",1),("Lq",1),("nU",1),("Ck",2),("CM",1)]
 let b←g [("dQ",1),("PassesOwn.never",0),("rO",0),("M3",0),("Bl.dict",1),("Bl.enum",1),("Bl.int",1),("Bl.isi",1),("Bl.len",1),("Bl.max",1),("Bl.min",1),("Bl.range",1),("Bl.sorted",1),("Bl.str",1),("Bl.tuple",1),("Bl.zip",1),("bK",2),("cG",1)]
 let c←([("Lv wA K7 Bl.int",0),("Np jQ Lh Bl.min",1),("Nq jQ La Bl.max",1),("int",2),("str",2)]:List (String×Nat)).toArray.mapM λ(s,k)=>do
  let ws:=((s.splitOn " ").map λn=>Lean.mkIdent n.toName).toArray
  if k=2 then
   `(tacticSeq|refine GY (v:=.ty $(Lean.quote s)) rfl ($(Lean.mkIdent (.str (.str .anonymous "Bl") s)) (by assumption)) $(Lean.mkIdent (.str `PyProof.Rows ("boot_" ++s))) rfl)
  else
   let e←if k=1 then `($(ws[2]!) rfl) else pure ⟨ws[2]!.raw⟩
   `(tacticSeq|((with_reducible refine Nk $(ws[0]!) ?_);refine $(ws[1]!) $e rfl ($(ws[3]!) (by assumption)) (by rfl) ?_))
 `(tactic|repeat (first
 |exact rfl
 |exact Or.inl rfl
 |(with_reducible first $[| $a]*)
 |(with_reducible first|refine PW.pt (w_and ?_ ?_)|refine PW.pt (w_or ?_ ?_))
 |refine fM (by assumption) (by assumption) ?_
 |refine nK _ (by assumption) ?_
 |refine KH (by assumption) (by assumption) ?_
 |refine kG (zd (v:=.int (-1)) rfl (by assumption) ⟨_,rfl⟩) λ_ _=>.int (-1)
 |refine kG (zd (v:=.int (9)) rfl (by assumption) ⟨_,rfl⟩) λ_ _=>.int (9)
 |assumption
 |exact Or.inr rfl
 |exact Or.inr (Or.inl rfl)
 |exact Or.inr (Or.inr rfl)
 |decide
 |omega
 |(intro _ _;rfl)
 |(intro _;rfl)
 |(intro _ _ _;rfl)
 |exact⟨rfl,rfl,rfl,rfl,rfl,rfl,rfl⟩
 |exact λ_ _=>.int _
 |(first $[| $c]*)
 |(first $[| $b]*)))
section
variable{P:Program}{w:World}{K:PySem.W.Frag}{mg:Str->Option Value}{base:Heap}{f:Addr}{fd:FuncData}
def oT:aJ ["_law_script","_law_k","_law_cell"] Cw (aD lG):=fG
def yk(F:eK K "_law_hand" "_law_hand" lG f fd)(B:Bl mg):bF P w K mg base d_ 1 f fd Cw (eI ⟨K,mg⟩ 2 kE):=by
 have c:=oT.nd
 refine bA F oT λb A a s H E d=> ?_
 delta m7
 ac_rfl
def oP:aJ ["_law_hand_here","_law_many","_law_digit","_law_mixed"] zP (aD kX):=fG
def xx(F:eK K "_law_take" "_law_take" kX f fd)(B:Bl mg):bF P w K mg base d_ 1 f fd zP (eI ⟨K,mg⟩ 2 aE):=by
 have c:=oP.nd
 refine bA F oP λb A a s H E d=> ?_
 delta nH
 ac_rfl
def mX:aJ ["_law_hand_here","_law_many","_law_letters","_law_first","_law_step","_law_found","_law_k"] zP (aD jY):=fG
def vA(F:eK K "_law_names" "_law_names" jY f fd)(B:Bl mg)(c:cK P w K mg base):bF P w K mg base d_ 2 f fd zP (eI ⟨K,mg⟩ 2 cA):=by
 have a:=mX.nd
 refine bA F mX λe A b s H E d=> ?_
 exact(bK (nK 2 a fS)
  (bK (Fh (B6 (i:=3) (j:=4) rfl a rfl rfl (by decide) rfl rfl (aB (fM c d (aB (v_ 0) (aB aQ aZ))) (aB (cB (hG (fT (aB aQ (aB aQ (aB aQ (aB aQ (aB aQ (aB aQ aZ)))))))) (fM c d (aB (v_ 0) (aB aQ aZ)))) aZ)) rfl))
  (bK (nK 5 a (hG (fT aZ)))
  (bK (vq PassesOwn.never rfl (yb rfl B.range (v_ 1)) (uG 6 a) (cG (iD (eV (v_ 5) (mY (cB (v_ 2) (IU (mY (v_ 3) (Jg (v_ 4) (v_ 6))) aQ)) (cB (hG (fT (aB fS (aB fS (aB fS (aB fS aZ)))))) (IU (mY (v_ 3) (Jg (v_ 6) (v_ 6))) aQ)))))))
  (cG (JF (F8 rfl B.sorted (kL (v_ 5)))))))))
def xl:aJ zI zI (aD kU):=fG
def y4(F:eK K "_law_pick" "_law_pick" kU f fd)(B:Bl mg)(c:cK P w K mg base):bF P w K mg base d_ 2 f fd zI (eI ⟨K,mg⟩ 2 bx):=by
 refine bA F xl λb A a s H E d=> ?_
 delta jX
 ac_rfl
def se:aJ ["_law_hand_here","_law_words","_law_bells","_law_deep","_law_way","_law_word"] w4 (aD nu):=fG
theorem si(F:eK K "_law_sum" "_law_sum" nu f fd)(B:Bl mg)(d:cK P w K mg base)(h:gS P w K mg base)(b:Binds K fd w4 [])(c:PySem.W.keepIn K (.ref f)=true)(m:mg "_law_sum"=some (.ref f)):∀n,bF P w K mg base d_ (3+n) f fd w4 (eI ⟨K,mg⟩ 4 (bu n))
 |0=>Cv
 | n+1=>by
   have l:fD P w K mg base (3+n) "_law_sum" w4 (bu n):=⟨f,fd,si F B d h b c m n,b,c,m⟩
   have i:=se.nd
   refine bA (k:=3+n) F se λe A a s H E g=> ?_
   have j:=g.units0
   delta rq
   ac_rfl
def pD:aJ ["_law_hand_here","_law_words","_law_bells","_law_at","_law_bell","_law_turn","_law_way","_law_test","_law_rows"] DC (aD lL):=fG
def xE(F:eK K "_law_wait" "_law_wait" lL f fd)(B:Bl mg)(h:gS P w K mg base)(g:nj P w K mg base)(d:cK P w K mg base):bF P w K mg base d_ 8 f fd DC (eI ⟨K,mg⟩ 4 kD):=by
 have c:=pD.nd
 refine bA F pD λb A a s H E e=> ?_
 delta m4
 ac_rfl
def pQ:aJ ["_law_hand_here","_law_room_here","_law_later","_law_many","_law_manner","_law_things","_law_bells","_law_words","_law_rows","_law_k","_law_way","_law_word","_law_name","_law_deeds","_law_goal"] CF (aD k8):=fG
def yH(F:eK K "_law_deed" "_law_deed" k8 f fd)(B:Bl mg)(e:cK P w K mg base)(g:AO P w K mg base)(j:gS P w K mg base)(i:nj P w K mg base):bF P w K mg base d_ 9 f fd CF (eI ⟨K,mg⟩ 4 kf):=by
 have d:=pQ.nd
 refine bA F pQ λc A a s H E b=> ?_
 have h:=b.units0
 delta nq
 ac_rfl
def oH:aJ ["_law_hand_here","_law_name","_law_later","_law_manner","_law_things","_law_bells","_law_deeds","_law_word","_law_own"] Cm (aD lO):=fG
def ym(F:eK K "_law_room" "_law_room" lO f fd)(B:Bl mg)(e:cK P w K mg base)(g:kg P w K mg base)(h:zh P w K mg base):bF P w K mg base d_ 10 f fd Cm (eI ⟨K,mg⟩ 3 kq):=by
 have d:=oH.nd
 refine bA F oH λc A a s H E b=> ?_
 have i:=b.units0
 delta nP
 ac_rfl
 refine dH (N:=CD) (js:= [none]) (aS.gen rfl rfl rfl rfl rfl rfl) rfl ?_ (λ_ _ _ _=> ?_) (λ_ _ _ _=> ?_) (λ_ _ _ _=> ?_)
 ac_rfl
 refine dH (N:= ["_law_thing","_law_hand_here"]) (js:= [none,some 0]) (aS.gen rfl rfl rfl rfl rfl rfl) rfl ?_ (λ_ _ _ _=> ?_) (λ_ _ _ _=> ?_) (λ_ _ _ _=> ?_)
 ac_rfl
 refine dH (N:= ["_law_bell","_law_hand_here"]) (js:= [none,some 0]) (aS.gen rfl rfl rfl rfl rfl rfl) rfl ?_ (λ_ _ _ _=> ?_) (λ_ _ _ _=> ?_) (λ_ _ _ _=> ?_)
 ac_rfl
end
section
variable{P:Program}{w:World}{K:PySem.W.Frag}{mg:Str->Option Value}{base:Heap}{f:Addr}{fd:FuncData}
def mN:aJ ["_law_hand_here","_law_most","_law_rooms_here","_law_name","_law_later"] IM (aD ko):=fG
def vV(F:eK K "_law_rooms" "_law_rooms" ko f fd)(B:Bl mg)(h:kg P w K mg base)(d:cK P w K mg base)(g:Ah P w K mg base):bF P w K mg base d_ 11 f fd IM (eI ⟨K,mg⟩ 2 i0):=by
 have c:=mN.nd
 refine bA F mN λb A a s H E e=> ?_
 delta lF
 ac_rfl
 refine sW (n:=4) (N:= ["_law_room_here"]) (js:= [none]) (aS.gen rfl rfl rfl rfl rfl rfl) rfl ?_ (λ_ _ _ _=> ?_) (λ_ _ _ _=> ?_) (λ_ _ _ _=> ?_) ?_
 ac_rfl
 refine dH (N:= ["_law_deed_here"]) (js:= [none]) (aS.gen rfl rfl rfl rfl rfl rfl) rfl ?_ (λ_ _ _ _=> ?_) (λ_ _ _ _=> ?_) (λ_ _ _ _=> ?_)
 ac_rfl
def kK:aJ ["_law_hand_here","_law_rooms_here","_law_words","_law_passes","_law_many","_law_rows","_law_k","_law_way","_law_room_here","_law_goal","_law_deed_here","_law_word","_law_at"] De (aD iP):=fG
def sG(F:eK K "_law_program" "_law_program" iP f fd)(B:Bl mg)(d:cK P w K mg base)(c:gS P w K mg base)(e:nj P w K mg base):bF P w K mg base d_ 8 f fd De (eI ⟨K,mg⟩ 5 gD):=by
 have b:=kK.nd
 refine bA F kK λk A g s H E a=> ?_
 have h:=a.units0
 exact(bK (nK 5 b (hG (fT aZ)))
  (bK (vq PassesOwn.never rfl (yb rfl B.range (mY aQ (fM d a (aB (v_ 0) (aB (v_ 4) aZ))))) (uG 6 b) (bK (nK 7 b (fM d a (aB (v_ 0) (aB aQ aZ))))
  (cG (kS (PW.pt (w_and (i3 GA FD (v_ 7) aQ (dQ _)) (nU (Kf a (v_ 1) (gN aZ))))) (bK (nK 8 b (fM c a (aB (v_ 0) (aB (v_ 1) aZ))))
  (bK (nK 9 b (hG (DA (ES (fT (aB L_ aZ))) (kL (v_ 2)))))
  (bK (nK 10 b (cB (fM c a (aB (v_ 0) (aB (cB (v_ 8) aQ) aZ))) aQ))
  (cG (iD (eV (v_ 5) (gN (aB fS (aB (fM c a (aB (v_ 0) (aB (v_ 9) aZ))) (aB (cB (v_ 8) aQ) (aB (v_ 10) (aB (fM e a (aB (v_ 0) (aB (v_ 2) (aB (hG (fT aZ)) (aB aQ aZ))))) aZ)))))))))))) (cG (kS (PW.pt (w_and (i3 GA FD (v_ 7) aQ (dQ _)) (nU (tw h (kL (v_ 3)))))) (cG (iD (eV (v_ 5) (gN (aB (cB (hG (fT (aB fS (aB fS aZ)))) (fM d a (aB (v_ 0) (aB aQ aZ)))) (aB (fM c a (aB (v_ 0) (aB (v_ 3) aZ))) aZ)))))) (cG (kS (PW.pt (w_and (i3 AW AU (v_ 7) aQ (dQ _)) (nU (tw h (kL (v_ 2)))))) (cG (iD (eV (v_ 5) (gN (aB fS (aB (fM c a (aB (v_ 0) (aB (v_ 2) aZ))) (aB (fM e a (aB (v_ 0) (aB (v_ 2) (aB (hG (fT aZ)) (aB aQ aZ))))) aZ))))))) (bK (kS (i3 AW AU (v_ 7) aQ (dQ _)) (cG (iD (eV (v_ 5) (gN (aB fS (aB (fM e a (aB (v_ 0) (aB (v_ 2) (aB (hG (fT aZ)) (aB aQ aZ))))) (aB (mY (oO rfl B.len (kL (v_ 5))) aQ) aZ))))))) iK)
  (bK (kS (i3 AW AU (v_ 7) aQ (dQ _)) (cG (iD (eV (v_ 5) (gN (aB fS (aB (mY (oO rfl B.len (kL (v_ 5))) aQ) aZ)))))) iK)
  (cG (iD (eV (v_ 5) (gN (aB fS (aB (fM e a (aB (v_ 0) (aB (v_ 2) (aB (hG (fT aZ)) (aB aQ aZ))))) aZ))))))))))))))))
  (bK (kS (PW.pt (w_and (tw h (kL (v_ 2))) (nU (i3 AW AU (fM d a (aB (v_ 0) (aB aQ aZ))) aQ (dQ _))))) (bK (Fh (B6 (i:=11) (j:=12) rfl b rfl rfl (by decide) rfl rfl (aB (fM c a (aB (v_ 0) (aB (v_ 2) aZ))) (aB (oO rfl B.len (kL (v_ 5))) aZ)) rfl))
  (bK (iD (eV (v_ 5) (gN (aB fS (aB (v_ 11) (aB (gN (aB fS (aB (v_ 11) (aB aQ aZ)))) aZ))))))
  (cG (iD (Gb (v_ 5) (ES (fT (aB (gN (aB fS (aB (gN (aB fS (aB (v_ 11) (aB aQ aZ)))) (aB (mY (v_ 12) aQ) aZ)))) (aB (gN (aB fS (aB aQ aZ))) aZ))))))))) iK)
  (cG (fU (Cz rfl B.tuple (Jq (kL (v_ 5))) (ht:=rO)))))))
def mU:aJ ["_law_hand_here","_law_most","_law_hands","_law_rooms_here","_law_passes","_law_opened","_law_made","_law_k","_law_own","_law_program_here"] Iv (aD j_):=fG
def vF(F:eK K "_law_world" "_law_world" j_ f fd)(B:Bl mg)(h:xI P w K mg base)(i:kg P w K mg base)(d:cK P w K mg base)(e:tX P w K mg base):bF P w K mg base d_ 12 f fd Iv (eI ⟨K,mg⟩ 3 jc):=by
 have c:=mU.nd
 refine bA F mU λb A a s H E g=> ?_
 delta lR
 ac_rfl
 refine sW (n:=4) (N:=CD) (js:= [none]) (aS.gen rfl rfl rfl rfl rfl rfl) rfl ?_ (λ_ _ _ _=> ?_) (λ_ _ _ _=> ?_) (λ_ _ _ _=> ?_) ?_
 ac_rfl
 refine sW (n:=5) (N:=CD) (js:= [none]) (aS.gen rfl rfl rfl rfl rfl rfl) rfl ?_ (λ_ _ _ _=> ?_) (λ_ _ _ _=> ?_) (λ_ _ _ _=> ?_) ?_
 ac_rfl
 refine sW (n:=8) (N:=CD) (js:= [none]) (aS.gen rfl rfl rfl rfl rfl rfl) rfl ?_ (λ_ _ _ _=> ?_) (λ_ _ _ _=> ?_) (λ_ _ _ _=> ?_) ?_
 ac_rfl
 refine dH (N:= ["_law_word","_law_hand_here"]) (js:= [none,some 0]) (aS.gen rfl rfl rfl rfl rfl rfl) rfl ?_ (λ_ _ _ _=> ?_) (λ_ _ _ _=> ?_) (λ_ _ _ _=> ?_)
 ac_rfl
 refine dH (N:=Jh) (js:= [none,some 0]) (aS.gen rfl rfl rfl rfl rfl rfl) rfl ?_ (λ_ _ _ _=> ?_) (λ_ _ _ _=> ?_) (λ_ _ _ _=> ?_)
 ac_rfl
 refine dH (N:=Jh) (js:= [none,some 0]) (aS.gen rfl rfl rfl rfl rfl rfl) rfl ?_ (λ_ _ _ _=> ?_) (λ_ _ _ _=> ?_) (λ_ _ _ _=> ?_)
 ac_rfl
def yI:aJ zx zx (aD kY):=fG
def ye(F:eK K "values_of" "values_of" kY f fd)(B:Bl mg):bF P w K mg base d_ 1 f fd zx (eI ⟨K,mg⟩ 1 gh):=by
 refine bA F yI λb A a s H E c=> ?_
 delta nW
 ac_rfl
 refine dH (N:= ["word","value"]) (js:= [none,none]) (aS.gen rfl rfl rfl rfl rfl rfl) rfl ?_ (λ_ _ _ _=> ?_) (λ_ _ _ _=> ?_) (λ_ _ _ _=> ?_)
 ac_rfl
def mS:aJ ["room","name","manner","things","bells","deeds"] zv (aD ke):=fG
def vL(F:eK K "begun_room" "begun_room" ke f fd)(B:Bl mg)(h:r_ P w K mg base){c:Tok}(g:mg "NOBODY"=some (.int (-1) c)):bF P w K mg base d_ 2 f fd zv (eI ⟨K,mg⟩ 1 jj):=by
 have d:=mS.nd
 refine bA F mS λb A a s H E e=> ?_
 delta lK
 ac_rfl
 refine dH (N:= ["bell"]) (js:= [none]) (aS.gen rfl rfl rfl rfl rfl rfl) rfl ?_ (λ_ _ _ _=> ?_) (λ_ _ _ _=> ?_) (λ_ _ _ _=> ?_)
 ac_rfl
def AZ:aJ ["world","rooms","passes","shared","hands","own"] yE (aD yf):=fG
def Fj(F:eK K "begun" "begun" yf f fd)(B:Bl mg)(g:r_ P w K mg base)(i:xO P w K mg base){c:Tok}(h:mg "OWN"=some (.int (-1) c)):bF P w K mg base d_ 3 f fd yE (eI ⟨K,mg⟩ 1 u5):=by
 have d:=AZ.nd
 refine bA F AZ λb A a s H E e=> ?_
 delta Bc
 ac_rfl
 refine dH (N:=zv) (js:= [none]) (aS.gen rfl rfl rfl rfl rfl rfl) rfl ?_ (λ_ _ _ _=> ?_) (λ_ _ _ _=> ?_) (λ_ _ _ _=> ?_)
 ac_rfl
 refine dH (N:= ["name","value"]) (js:= [none,none]) (aS.gen rfl rfl rfl rfl rfl rfl) rfl ?_ (λ_ _ _ _=> ?_) (λ_ _ _ _=> ?_) (λ_ _ _ _=> ?_)
 ac_rfl
 refine dH (N:= ["things","program","own"]) (js:= [none,none,some 5]) (aS.gen rfl rfl rfl rfl rfl rfl) rfl ?_ (λ_ _ _ _=> ?_) (λ_ _ _ _=> ?_) (λ_ _ _ _=> ?_)
 ac_rfl
def zS:aJ zZ zZ (aD nY):=fG
def zT(F:eK K "hands_at" "hands_at" nY f fd)(B:Bl mg):bF P w K mg base d_ 1 f fd zZ (eI ⟨K,mg⟩ 1 my):=by
 refine bA F zS λb A a s H E c=> ?_
 delta qp
 ac_rfl
 refine dH (N:= ["turn","hand"]) (js:= [none,none]) (aS.gen rfl rfl rfl rfl rfl rfl) rfl ?_ (λ_ _ _ _=> ?_) (λ_ _ _ _=> ?_) (λ_ _ _ _=> ?_)
 ac_rfl
end
section
variable{P:Program}{w:World}{K:PySem.W.Frag}{mg:Str->Option Value}{base:Heap}{f:Addr}{fd:FuncData}
def jI:aJ ["scene","hands","value","row","values","within","late","bells","line"] C_ (aD gY):=fG
def qZ(F:eK K "hands_in_rows" "hands_in_rows" gY f fd)(B:Bl mg)(e:Ce P w K mg base):bF P w K mg base d_ 2 f fd C_ (eI ⟨K,mg⟩ 1 eE):=by
 have c:=jI.nd
 refine bA F jI λb A a s H E d=> ?_
 delta iG
 ac_rfl
def vM:aJ Ac Ac (aD jV):=fG
def vP(F:eK K "last_frame" "last_frame" jV f fd)(B:Bl mg):bF P w K mg base d_ 1 f fd Ac (eI ⟨K,mg⟩ 2 cV):=by
 refine bA F vM λb A a s H E c=> ?_
 delta kW
 ac_rfl
def mO:aJ ["world","hand","frame","room","deed"] Dd (aD kc):=fG
def vB(F:eK K "program_of" "program_of" kc f fd)(B:Bl mg){c:Tok}(d:mg "OWN"=some (.int (-1) c)):bF P w K mg base d_ 1 f fd Dd (eI ⟨K,mg⟩ 3 fB):=by
 have b:=mO.nd
 refine bA F mO λe A a s H E g=> ?_
 exact(bK (Fh (B6 (i:=3) (j:=4) rfl b rfl rfl (by decide) rfl rfl (aB (cB (v_ 2) aQ) (aB (cB (v_ 2) aQ) aZ)) rfl))
  (bK (kS (i3 AW AU (v_ 3) (kG (zd (v:=.int (-1)) rfl d ⟨_,rfl⟩) λ_ _=>.int (-1)) (dQ _)) (cG (fU (cB (cB (cB (v_ 0) aQ) (v_ 1)) aQ))) iK)
  (cG (fU (cB (cB (cB (cB (cB (v_ 0) aQ) (v_ 3)) aQ) (v_ 4)) aQ)))))
def jD:aJ ["world","scene","hand","frame"] eF (aD gZ):=fG
def qO(F:eK K "is_behind_all" "is_behind_all" gZ f fd)(B:Bl mg)(e:dX P w K mg base)(g:kJ P w K mg base){b:Tok}(i:mg "OWN"=some (.int (-1) b)):bF P w K mg base d_ 2 f fd eF (eI ⟨K,mg⟩ 3 fH):=by
 have d:=jD.nd
 refine bA F jD λc A a s H E h=> ?_
 delta iQ
 ac_rfl
def rG:aJ ["world","scene","held_up"] xn (aD om):=fG
def zt(F:eK K "may_step" "may_step" om f fd)(B:Bl mg)(d:sL P w K mg base)(e:sC P w K mg base):bF P w K mg base d_ 3 f fd xn (eI ⟨K,mg⟩ 2 iq):=by
 have c:=rG.nd
 refine bA F rG λb A a s H E g=> ?_
 delta qQ
 ac_rfl
 refine dH (N:= ["hand","world","scene","held_up"]) (js:= [none,some 0,some 1,some 2]) (aS.gen rfl rfl rfl rfl rfl rfl) rfl ?_ (λ_ _ _ _=> ?_) (λ_ _ _ _=> ?_) (λ_ _ _ _=> ?_)
 ac_rfl
def A4:aJ zg zg (aD nL):=fG
def A5(F:eK K "names_of" "names_of" nL f fd)(B:Bl mg):bF P w K mg base d_ 1 f fd zg (eI ⟨K,mg⟩ 1 ee):=by
 refine bA F A4 λb A a s H E c=> ?_
 delta qk
 ac_rfl
 refine dH (N:= ["row"]) (js:= [none]) (aS.gen rfl rfl rfl rfl rfl rfl) rfl ?_ (λ_ _ _ _=> ?_) (λ_ _ _ _=> ?_) (λ_ _ _ _=> ?_)
 ac_rfl
def zk:aJ An An (aD oq):=fG
def AA(F:eK K "place_of" "place_of" oq f fd)(B:Bl mg)(d:m6 P w K mg base):bF P w K mg base d_ 2 f fd An (eI ⟨K,mg⟩ 2 dg):=by
 refine bA F zk λb A a s H E c=> ?_
 delta rg
 ac_rfl
def yF:aJ Aa Aa (aD l_):=fG
def yS(F:eK K "with_part" "with_part" l_ f fd)(B:Bl mg):bF P w K mg base d_ 1 f fd Aa (eI ⟨K,mg⟩ 3 dA):=by
 refine bA F yF λb A a s H E c=> ?_
 delta m5
 ac_rfl
def yY:aJ zX zX (aD lE):=fG
def yo(F:eK K "with_hand" "with_hand" lE f fd)(B:Bl mg)(c:gQ P w K mg base):bF P w K mg base d_ 2 f fd zX (eI ⟨K,mg⟩ 4 fg):=by
 refine bA F yY λb A a s H E d=> ?_
 delta nE
 ac_rfl
def xH:aJ zJ zJ (aD k_):=fG
def xT(F:eK K "with_room" "with_room" k_ f fd)(B:Bl mg)(c:gQ P w K mg base):bF P w K mg base d_ 2 f fd zJ (eI ⟨K,mg⟩ 3 c8):=by
 refine bA F xH λb A a s H E d=> ?_
 delta n_
 ac_rfl
def pE:aJ ["world","scene","hand","word","value","room","place","values","shared","frames"] C2 (aD kZ):=fG
def xb(F:eK K "put_thing" "put_thing" kZ f fd)(B:Bl mg)(e:dX P w K mg base)(k:iT P w K mg base)(g:gQ P w K mg base)(i:gK P w K mg base)(j:m6 P w K mg base)(l:jh P w K mg base){b:Tok}(m:mg "OWN"=some (.int (-1) b)):bF P w K mg base d_ 3 f fd C2 (eI ⟨K,mg⟩ 5 ff):=by
 have d:=pE.nd
 refine bA F pE λc A a s H E h=> ?_
 delta j8
 ac_rfl
def sQ:aJ zy zy (aD iO):=fG
def sE(F:eK K "value_of_two" "value_of_two" iO f fd)(B:Bl mg){b:Tok}(e:mg "HIGHEST"=some (.int (9) b)):bF P w K mg base d_ 1 f fd zy (eI ⟨K,mg⟩ 3 gE):=by
 refine bA F sQ λc A a s H E d=> ?_
 delta jn
 ac_rfl
def sk:aJ ["tree","things","waiting","first"] wj (aD nR):=fG
theorem r8(F:eK K "value_of" "value_of" nR f fd)(B:Bl mg)(d:u9 P w K mg base)(b:Binds K fd wj [])(c:PySem.W.keepIn K (.ref f)=true)(m:mg "value_of"=some (.ref f)):∀n,bF P w K mg base d_ (2+n) f fd wj (eI ⟨K,mg⟩ 3 (gu n))
 |0=>Cv
 | n+1=>by
   have j:fD P w K mg base (2+n) "value_of" wj (gu n):=⟨f,fd,r8 F B d b c m n,b,c,m⟩
   have i:=sk.nd
   refine bA (k:=2+n) F sk λe A a s H E g=> ?_
   have h:=IV g
   delta qm
   ac_rfl
def rM:aJ ["world","scene","hand","tree","frame","room","things","waiting"] C0 (aD nQ):=fG
def zQ(F:eK K "reckoned" "reckoned" nQ f fd)(B:Bl mg)(h:dX P w K mg base)(i:m6 P w K mg base)(k:BM P w K mg base){c:Tok}(j:mg "OWN"=some (.int (-1) c)):bF P w K mg base d_ 9 f fd C0 (eI ⟨K,mg⟩ 4 dP):=by
 have g:=rM.nd
 refine bA F rM λe A a s H E b=> ?_
 have d:=IV b
 delta mF
 ac_rfl
 refine FA (n:=7) (N:= ["bell","line"]) (js:= [none,none]) (aS.gen rfl rfl rfl rfl rfl rfl) rfl ?_ (λ_ _ _ _=> ?_) (λ_ _ _ _=> ?_) (λ_ _ _ _=> ?_) (λ_ _ _ _=> ?_) ?_
 ac_rfl
end
section
variable{P:Program}{w:World}{K:PySem.W.Frag}{mg:Str->Option Value}{base:Heap}{f:Addr}{fd:FuncData}
def Em:aJ bR bR (aD vh):=fG
def EN(F:eK K "by_put" "by_put" vh f fd)(B:Bl mg)(d:rD P w K mg base)(e:fZ P w K mg base):bF P w K mg base d_ 10 f fd bR (eI ⟨K,mg⟩ 4 sZ):=by
 refine bA F Em λb A a s H E c=> ?_
 delta xh
 ac_rfl
def iI:aJ ["scene","hand","frame","values","frames"] Cs (aD fN):=fG
def oa(F:eK K "with_last_frame" "with_last_frame" fN f fd)(B:Bl mg)(e:jh P w K mg base):bF P w K mg base d_ 3 f fd Cs (eI ⟨K,mg⟩ 3 dN):=by
 have c:=iI.nd
 refine bA F iI λb A a s H E d=> ?_
 delta f_
 ac_rfl
def w9:aJ ["scene","hand","row","frame"] Dg (aD vf):=fG
def Eg(F:eK K "at_row" "at_row" vf f fd)(B:Bl mg)(d:dX P w K mg base)(g:jb P w K mg base):bF P w K mg base d_ 4 f fd Dg (eI ⟨K,mg⟩ 3 kI):=by
 have c:=w9.nd
 refine bA F w9 λb A a s H E e=> ?_
 delta xt
 ac_rfl
def yQ:aJ bR bR (aD mh):=fG
def xi(F:eK K "by_unless" "by_unless" mh f fd)(B:Bl mg)(e:fZ P w K mg base)(d:tV P w K mg base):bF P w K mg base d_ 10 f fd bR (eI ⟨K,mg⟩ 4 jW):=by
 refine bA F yQ λb A a s H E c=> ?_
 delta nX
 ac_rfl
def EW:aJ bR bR (aD xV):=fG
def E4(F:eK K "by_go" "by_go" xV f fd)(B:Bl mg)(d:tV P w K mg base):bF P w K mg base d_ 5 f fd bR (eI ⟨K,mg⟩ 4 yD):=by
 refine bA F EW λb A a s H E c=> ?_
 delta Bu
 ac_rfl
def uf:aJ ["scene","room","hand","values","within","row","late","bells"] CP (aD qJ):=fG
def B1(F:eK K "come_in" "come_in" qJ f fd)(B:Bl mg)(h:gK P w K mg base){b:Tok}(g:mg "NOBODY"=some (.int (-1) b)):bF P w K mg base d_ 3 f fd CP (eI ⟨K,mg⟩ 3 k0):=by
 have d:=uf.nd
 refine bA F uf λc A a s H E e=> ?_
 delta tY
 ac_rfl
def zO:aJ ["world","scene","hand","row","room","deed","frame","values","frames"] bR (aD xB):=fG
def F9(F:eK K "by_do" "by_do" xB f fd)(B:Bl mg)(e:iT P w K mg base)(i:fZ P w K mg base)(g:wR P w K mg base)(h:jh P w K mg base):bF P w K mg base d_ 10 f fd bR (eI ⟨K,mg⟩ 4 x_):=by
 have c:=zO.nd
 refine bA F zO λb A a s H E d=> ?_
 delta B2
 ac_rfl
def t8:aJ ["world","scene","hand","word","room"] Dz (aD qH):=fG
def BN(F:eK K "bell_of" "bell_of" qH f fd)(B:Bl mg)(d:dX P w K mg base)(g:iT P w K mg base):bF P w K mg base d_ 3 f fd Dz (eI ⟨K,mg⟩ 4 jv):=by
 have c:=t8.nd
 refine bA F t8 λb A a s H E e=> ?_
 delta uY
 ac_rfl
def pB:aJ ["scene","room","bell","line","state"] CL (aD lX):=fG
def xX(F:eK K "with_line" "with_line" lX f fd)(B:Bl mg)(g:gK P w K mg base)(d:gQ P w K mg base):bF P w K mg base d_ 3 f fd CL (eI ⟨K,mg⟩ 4 fu):=by
 have c:=pB.nd
 refine bA F pB λb A a s H E e=> ?_
 delta nc
 ac_rfl
def Ak:aJ ["scene","room","values","within","row","late","bells"] CH (aD xp):=fG
def Gm(F:eK K "leave" "leave" xp f fd)(B:Bl mg)(h:gK P w K mg base){b:Tok}(g:mg "NOBODY"=some (.int (-1) b)):bF P w K mg base d_ 3 f fd CH (eI ⟨K,mg⟩ 2 qy):=by
 have d:=Ak.nd
 refine bA F Ak λc A a s H E e=> ?_
 delta BV
 ac_rfl
def uW:aJ ["world","scene","hand","row","room","bell","turn","line","ahead","waiting"] bR (aD qh):=fG
def BB(F:eK K "by_wait" "by_wait" qh f fd)(B:Bl mg)(d:qo P w K mg base)(i:fZ P w K mg base)(g:lQ P w K mg base)(h:Cu P w K mg base):bF P w K mg base d_ 10 f fd bR (eI ⟨K,mg⟩ 4 oE):=by
 have c:=uW.nd
 refine bA F uW λb A a s H E e=> ?_
 delta ua
 ac_rfl
 refine dH (N:= ["other","waiter","turn"]) (js:= [none,none,some 6]) (aS.gen rfl rfl rfl rfl rfl rfl) rfl ?_ (λ_ _ _ _=> ?_) (λ_ _ _ _=> ?_) (λ_ _ _ _=> ?_)
 ac_rfl
def tT:aJ ["world","scene","hand","row","room","bell","line","called","values","within","queue","late","bells"] bR (aD qj):=fG
def BX(F:eK K "by_call" "by_call" qj f fd)(B:Bl mg)(d:qo P w K mg base)(h:lQ P w K mg base)(g:gK P w K mg base):bF P w K mg base d_ 4 f fd bR (eI ⟨K,mg⟩ 4 p7):=by
 have c:=tT.nd
 refine bA F tT λb A a s H E e=> ?_
 delta uF
 ac_rfl
def wc:aJ ["world","scene","hand","row","room","bell"] bR (aD uQ):=fG
def Eu(F:eK K "by_all" "by_all" uQ f fd)(B:Bl mg)(d:qo P w K mg base)(g:lQ P w K mg base):bF P w K mg base d_ 4 f fd bR (eI ⟨K,mg⟩ 4 tE):=by
 have c:=wc.nd
 refine bA F wc λb A a s H E e=> ?_
 delta yJ
 ac_rfl
end
section
variable{P:Program}{w:World}{K:PySem.W.Frag}{mg:Str->Option Value}{base:Heap}{f:Addr}{fd:FuncData}
def vn:aJ ["world","scene","hand","row","told"] bR (aD qK):=fG
def Bk(F:eK K "by_tell" "by_tell" qK f fd)(B:Bl mg)(h:fZ P w K mg base)(g:jb P w K mg base)(d:dX P w K mg base):bF P w K mg base d_ 10 f fd bR (eI ⟨K,mg⟩ 4 pP):=by
 have c:=vn.nd
 refine bA F vn λb A a s H E e=> ?_
 delta uS
 ac_rfl
def xg:aJ Ag Ag (aD me):=fG
def xN(F:eK K "with_pass" "with_pass" me f fd)(B:Bl mg)(c:gQ P w K mg base):bF P w K mg base d_ 2 f fd Ag (eI ⟨K,mg⟩ 3 ft):=by
 refine bA F xg λb A a s H E d=> ?_
 delta ni
 ac_rfl
def AD:aJ ["world","scene","hand","name","place","value","row"] Dh (aD xM):=fG
def F7(F:eK K "taken" "taken" xM f fd)(B:Bl mg)(e:iT P w K mg base)(g:rY P w K mg base):bF P w K mg base d_ 3 f fd Dh (eI ⟨K,mg⟩ 4 t4):=by
 have c:=AD.nd
 refine bA F AD λb A a s H E d=> ?_
 delta BJ
 ac_rfl
def Cg:aJ bR bR (aD qg):=fG
def B7(F:eK K "by_take" "by_take" qg f fd)(B:Bl mg)(d:CV P w K mg base):bF P w K mg base d_ 4 f fd bR (eI ⟨K,mg⟩ 4 oD):=by
 refine bA F Cg λb A a s H E c=> ?_
 delta uo
 ac_rfl
def mP:aJ ["world","scene","name","place","value","row"] yl (aD jZ):=fG
def vJ(F:eK K "given_back" "given_back" jZ f fd)(B:Bl mg)(h:iT P w K mg base)(i:rY P w K mg base){c:Tok}(g:mg "HIGHEST"=some (.int (9) c)):bF P w K mg base d_ 3 f fd yl (eI ⟨K,mg⟩ 3 gM):=by
 have d:=mP.nd
 refine bA F mP λb A a s H E e=> ?_
 delta lH
 ac_rfl
def B9:aJ bR bR (aD rj):=fG
def B4(F:eK K "by_give" "by_give" rj f fd)(B:Bl mg)(d:pF P w K mg base):bF P w K mg base d_ 4 f fd bR (eI ⟨K,mg⟩ 4 oX):=by
 refine bA F B9 λb A a s H E c=> ?_
 delta u4
 ac_rfl
def Bx:aJ bR bR (aD qM):=fG
def BL(F:eK K "by_pass" "by_pass" qM f fd)(B:Bl mg)(d:CV P w K mg base)(e:pF P w K mg base):bF P w K mg base d_ 4 f fd bR (eI ⟨K,mg⟩ 4 pO):=by
 refine bA F Bx λb A a s H E c=> ?_
 delta uv
 ac_rfl
def ER:aJ bR bR (aD u0):=fG
def EL(F:eK K "by_say" "by_say" u0 f fd)(B:Bl mg):bF P w K mg base d_ 1 f fd bR (eI ⟨K,mg⟩ 4 sU):=by
 refine bA F ER λb A a s H E c=> ?_
 delta yW
 ac_rfl
def rS:aJ ["world","scene","hand","row","deed"] bR (aD ow):=fG
def AR(F:eK K "row_done" "row_done" ow f fd)(B:Bl mg)(e:∀x F,uC.lookup x=some F->fD P w K mg base 10 x bR F)(d:Dc P w K mg "DONE_BY" mw):bF P w K mg base d_ 11 f fd bR (eI ⟨K,mg⟩ 4 jH):=by
 have b:=rS.nd
 refine bA F rS λg A a s H E c=> ?_
 exact(bK (nK 4 b (HM d rfl (cB (v_ 3) aQ) (λ_ _=>rfl)))
  (cG (fU (HY e (c.mono (by decide)) rfl (by first|exact Or.inl rfl|exact Or.inr (Or.inl rfl)) (aB (v_ 0) (aB (v_ 1) (aB (v_ 2) (aB (v_ 3) aZ)))) (mj (mj (mj (mj B3))))))))
def rA:aJ ["world","scene","hand","values","frames","room","deed","row","given","told","outside","came_by"] eF (aD m9):=fG
def Ay(F:eK K "end_deed" "end_deed" m9 f fd)(B:Bl mg)(h:jh P w K mg base)(i:Cu P w K mg base)(d:kJ P w K mg base)(g:rD P w K mg base):bF P w K mg base d_ 4 f fd eF (eI ⟨K,mg⟩ 3 jN):=by
 have c:=rA.nd
 refine bA F rA λb A a s H E e=> ?_
 delta qN
 ac_rfl
def uV:aJ ["world","scene","hand","frame","room","program","row","event"] eF (aD rh):=fG
def BS(F:eK K "step_of" "step_of" rh f fd)(B:Bl mg)(k:dX P w K mg base)(n:wR P w K mg base)(h:kJ P w K mg base)(m:Bp P w K mg base)(l:fZ P w K mg base)(g:Ba P w K mg base)(i:tV P w K mg base){c:Tok}(j:mg "OWN"=some (.int (-1) c)):bF P w K mg base d_ 12 f fd eF (eI ⟨K,mg⟩ 3 o_):=by
 have d:=uV.nd
 refine bA F uV λb A a s H E e=> ?_
 delta lY
 ac_rfl
def Bi:aJ eF eF (aD qz):=fG
def B8(F:eK K "stepped" "stepped" qz f fd)(B:Bl mg)(e:tH P w K mg base)(c:DS P w K mg base):bF P w K mg base d_ 13 f fd eF (eI ⟨K,mg⟩ 3 oN):=by
 refine bA F Bi λb A a s H E d=> ?_
 delta vt
 ac_rfl
def mT:aJ ["_law_hand_here","_law_world_here","_law_most","_law_scene","_law_weaving","_law_scenes","_law_stretch","_law_some","_law_own","_law_turn"] CT (aD j0):=fG
def vQ(F:eK K "_law_weave" "_law_weave" j0 f fd)(B:Bl mg)(g:H_ P w K mg base)(c:cK P w K mg base)(e:tH P w K mg base)(k:gS P w K mg base)(h:Ea P w K mg base):bF P w K mg base d_ 14 f fd CT (eI ⟨K,mg⟩ 3 i8):=by
 have b:=mT.nd
 refine KW F mT λm A d s H E a=> ?_
 have n:=a.units0
 exact(bK (JM (IE (i:=3) (j:=4) (l:=5) rfl b rfl rfl rfl (by decide) (by decide) (by decide) rfl rfl rfl (aB (fM g a (aB (v_ 1) aZ)) (aB (hG (fT aZ)) (aB (hG (fT (aB (fM g a (aB (v_ 1) aZ)) aZ))) aZ))) rfl))
  (bK (vq PassesOwn.never rfl (yb rfl B.range (mY aQ (fM c a (aB (v_ 0) (aB aQ aZ))))) (uG 6 b) (bK (nK 7 b (hG (KH e a (aB (v_ 1) (aB (v_ 3) aZ)))))
  (cG (kS (tw n (kL (v_ 7))) (bK (nK 8 b (fM k a (aB (v_ 0) (aB (v_ 7) aZ))))
  (cG (vq PassesOwn.never rfl (yb rfl B.range (mY aQ (fM c a (aB (v_ 0) (aB (cB (hG (fT (aB aQ (aB aQ aZ)))) (fM c a (aB (v_ 0) (aB aQ aZ)))) aZ))))) (uG 9 b) (cG (kS (PW.pt (w_and (i3 GA FD (oO rfl B.len (kL (v_ 4))) (v_ 2) (dQ _)) (nU (NU (v_ 8) (ES (KH e a (aB (v_ 1) (aB (v_ 3) aZ)))))))) (bK (nK 3 b (cB (fM h a (aB (v_ 1) (aB (v_ 3) (aB (v_ 8) aZ)))) aQ))
  (bK (iD (eV (v_ 4) (v_ 8)))
  (cG (iD (eV (v_ 5) (v_ 3)))))) iK))))) iK))))
  (cG (fU (gN (aB (Cz rfl B.tuple (Jq (kL (v_ 4))) (ht:=rO)) (aB (v_ 5) aZ)))))))
end
section
variable{P:Program}{w:World}{K:PySem.W.Frag}{mg:Str->Option Value}{base:Heap}{f:Addr}{fd:FuncData}
def gJ:aJ ["_law_old","_law_new","_law_own","_law_called"] CW (aD eU):=fG
def mi(F:eK K "_law_within_right" "_law_within_right" eU f fd)(B:Bl mg):bF P w K mg base d_ 1 f fd CW (eI ⟨K,mg⟩ 3 dW):=by
 have c:=gJ.nd
 refine bA F gJ λd A b s H E a=> ?_
 exact(bK (kS (PW.pt (w_or (AV a (cB (v_ 0) aQ) (v_ 2)) (CM (CI a (cB (v_ 1) aQ) (v_ 2))))) (cG (fU Bh)) iK)
  (bK (kS (PW.pt (w_and (AV a (cB (v_ 0) aQ) (cB (v_ 1) aQ)) (nU (CI a (sR (cB (v_ 1) aQ) (yj (IW aQ)) y8) (gN (aB (v_ 2) aZ)))))) (bK (Br (n:=3) (N:= ["_law_row","_law_left"]) (js:= [none,none]) (aS.gen rfl rfl rfl rfl rfl rfl) rfl (Jn rfl B.zip (kL (cB (v_ 0) aQ)) (kL (cB (v_ 1) aQ))) (λ_ _ _ _=>(Cj rfl (gC (Bj 0) (gC (Bj 1) yR)))) (λ_ _ _ _=>(C3 (AV a (v_ 0) (v_ 1)))) (λ_ _ _ _=>(cB (cB (v_ 0) aQ) aQ)) (Mv 3 c))
  (cG (fU (Gs a (kL (v_ 3)) (ES (fT (aB (cB (v_ 1) aQ) aZ))))))) iK)
  (bK (kS (AV a (cB (v_ 0) aQ) (gN aZ)) (cG (fU (AI a (cB (v_ 1) aQ) (cB (cB (v_ 0) aQ) aQ)))) iK)
  (cG (fU (AI a (cB (v_ 1) aQ) (cB (hG (DA (ES (F4 rfl B.list (kL (cB (v_ 0) aQ)))) (ES (fT (aB (IW aQ) aZ))))) aQ)))))))
def ja:aJ ["_law_old","_law_new","_law_cut","_law_kept"] CU (aD gd):=fG
def pI(F:eK K "_law_row_right" "_law_row_right" gd f fd)(B:Bl mg):bF P w K mg base d_ 1 f fd CU (eI ⟨K,mg⟩ 2 dh):=by
 have b:=ja.nd
 refine bA F ja λd A a s H E c=> ?_
 exact(bK (vq PassesOwn.never rfl (CK (kL (gN (aB aQ (aB aQ aZ))))) (uG 2 b) (bK (nK 3 b (sR (v_ 0) (yj (v_ 2)) y8))
  (cG (kS (PW.pt (w_and (CI c (sR (v_ 1) y8 (yj (oO rfl B.len (kL (v_ 3))))) (v_ 3)) (nU (i3 Jo Jf (oO rfl B.len (kL (v_ 1))) (mY (oO rfl B.len (kL (v_ 3))) aQ) (dQ _))))) (cG (fU Bh)) iK))))
  (cG (fU Bh)))
def iV:aJ ["_law_sort","_law_old","_law_new","_law_own","_law_came","_law_turn","_law_ahead"] Cr (aD fJ):=fG
def nZ(F:eK K "_law_bell_right" "_law_bell_right" fJ f fd)(B:Bl mg):bF P w K mg base d_ 1 f fd Cr (eI ⟨K,mg⟩ 4 eO):=by
 have b:=iV.nd
 refine bA F iV λd A c s H E a=> ?_
 exact(bK (Br (n:=4) (N:= ["_law_pair","_law_old"]) (js:= [none,some 1]) (aS.gen rfl rfl rfl rfl rfl rfl) rfl (CK (kL (v_ 2))) (λ_ _ _ _=>(Bj 0)) (λ_ _ _ _=>(C3 (A0 a (v_ 0) (kL (v_ 1))))) (λ_ _ _ _=>(v_ 0)) (Mv 4 b))
  (bK (kS (JG a (kL (v_ 4)) (ES (fT aZ))) (cG (fU (LG (AI a (v_ 2) (v_ 1)) (LG (AI a (v_ 2) (sR (v_ 1) (yj aQ) y8)) (Lq (AI a (v_ 2) (gN aZ))))))) iK)
  (bK (kS (PW.pt (w_or (i3 Lm Ml (oO rfl B.len (kL (v_ 4))) aQ (dQ _)) (CM (AV a (cB (cB (v_ 4) aQ) aQ) (v_ 3))))) (cG (fU Bh)) iK)
  (bK (nK 5 b (cB (cB (v_ 4) aQ) aQ))
  (bK (nK 6 b (hG (xC (N:= ["_law_pair","_law_sort","_law_turn"]) (js:= [none,some 0,some 5]) (aS.gen rfl rfl rfl rfl rfl rfl) rfl (CK (kL (v_ 1))) (λ_ _ _ _=>(Bj 0)) (λ_ _ _ _=>(C3 (PW.pt (w_or (CI a (v_ 1) fS) (CM (i3 Jo Jf (cB (v_ 0) aQ) (v_ 2) (dQ _))))))) (λ_ _ _ _=>(v_ 0)))))
  (cG (fU (Gs a (ES (F4 rfl B.list (kL (v_ 2)))) (ES (DA (ES (DA (kL (v_ 6)) (kL (v_ 4)))) (ES (xC (N:= ["_law_pair","_law_ahead"]) (js:= [none,some 6]) (aS.gen rfl rfl rfl rfl rfl rfl) rfl (CK (kL (v_ 1))) (λ_ _ _ _=>(Bj 0)) (λ_ _ _ _=>(C3 (A0 a (v_ 0) (kL (v_ 1))))) (λ_ _ _ _=>(v_ 0))))))))))))))
def m3:aJ ["_law_world_here","_law_old","_law_new","_law_own","_law_one","_law_before","_law_behind","_law_bell","_law_row","_law_left"] C7 (aD kn):=fG
def vC(F:eK K "_law_right" "_law_right" kn f fd)(B:Bl mg)(c:qt P w K mg base)(e:oS P w K mg base)(g:mL P w K mg base):bF P w K mg base d_ 2 f fd C7 (eI ⟨K,mg⟩ 4 i6):=by
 have a:=m3.nd
 refine bA F m3 λh A d s H E b=> ?_
 exact(bK (vq PassesOwn.never rfl (Fy rfl B.zip (kL (cB (v_ 0) aQ)) (kL (cB (v_ 1) aQ)) (kL (cB (v_ 2) aQ))) (Cj rfl (gC (uG 4 a) (gC (uG 5 a) (gC (uG 6 a) yR)))) (bK (kS (PW.pt (w_or (Co (Ck (fM c b (aB (cB (v_ 5) aQ) (aB (cB (v_ 6) aQ) aZ))))) (CM (Co (Ck (fM c b (aB (cB (v_ 5) aQ) (aB (cB (v_ 6) aQ) aZ)))))))) (cG (fU Bh)) iK)
  (bK (vq PassesOwn.never rfl (Fy rfl B.zip (kL (cB (v_ 4) aQ)) (kL (cB (v_ 5) aQ)) (kL (cB (v_ 6) aQ))) (Cj rfl (gC (uG 7 a) (gC (uG 8 a) (gC (uG 9 a) yR)))) (cG (kS (Co (Ck (fM e b (aB (cB (v_ 7) aQ) (aB (v_ 8) (aB (v_ 9) (aB (v_ 3) aZ))))))) (cG (fU Bh)) iK)))
  (cG (kS (Co (Ck (fM g b (aB (v_ 5) (aB (v_ 6) (aB (v_ 3) aZ)))))) (cG (fU Bh)) iK)))))
  (cG (fU (ME rfl rfl B.all (ES (xC (N:= ["_law_before","_law_behind"]) (js:= [none,none]) (aS.gen rfl rfl rfl rfl rfl rfl) rfl (Jn rfl B.zip (kL (cB (v_ 1) aQ)) (kL (cB (v_ 2) aQ))) (λ_ _ _ _=>(Cj rfl (gC (Bj 0) (gC (Bj 1) yR)))) (λ_ _ _ _=>Mo) (λ_ _ _ _=>(fM c b (aB (cB (v_ 0) aQ) (aB (cB (v_ 1) aQ) aZ))))))))))
def FO:aJ ["_law_script","_law_k","_law_hand_here","_law_world_here","_law_weaving","_law_scenes","_law_at","_law_own"] FP (aD oW):=fG
def JJ(F:eK K "law" "law" oW f fd)(B:Bl mg)(h:zR P w K mg base)(j:xm P w K mg base)(d:cK P w K mg base)(g:yP P w K mg base)(i:xQ P w K mg base):bF P w K mg base d_ 15 f fd FP (eI ⟨K,mg⟩ 1 HK):=by
 have c:=FO.nd
 refine bA F FO λb A a s H E e=> ?_
 delta KR
 ac_rfl
end
def all_mk{l:PySem.W.OpenLaw}{w:World}{K:PySem.W.Frag}{h:Heap}{mg:Str->Option Value}{fa f1 f2 f3 f4 f5 f6 f7 f8 f9 k5 l7 e9 o7 m0 r9 g3 q2 m1 c3 n0 g0 q3 n8 d0 o0 q7 h3 g6 b3 n l1 k6 N a0 r6 U s3 r2 h7 a3 L C a1 g5 b2 Y f0 a2 A H r0 o8 o4 q5 c0 n9 k2 n2 i1 c:Addr}(X:K.In h)(G:h.Ns mainGlobals mg)(p2:mg "law"=some (.ref fa))
  (d1:bq K "_law_hand" lG f1)
  (d2:bq K "_law_take" kX f2)
  (d3:bq K "_law_names" jY f3)
  (d4:bq K "_law_pick" kU f4)
  (d5:bq K "_law_sum" nu f5)
  (d6:bq K "_law_wait" lL f6)
  (d7:bq K "_law_deed" k8 f7)
  (d8:bq K "_law_room" lO f8)
  (d9:bq K "_law_rooms" ko f9)
  (p4:bq K "_law_program" iP k5)
  (o1:bq K "_law_world" j_ l7)
  (c6:bq K "values_of" kY e9)
  (o9:bq K "begun_room" ke o7)
  (s5:bq K "begun" yf m0)
  (e3:bq K "hands_at" nY r9)
  (k3:bq K "hands_in_rows" gY g3)
  (a6:bq K "last_frame" jV q2)
  (b9:bq K "program_of" kc m1)
  (b0:bq K "is_behind_all" gZ c3)
  (p9:bq K "may_step" om n0)
  (c5:bq K "names_of" nL g0)
  (n4:bq K "place_of" oq q3)
  (l2:bq K "with_part" l_ n8)
  (a7:bq K "with_hand" lE d0)
  (s6:bq K "with_room" k_ o0)
  (l6:bq K "put_thing" kZ q7)
  (r3:bq K "value_of_two" iO h3)
  (c1:bq K "value_of" nR g6)
  (r5:bq K "reckoned" nQ b3)
  (h4:bq K "by_put" vh n)
  (l8:bq K "with_last_frame" fN l1)
  (k7:bq K "at_row" vf k6)
  (c2:bq K "by_unless" mh N)
  (e2:bq K "by_go" xV a0)
  (s1:bq K "come_in" qJ r6)
  (r1:bq K "by_do" xB U)
  (e1:bq K "bell_of" qH s3)
  (e4:bq K "with_line" lX r2)
  (p3:bq K "leave" xp h7)
  (e5:bq K "by_wait" qh a3)
  (i5:bq K "by_call" qj L)
  (s4:bq K "by_all" uQ C)
  (b7:bq K "by_tell" qK a1)
  (n5:bq K "with_pass" me g5)
  (m2:bq K "taken" xM b2)
  (k1:bq K "by_take" qg Y)
  (s0:bq K "given_back" jZ f0)
  (h9:bq K "by_give" rj a2)
  (b4:bq K "by_pass" qM A)
  (n3:bq K "by_say" u0 H)
  (l0:bq K "row_done" ow r0)
  (o5:bq K "end_deed" m9 o8)
  (r7:bq K "step_of" rh o4)
  (j4:bq K "stepped" qz q5)
  (h6:bq K "_law_weave" j0 c0)
  (k9:bq K "_law_within_right" eU n9)
  (p1:bq K "_law_row_right" gd k2)
  (n7:bq K "_law_bell_right" fJ n2)
  (i7:bq K "_law_right" kn i1)
  {oc kV dc pm cd ct:Value} {od an:Option Addr} {sl:Array (Option Value)} (s2:PySem.W.nsIn K mainGlobals "law"=some (some (.ref c))) (q8:K.lookup c=some ⟨oc,od,.func (PySem.W.fnOf "law" "law" (ie oW) (e_ oW) (aD oW) .none kV dc pm an cd ct),sl⟩) (g2:PySem.W.codeIn K cd "law"=true) (e8:PySem.W.keepIn K (.ref c)=true)
  {iM:Tok} (GD:PySem.W.nsIn K mainGlobals "NOBODY"=some (some (.int (-1) iM)))
  {jC:Tok} (LN:PySem.W.nsIn K mainGlobals "OWN"=some (some (.int (-1) jC)))
  {jE:Tok} (D4:PySem.W.nsIn K mainGlobals "HIGHEST"=some (some (.int (9) jE)))
  {wC BI:Nat} {yO xj xw yc yM xk xo yX x9 yN vy vR:Tok} (Et:PySem.W.nsIn K mainGlobals "DONE_BY"=some (some (.ref wC))) (Bo:K.lookup wC=some ⟨.type "dict",none,.dict (List.toArray [⟨PyData.keyHash w.params "put",.str "put" yO,.ref n⟩,⟨PyData.keyHash w.params "unless",.str "unless" xj,.ref N⟩,⟨PyData.keyHash w.params "go",.str "go" xw,.ref a0⟩,⟨PyData.keyHash w.params "do",.str "do" yc,.ref U⟩,⟨PyData.keyHash w.params "wait",.str "wait" yM,.ref a3⟩,⟨PyData.keyHash w.params "call",.str "call" xk,.ref L⟩,⟨PyData.keyHash w.params "all",.str "all" xo,.ref C⟩,⟨PyData.keyHash w.params "tell",.str "tell" yX,.ref a1⟩,⟨PyData.keyHash w.params "take",.str "take" x9,.ref Y⟩,⟨PyData.keyHash w.params "give",.str "give" yN,.ref a2⟩,⟨PyData.keyHash w.params "pass",.str "pass" vy,.ref A⟩,⟨PyData.keyHash w.params "say",.str "say" vR,.ref H⟩]) BI,#[]⟩)
  (L7:PySem.W.nsIn K mainGlobals "len"=some none) (G2:PySem.W.nsIn K mainGlobals "tuple"=some none) (KL:PySem.W.nsIn K mainGlobals "list"=some none) (J4:PySem.W.nsIn K mainGlobals "dict"=some none) (L8:PySem.W.nsIn K mainGlobals "set"=some none) (LY:PySem.W.nsIn K mainGlobals "int"=some none) (L0:PySem.W.nsIn K mainGlobals "str"=some none) (KO:PySem.W.nsIn K mainGlobals "bool"=some none) (LW:PySem.W.nsIn K mainGlobals "all"=some none) (My:PySem.W.nsIn K mainGlobals "any"=some none) (Io:PySem.W.nsIn K mainGlobals "range"=some none) (MM:PySem.W.nsIn K mainGlobals "zip"=some none) (E8:PySem.W.nsIn K mainGlobals "sorted"=some none) (xW:PySem.W.nsIn K mainGlobals "isinstance"=some none) (MK:PySem.W.nsIn K mainGlobals "min"=some none) (Ls:PySem.W.nsIn K mainGlobals "max"=some none) (MF:PySem.W.nsIn K mainGlobals "abs"=some none) (AL:PySem.W.nsIn K mainGlobals "enumerate"=some none)
  (T:∀ns:List Int,ns.length<=63->∃S',HK [.ref 0] [.frz (ns.map D.int)]=some (.d (.bl true),S')):
  ∃fd:FuncData,(∀(s:Shared) (v:Value),BindsTo s fd ⟨[v],[]⟩ [("_law_script",v)])/\∀base:Heap,K.In base->base.Ns mainGlobals mg->bF l.prog w K mg base d_ 15 fa fd FP AB:=by
 have e:=p2.symm.trans (PySem.W.mg_of X G s2)
 cases e
 have e6:=B_ (st:=oW) q8 g2 e8
 have O1:=d1.ok1 (ps:=Cw) X G
 have O2:=d2.ok1 (ps:=zP) X G
 have O3:=d3.ok1 (ps:=zP) X G
 have O4:=d4.ok1 (ps:=zI) X G
 have O5:=d5.ok1 (ps:=w4) X G
 have O6:=d6.ok1 (ps:=DC) X G
 have O7:=d7.ok1 (ps:=CF) X G
 have O8:=d8.ok1 (ps:=Cm) X G
 have O9:=d9.ok1 (ps:=IM) X G
 have s7:=p4.ok1 (ps:=De) X G
 have h5:=o1.ok1 (ps:=Iv) X G
 have b6:=c6.ok1 (ps:=zx) X G
 have b8:=o9.ok1 (ps:=zv) X G
 have n6:=s5.ok1 (ps:=yE) X G
 have q9:=e3.ok1 (ps:=zZ) X G
 have q1:=k3.ok1 (ps:=C_) X G
 have j5:=a6.ok1 (ps:=Ac) X G
 have q4:=b9.ok1 (ps:=Dd) X G
 have h0:=b0.ok1 (ps:=eF) X G
 have r4:=p9.ok1 (ps:=xn) X G
 have l3:=c5.ok1 (ps:=zg) X G
 have h8:=n4.ok1 (ps:=An) X G
 have k4:=l2.ok1 (ps:=Aa) X G
 have h1:=a7.ok1 (ps:=zX) X G
 have l4:=s6.ok1 (ps:=zJ) X G
 have o3:=l6.ok1 (ps:=C2) X G
 have e7:=r3.ok1 (ps:=zy) X G
 have g1:=c1.ok1 (ps:=wj) X G
 have l9:=r5.ok1 (ps:=C0) X G
 have P:=h4.ok1 (ps:=bR) X G
 have b5:=l8.ok1 (ps:=Cs) X G
 have o6:=k7.ok1 (ps:=Dg) X G
 have I:=c2.ok1 (ps:=bR) X G
 have S:=e2.ok1 (ps:=bR) X G
 have q0:=s1.ok1 (ps:=CP) X G
 have J:=r1.ok1 (ps:=bR) X G
 have j7:=e1.ok1 (ps:=Dz) X G
 have a5:=e4.ok1 (ps:=CL) X G
 have b1:=p3.ok1 (ps:=CH) X G
 have y:=e5.ok1 (ps:=bR) X G
 have j:=i5.ok1 (ps:=bR) X G
 have q:=s4.ok1 (ps:=bR) X G
 have Q:=b7.ok1 (ps:=bR) X G
 have j1:=n5.ok1 (ps:=Ag) X G
 have a4:=m2.ok1 (ps:=Dh) X G
 have t:=k1.ok1 (ps:=bR) X G
 have i2:=s0.ok1 (ps:=yl) X G
 have R:=h9.ok1 (ps:=bR) X G
 have M:=b4.ok1 (ps:=bR) X G
 have r:=n3.ok1 (ps:=bR) X G
 have n1:=l0.ok1 (ps:=bR) X G
 have q6:=o5.ok1 (ps:=eF) X G
 have p8:=r7.ok1 (ps:=eF) X G
 have l5:=j4.ok1 (ps:=eF) X G
 have o2:=h6.ok1 (ps:=CT) X G
 have g4:=k9.ok1 (ps:=CW) X G
 have h2:=p1.ok1 (ps:=CU) X G
 have c4:=n7.ok1 (ps:=Cr) X G
 have e0:=i7.ok1 (ps:=C7) X G
 have jR:=PySem.W.mg_of X G GD
 have i:=PySem.W.mg_of X G LN
 have mC:=PySem.W.mg_of X G D4
 have qI:Dc l.prog w K mg "DONE_BY" mw:=Fb (PySem.W.mg_of X G Et) Bo (.cons P.m (.cons I.m (.cons S.m (.cons J.m (.cons y.m (.cons j.m (.cons q.m (.cons Q.m (.cons t.m (.cons R.m (.cons M.m (.cons r.m .nil)))))))))))) (by decide +kernel)
 have B:Bl mg:=⟨QFq X G L7,QFq X G G2,QFq X G KL,QFq X G J4,QFq X G L8,QFq X G LY,QFq X G L0,QFq X G KO,QFq X G LW,QFq X G My,QFq X G Io,QFq X G MM,QFq X G E8,QFq X G xW,QFq X G MK,QFq X G Ls,QFq X G MF,QFq X G AL⟩
 refine⟨PySem.W.fnOf "law" "law" (ie oW) (e_ oW) (aD oW) .none kV dc pm an cd ct,λs v=>.of_eq rfl,λbase _ _=> ?_⟩
 have Z:Pk l.prog w base:=⟨⟩
 have sh:=O1.cal Z λ_ F _ _ _=>yk F B
 have a:=O2.cal Z λ_ F _ _ _=>xx F B
 have eL:=O3.cal Z λ_ F _ _ _=>vA F B a
 have bD:=O4.cal Z λ_ F _ _ _=>y4 F B a
 have cY:=O5.cal Z λ_ F b k m=>si F B a bD b k m 4
 have rF:=O6.cal Z λ_ F _ _ _=>xE F B bD cY a
 have rB:=O7.cal Z λ_ F _ _ _=>yH F B a rF bD cY
 have rL:=O8.cal Z λ_ F _ _ _=>ym F B a eL rB
 have p5:=O9.cal Z λ_ F _ _ _=>vV F B eL a rL
 have lN:=s7.cal Z λ_ F _ _ _=>sG F B a bD cY
 have pj:=h5.cal Z λ_ F _ _ _=>vF F B p5 eL a lN
 have je:=b6.cal Z λ_ F _ _ _=>ye F B
 have pq:=b8.cal Z λ_ F _ _ _=>vL F B je jR
 have sY:=n6.cal Z λ_ F _ _ _=>Fj F B je pq i
 have uK:=q9.cal Z λ_ F _ _ _=>zT F B
 have kM:=q1.cal Z λ_ F _ _ _=>qZ F B uK
 have f:=j5.cal Z λ_ F _ _ _=>vP F B
 have eN:=q4.cal Z λ_ F _ _ _=>vB F B i
 have kR:=h0.cal Z λ_ F _ _ _=>qO F B f eN i
 have gq:=r4.cal Z λ_ F _ _ _=>zt F B kM kR
 have gf:=l3.cal Z λ_ F _ _ _=>A5 F B
 have u:=h8.cal Z λ_ F _ _ _=>AA F B gf
 have z:=k4.cal Z λ_ F _ _ _=>yS F B
 have dS:=h1.cal Z λ_ F _ _ _=>yo F B z
 have o:=l4.cal Z λ_ F _ _ _=>xT F B z
 have jg:=o3.cal Z λ_ F _ _ _=>xb F B f u z o gf dS i
 have iL:=e7.cal Z λ_ F _ _ _=>sE F B mC
 have nN:=g1.cal Z λ_ F b k m=>r8 F B iL b k m 6
 have g:=l9.cal Z λ_ F _ _ _=>zQ F B f gf nN i
 have FW:=P.cal Z λ_ F _ _ _=>EN F B jg g
 have eA:=b5.cal Z λ_ F _ _ _=>oa F B dS
 have jt:=o6.cal Z λ_ F _ _ _=>Eg F B f eA
 have AJ:=I.cal Z λ_ F _ _ _=>xi F B g jt
 have HV:=S.cal Z λ_ F _ _ _=>E4 F B jt
 have mr:=q0.cal Z λ_ F _ _ _=>B1 F B o jR
 have IA:=J.cal Z λ_ F _ _ _=>F9 F B u g mr dS
 have iA:=j7.cal Z λ_ F _ _ _=>BN F B f u
 have fw:=a5.cal Z λ_ F _ _ _=>xX F B o z
 have tq:=b1.cal Z λ_ F _ _ _=>Gm F B o jR
 have EK:=y.cal Z λ_ F _ _ _=>BB F B iA g fw tq
 have EO:=j.cal Z λ_ F _ _ _=>BX F B iA fw o
 have Fu:=q.cal Z λ_ F _ _ _=>Eu F B iA fw
 have Ed:=Q.cal Z λ_ F _ _ _=>Bk F B g eA f
 have i4:=j1.cal Z λ_ F _ _ _=>xN F B z
 have s_:=a4.cal Z λ_ F _ _ _=>F7 F B u i4
 have DN:=t.cal Z λ_ F _ _ _=>B7 F B s_
 have hZ:=i2.cal Z λ_ F _ _ _=>vJ F B u i4 mC
 have Eh:=R.cal Z λ_ F _ _ _=>B4 F B hZ
 have Ew:=M.cal Z λ_ F _ _ _=>BL F B s_ hZ
 have GP:=r.cal Z λ_ F _ _ _=>EL F B
 have uR:∀x F,uC.lookup x=some F->fD l.prog w K mg base 10 x bR F:=by
  refine E9 λp hp=> ?_
  simp only[uC,Qsq,QXq,or_false] at hp
  rcases hp with rfl|rfl|rfl|rfl|rfl|rfl|rfl|rfl|rfl|rfl|rfl|rfl
  ·exact FW.mono (by decide)
  ·exact AJ.mono (by decide)
  ·exact HV.mono (by decide)
  ·exact IA.mono (by decide)
  ·exact EK.mono (by decide)
  ·exact EO.mono (by decide)
  ·exact Fu.mono (by decide)
  ·exact Ed.mono (by decide)
  ·exact DN.mono (by decide)
  ·exact Eh.mono (by decide)
  ·exact Ew.mono (by decide)
  ·exact GP.mono (by decide)
 have t_:=n1.cal Z λ_ F _ _ _=>AR F B uR qI
 have vk:=q6.cal Z λ_ F _ _ _=>Ay F B dS tq eN jg
 have w5:=p8.cal Z λ_ F _ _ _=>BS F B f mr eN vk g t_ jt i
 have qG:=l5.cal Z λ_ F _ _ _=>B8 F B gq w5
 have pG:=o2.cal Z λ_ F _ _ _=>vQ F B sY a gq bD qG
 have eT:=g4.cal Z λ_ F _ _ _=>mi F B
 have dJ:=h2.cal Z λ_ F _ _ _=>pI F B
 have fO:=c4.cal Z λ_ F _ _ _=>nZ F B
 have pW:=e0.cal Z λ_ F _ _ _=>vC F B dJ fO eT
 exact IH (JJ e6 B sh pj a pG pW) T
end W28
namespace DL
open PySem PySem.Spec L2
def yC{a:cN}{S:aF}{Q:Bool->aF->Prop}(q:Q true S):E de a S Q:=⟨_,_,rfl,q⟩
section
variable{S:aF}
def IY{i j:Int}{Q:D->Prop}(q:Q (.int (i+j))):Op (bU S (.int i) (.int j)) Q:=⟨_,rfl,q⟩
def BC{i j:Str}{Q:D->Prop}(h:i.length+j.length<=sizeLine)(q:Q (.str (i++j))):Op (bU S (.str i) (.str j)) Q:=⟨_,by simp only[bU];rw[Qhq h],q⟩
def et{i j:List D}{Q:D->Prop}(h:i.length+j.length<=sizeLine)(q:Q (.tup (i++j))):Op (bU S (.tup i) (.tup j)) Q:=⟨_,by simp only[bU];rw[Qhq h],q⟩
def nF{k:Int->Int->D}{i j:Int}{Q:D->Prop}(q:Q (k i j)):Op (intD (λ_ _=>True) k S (.int i) (.int j)) Q:=⟨_,by simp only[intD,if_true],q⟩
def pd{i j:Int}{Q:D->Prop}(h:0<j)(q:Q (.int (i%j))):Op (oU S (.int i) (.int j)) Q:=⟨_,by simp only[oU,intD];rw[Qhq h],q⟩
def Cf{i j:Int}{Q:D->Prop}(h:Fg i j)(q:Q (.int (i/j))):Op (wW S (.int i) (.int j)) Q:=⟨_,by simp only[wW,intD];rw[Qhq h],q⟩
def pT{i j:Int}{Q:D->Prop}(h:Ik i j)(q:Q (.int (i*j))):Op (pR S (.int i) (.int j)) Q:=⟨_,by simp only[pR,intD];rw[Qhq h.ok],q⟩
def ay{ds:List D}{i:Int}{d:D}{Q:D->Prop}(h:jU ds i=some d)(q:Q d):Op (jr S (.tup ds) (.int i)) Q:=⟨_,h,q⟩
def dr{k:Nat}{ds:List D}{i:Int}{d:D}{Q:D->Prop}(a:S[k]?=some (.lst ds))(h:jU ds i=some d)(q:Q d):Op (jr S (.ref k) (.int i)) Q:=⟨_,by simp only[jr,a];exact h,q⟩
def cI{ds:List D}{Q:List D×Tag->Prop}(q:Q (ds,.tu)):Op (qX S (.tup ds)) Q:=⟨_,rfl,q⟩
def bG{k:Nat}{ds:List D}{Q:List D×Tag->Prop}(a:S[k]?=some (.lst ds))(q:Q (ds,.st k)):Op (qX S (.ref k)) Q:=⟨_,by simp only[qX,a],q⟩
end
def aV{b:Bool}{p q:Prop}(c:b=true->p)(a:b=false->q):if b=true then p else q:=by
 cases b with
 |true=>exact c rfl
 |false=>exact a rfl
end DL
local macro_rules|`(tactic|symm)=>do
 let mut a:Array (Lean.TSyntax `Lean.Parser.Tactic.tacticSeq):= #[]
 for s in (["bC","dZ","i9","NH","lC","NV","iZ","cy","t_auS","cc","fQ","bX","fF","zi","pJ","rC","Oa","dt","qu","Au","JX","Lj","yV","nV","C4","b_","wF","tK","mf","Dx","Oq","yC","a_","OS","Mm","oF","IY","nF","cI"]:List String) do a:=a.push (←`(tacticSeq|refine $(Lean.mkIdent (.str (.str .anonymous "DL") s)) ?_))
 `(tactic|repeat(first|(with_reducible first $[| $a]*)|((with_reducible refine DL.aK (d := ?_) ?_ ?_); rotate_left; rfl)|dsimp only))
local macro_rules|`(tactic|apply $e)=>`(tactic|(refine $e;symm))
namespace W28
open PySem PySem.Spec L2 DL
def sx(a b c:Int):O:=.lst [.int a,.int b,.int c]
def EB{S:aF}{k:Nat}{a b j m:Int}{Q:Res->aF->Prop}(e:S[k]?=some (sx a b j))(r:0<=j)(q1:j<1000000000)(f:0<m)(u:m<1000000)
  (h:∀(d p s l:Int),0<=d->d<m->0<=l->l<=j+1->Q (.d (.int d)) (S.set k (sx p s l))):Fn aE [.ref k,.int m] S Q:=by
 have q:k<S.length:=(gQs.mp e).1
 have n:∀(o:O),(S.set k o).take S.length=S.set k o:=λo=>by rw[List.take_of_length_le];simp
 refine cg ?_
 unfold nH
 symm
 refine dr e rfl ?_
 symm
 refine aV (λc=> ?_) (λc=> ?_)
 ·symm
  refine dr e rfl ?_
  symm
  refine pd f ?_
  symm
  refine dr e rfl ?_
  symm
  refine Cf ⟨f,by omega⟩ ?_
  symm
  refine⟨_,_,_,_,rfl,rfl,e,rfl,?_⟩
  symm
  refine ip (vW (by rfl)) (n _) (λ_ z=>by cases z) rfl ?_
  exact h _ _ _ _ (Int.emod_nonneg _ (by omega)) (Int.emod_lt_of_pos _ f) r (by omega)
 ·symm
  refine dr e rfl ?_
  symm
  refine⟨_,_,_,_,rfl,rfl,e,rfl,?_⟩
  have i:∀o:O,(S.set k o)[k]?=some o:=λo=>by rw[Qyq q]
  symm
  refine dr (i _) rfl ?_
  symm
  refine dr (i _) rfl ?_
  refine pT (.inl ⟨by decide,by decide⟩) ?_
  symm
  refine dr (i _) rfl ?_
  refine pT (.inr ⟨by omega,by omega⟩) ?_
  symm
  refine pT (.inr ⟨by decide,by decide⟩) ?_
  symm
  refine pd (by decide) ?_
  generalize g:(_:Int)%2305843009213693921=mx
  have v:0<=mx:=by rw[←g];exact Int.emod_nonneg _ (by decide)
  have t:mx<2305843009213693921:=by rw[←g];exact Int.emod_lt_of_pos _ (by decide)
  symm
  refine pd (by decide) ?_
  symm
  refine dr (i _) rfl ?_
  refine pT (.inl ⟨by decide,by decide⟩) ?_
  symm
  refine pT (.inl ⟨by omega,by omega⟩) ?_
  symm
  refine pd (by decide) ?_
  symm
  refine Cf ⟨by decide,by decide⟩ ?_
  symm
  refine Cf ⟨by decide,by decide⟩ ?_
  symm
  refine pd f ?_
  symm
  refine ip (vW (by rfl)) (n _) (λ_ z=>by cases z) rfl ?_
  exact h _ _ _ _ (Int.emod_nonneg _ (by omega)) (Int.emod_lt_of_pos _ f) (by omega) (by omega)
structure Ex(k n:Nat)(S S':aF):Prop where
 len:S.length<=S'.length
 keep:∀(j:Nat) (o:O),j≠k->S[j]?=some o->S'[j]?=some o
 pot:∃a b c,S'[k]?=some (sx a b c)/\0<=c/\c<=n
def Ex.refl{k n:Nat}{S:aF}{a b c:Int}(h:S[k]?=some (sx a b c))(d:0<=c)(e:c<=n):Ex k n S S:=⟨Qmq _,λ_ _ _ h=>h,_,_,_,h,d,e⟩
def Ex.here{k n:Nat}{d S:aF}(x:Ex k n d S):Ex k n S S:=by obtain⟨a,b,c,h,e,f⟩:=x.pot;exact Ex.refl h e f
def Ex.mono{k n m:Nat}{S d:aF}(x:Ex k n S d)(h:n<=m):Ex k m S d:=⟨x.len,x.keep,by obtain⟨a,b,c,f,e,g⟩:=x.pot;exact⟨a,b,c,f,e,by omega⟩⟩
def Ex.trans{k n m:Nat}{S a S2:aF}(x:Ex k n S a)(y:Ex k m a S2):Ex k m S S2:=⟨QAq x.len y.len,λj o n h=>y.keep j o n (x.keep j o n h),y.pot⟩
def Ex.set{k n m:Nat}{S d:aF}{a b c:Int}(x:Ex k n S d)(e:0<=c)(f:c<=m):Ex k m S (d.set k (sx a b c)):=by
 obtain⟨_,_,_,h,_,_⟩:=x.pot
 refine⟨by simpa using x.len,λj o n h=> ?_,a,b,c,Qyq (gQs.mp h).1,e,f⟩
 rw[QKq (Ne.symm n)]
 exact x.keep j o n h
def Ex.app{k n:Nat}{S d G:aF}(x:Ex k n S d):Ex k n S (d++G):=by
 obtain⟨a,b,c,h,e,f⟩:=x.pot
 refine⟨by rw[lQa];have:=x.len;omega,λj o n h=> ?_,a,b,c,?_,e,f⟩
 ·have:=x.keep j o n h
  rw[QHq (gQs.mp this).1]
  exact this
 ·rw[QHq (gQs.mp h).1]
  exact h
def Ex.put{k n r:Nat}{S d:aF}{o:O}(x:Ex k n S d)(i:S.length<=r)(m:k<S.length):Ex k n S (d.set r o):=by
 obtain⟨a,b,c,h,e,f⟩:=x.pot
 refine⟨by simpa using x.len,λj g n h=> ?_,a,b,c,?_,e,f⟩
 ·have l:=(gQs.mp h).1
  rw[QKq (by omega)]
  exact x.keep j g n h
 ·rw[QKq (by omega)]
  exact h
def Ex.lt{k n:Nat}{S d:aF}(x:Ex k n S d):k<d.length:=by
 obtain⟨a,b,c,h,_⟩:=x.pot
 exact(gQs.mp h).1
def aM{S G:aF}{j:Nat}{o:O}(h:S[j]?=some o):(S++G)[j]?=some o:=by
 rw[QHq (gQs.mp h).1]
 exact h
def aL{S:aF}{o:O}:(S++ [o])[S.length]?=some o:=by simp
def gX{S:aF}{k j:Nat}{o o':O}(n:j≠k)(h:S[j]?=some o):(S.set k o')[j]?=some o:=by
 rw[QKq (Ne.symm n)]
 exact h
def cM{S:aF}{j:Nat}{o o':O}(h:S[j]?=some o):(S.set j o')[j]?=some o':=Qyq (gQs.mp h).1
def Ex.clean{k n:Nat}{S f:aF}(x:Ex k n S f)(p:k<S.length):pX S f/\∃a b c:Int,0<=c/\c<=n/\f.take S.length=S.set k (sx a b c):=by
 obtain⟨a,b,c,h,l,m⟩:=x.pot
 have g:∀j,j<S.length->f[j]?=(S.set k (sx a b c))[j]? :=λj d=>by
  by_cases e:j=k
  ·subst e
   rw[h,Qyq d]
  ·rw[QKq (Ne.symm e),x.keep j _ e (gQe d),gQe d]
 refine⟨⟨x.len,λj o d e=> ?_⟩,a,b,c,l,m,?_⟩
 ·by_cases i:j=k
  ·subst i
   rw[h] at e
   cases e
   exact .inr rfl
  ·rw[x.keep j _ i (gQe d)] at e
   rw[gQe d]
   exact .inl e
 ·apply List.ext_getElem?
  intro j
  by_cases d:j<S.length
  ·rw[List.getElem?_take_of_lt d]
   exact g j d
  ·rw[List.getElem?_eq_none (by rw[Qxq];omega),List.getElem?_eq_none (by simp;omega)]
def su{k n m:Nat}{S i g:aF}{d:D}{Q:Res->aF->Prop}(e:Ex k n S i)(x:Ex k m g S)(hd:∀k,d≠.ref k)(hl:cb S.length d=true)(q:∀S2,Ex k n g S2->Ex k n S S2->S2.length=S.length->Q (.d d) S2):Op (settle S d i) λp=>Q p.1 p.2:=by
 obtain⟨l,a,b,c,h,f,j⟩:=e.clean x.lt
 exact ip l j hd hl (q _ (x.set h f) (x.here.set h f) (by simp))
def Je{k n m:Nat}{S h f:aF}{ds:List D}{Q:Res->aF->Prop}(e:Ex k n S h)(x:Ex k m f S)(hl:bS S.length ds=true)(q:∀S2,Ex k n f S2->Ex k n S S2->S2.length=S.length->Q (.l ds) S2):Op (eB S ds h) λp=>Q p.1 p.2:=by
 obtain⟨j,a,b,c,g,d,i⟩:=e.clean x.lt
 exact nJ j i hl (q _ (x.set g d) (x.here.set g d) (by simp))
def bI{S f:aF}{k n:Nat}{m:Int}{Q:Res->aF->Prop}(x:Ex k n f S)(v:n<1000000000)(i:0<m)(o:m<1000000)
  (h:∀(d:Nat) (e:aF),(d:Int)<m->Ex k (n+1) f e->Ex k (n+1) S e->e.length=S.length->Q (.d (.int d)) e):Fn aE [.ref k,.int m] S Q:=by
 obtain⟨a,b,c,q,p,t⟩:=x.pot
 refine EB q p (by omega) i o λd r y w s l g u=> ?_
 obtain⟨j,rfl⟩:∃j:Nat,d=j:=⟨d.toNat,by omega⟩
 exact h j _ l (x.set g (by omega)) (x.here.set g (by omega)) (by simp)
def aY{α:Type}{xs:List α}{j:Nat}{x:α}(h:xs[j]?=some x):jU xs (j:Int)=some x:=by
 have a:=(gQs.mp h).1
 unfold jU GU
 rw[Qhq (by omega),Qhq (by omega)]
 simpa using h
def eP{S m:aF}{k n i:Nat}{xs:List D}{Q:Res->aF->Prop}(x:Ex k n m S)(q:n<1000000000)(hi:i≠k)(o:S[i]?=some (.lst xs))(v:0<xs.length)(s:xs.length<1000)(hl:∀d∈xs,∀k,d≠.ref k)
  (e:∀d∈xs,cb S.length d=true)
  (h:∀(d:D) (g:aF),d∈xs->Ex k (n+1) m g->Ex k (n+1) S g->g.length=S.length->Q (.d d) g):Fn bx [.ref k,.ref i] S Q:=by
 refine cg ?_
 unfold jX
 symm
 apply bG o ?_
 refine bI x.here q (by show(0:Int)<xs.length;omega) (by show(xs.length:Int)<1000000;omega) λd g p l t r=> ?_
 dsimp only
 have f:d<xs.length:=by have:(d:Int)<(xs.length:Int):=p;omega
 refine dr (l.keep _ _ hi o) (aY (gQe f)) ?_
 have j:=List.getElem_mem f
 exact su l x (hl _ j) (e _ j) λu a b c=>h _ _ j a b c
def Av{S j:aF}{k n:Nat}{xs:List D}{Q:Res->aF->Prop}(x:Ex k n j S)(o:n<1000000000)(t:0<xs.length)(q:xs.length<1000)(hl:∀d∈xs,∀k,d≠.ref k)
  (e:∀d∈xs,cb S.length d=true)
  (h:∀(d:D) (g:aF),d∈xs->Ex k (n+1) j g->Ex k (n+1) S g->g.length=S.length->Q (.d d) g):Fn bx [.ref k,.tup xs] S Q:=by
 refine cg ?_
 unfold jX
 symm
 refine bI x.here o (by show(0:Int)<xs.length;omega) (by show(xs.length:Int)<1000000;omega) λd g m l r p=> ?_
 dsimp only
 have f:d<xs.length:=by have:(d:Int)<(xs.length:Int):=m;omega
 refine ay (aY (gQe f)) ?_
 have i:=List.getElem_mem f
 exact su l x (hl _ i) (e _ i) λs a b c=>h _ _ i a b c
end W28
namespace DL
open PySem PySem.Spec L2
mutual
theorem dk{m:Nat}:∀{d:D},cb 0 d=true->cb m d=true
 |.non,_=>rfl
 |.bl _,_=>rfl
 |.int _,_=>rfl
 |.str _,_=>rfl
 |.tup ds,h=>by simp only[cb] at h⊢;exact jB h
 |.ref k,h=>by simp[cb] at h
 |.fn _,_=>rfl
theorem jB{m:Nat}:∀{ds:List D},bS 0 ds=true->bS m ds=true
 | [],_=>rfl
 | d::ds,h=>by
   simp only[bS,QCq] at h⊢
   exact⟨dk h.1,jB h.2⟩
end
theorem xf{m:Nat}:∀{ds:List D},(∀d∈ds,cb m d=true)->bS m ds=true
 | [],_=>rfl
 | d::ds,h=>by
   simp only[bS,QCq]
   exact⟨h d (QBq ..),xf λe a=>h e (Qpq _ a)⟩
def bc{α:Type}{m:Nat}{f:α->D}{l:List α}(h:∀a∈l,cb m (f a)=true):bS m (l.map f)=true:=xf λd b=>by
 obtain⟨a,c,rfl⟩:=Qkq.mp b
 exact h a c
theorem wo:∀ss:List Str,wb (ss.map D.str)=some ss
 | []=>rfl
 |s::ss=>by simp only[QDq,wb];rw[wo ss];rfl
def Kx{b:cN}{S:aF}{f:dF}{Q:List D->aF->Prop}(h:E f b S λp a=>p.2.isL=true/\∃ss:List Str,p.1=ss.map D.str/\ss.length<64/\Q ((qR ss).map D.str) a):E (Da f) b S Q:=by
 obtain⟨p,a,e,l,ss,d,c,q⟩:=h
 exact⟨_,a,by unfold Da;rw[e];simp only[Qbq];rw[Qhq l,d,wo];simp only[Qbq];rw[Qhq c],q⟩
def dR{ds:List D}{y:D}{Q:List D×D->Prop}(h:ds.length<sizeLine)(q:Q (ds++ [y],.non)):Op (fX ds [y]) Q:=⟨_,by simp only[fX];rw[Qhq h],q⟩
end DL
namespace W28
open PySem PySem.Spec L2 DL
def I0{c:cN}{S:aF}{i j:Nat}{f:fW}{Q:Out->Prop}(h:E f c S λds d=>∃a b,ds= [a,b]/\Q (.nx ((c.set i (some a)).set j (some b)) d)):T (AM i j f) c S Q:=by
 obtain⟨ds,d,e,a,b,rfl,q⟩:=h
 exact⟨_,by unfold AM;rw[e];rfl,q⟩
def lets:Str:="abcdefghijklmnopqrstuvwxyz"
def let1(i:Nat):Str:=⟨#[lets.cps.toList.getD i 0]⟩
def Kr:List Str:= ["","zq","x","qqzzx"]
def Nd(j:Nat):Str:=Kr.getD j ""
def nm(i j:Nat):Str:=let1 i++Nd j
def y_(x:Str):Prop:=∃i j,i<26/\j<4/\x=nm i j
def Hb(f s a:Nat):List Str:=(List.range a).map λk=>nm ((f+s*k)%26) ((f+k*k)%4)
def ve:∀i,i<26->∀j,j<4->PyData.strOk (nm i j)=true/\PyData.strOk ("pass" ++nm i j)=true/\(nm i j).length<=6/\(let1 i).length=1:=by decide +kernel
def Fs:∀f,f<26->∀s∈([1,3,5,7,9,11]:List Nat),∀m,m<4->(Hb f s m).Nodup:=by decide +kernel
def y_.pass{x:Str}(h:y_ x):PyData.strOk ("pass" ++x)=true:=by obtain⟨i,j,a,b,rfl⟩:=h;exact(ve i a j b).2.1
def y_.len{x:Str}(h:y_ x):x.length<=6:=by obtain⟨i,j,a,b,rfl⟩:=h;exact(ve i a j b).2.2.1
def KE{f s m:Nat}:∀x∈Hb f s m,y_ x:=λx a=>by
 obtain⟨k,_,rfl⟩:=Qkq.mp a
 exact⟨_,_,Nat.mod_lt _ (by decide),Nat.mod_lt _ (by decide),rfl⟩
def Ks:∀i:Nat,i<26->jU lets.cps.toList (i:Int)=some (lets.cps.toList.getD i 0):=by decide +kernel
def JL:∀j:Nat,j<4->jU (([.str "",.str "zq",.str "x",.str "qqzzx"]:List D)) (j:Int)=some (.str (Nd j)):=by
 intro j a
 rcases j with _|_|_|_|j
 ·rfl
 ·rfl
 ·rfl
 ·rfl
 ·omega
def Hi:∀j,(Nd j).length<=5:=by
 intro j
 rcases j with _|_|_|_|j
 ·decide
 ·decide
 ·decide
 ·decide
 ·show(Str.length (Kr.getD (j+4) ""))<=5
  simp[Kr]
  decide
def L5{S:aF}{z:Str}{i:Int}{c:Nat}{Q:D->Prop}(hl:z.length<=sizeLine)(h:jU z.cps.toList i=some c)(q:Q (.str ⟨#[c]⟩)):Op (jr S (.str z) (.int i)) Q:=⟨_,by simp only[jr];rw[Qhq hl,h];rfl,q⟩
def jx{S H:aF}{k n:Nat}{e:Nat}{Q:Res->aF->Prop}(x:Ex k n H S)(hn:n<999999990)(Y:e<4)
  (h:∀(ws:List Str) (g:aF),ws.Nodup->ws.length=e->(∀z∈ws,y_ z)->Ex k (n+2) H g->Ex k (n+2) S g->g.length=S.length->Q (.l (ws.map D.str)) g):Fn cA [.ref k,.int e] S Q:=by
 have N:=x.lt
 refine cg ?_
 unfold rR
 symm
 apply I0 ?_
 apply bI x.here (by omega) (by decide) (by decide) λf S1 hf B _ l1=> ?_
 apply⟨by decide,?_⟩
 refine bI (B.app (G:= [O.lst [.int 1,.int 3,.int 5,.int 7,.int 9,.int 11]])) (by omega) (by decide) (by decide) λv p hv C A l2=> ?_
 dsimp only
 obtain⟨s,F,R⟩:∃s:Nat,s∈([1,3,5,7,9,11]:List Nat)/\jU ([.int 1,.int 3,.int 5,.int 7,.int 9,.int 11]:List D) (v:Int)=some (.int s):=by
  rcases v with _|_|_|_|_|_|v
  ·exact⟨1,by decide,rfl⟩
  ·exact⟨3,by decide,rfl⟩
  ·exact⟨5,by decide,rfl⟩
  ·exact⟨7,by decide,rfl⟩
  ·exact⟨9,by decide,rfl⟩
  ·exact⟨11,by decide,rfl⟩
  ·omega
 have J:s<12:=by
  simp only[Qsq,QXq,or_false] at F
  omega
 refine dr (A.keep _ _ (by have:=B.lt;omega) aL) R ?_
 symm
 apply⟨_,_,rfl,?_⟩
 apply⟨by decide,?_⟩
 have t:S.length<=p.length:=C.len
 have I:Ex k (n+2) S (p++ [O.lst []]):=C.app
 have w:(p++ [O.lst []])[p.length]?=some (.lst []):=aL
 generalize (p++ [O.lst []])=S3 at I w⊢
 generalize hr:p.length=r at w t⊢
 apply hU ?_
 refine⟨_,rfl,⟨by omega,by omega⟩,?_⟩
 refine⟨λi m g=>∃o:Option D,m= [some (.ref k),some (.int e),some (.str "abcdefghijklmnopqrstuvwxyz"),some (.int f),some (.int s),some (.ref r),o]/\Ex k (n+2) S g/\g[r]?=some (.lst ((Hb f s i).map D.str)),⟨none,rfl,I,w⟩,λ_ _ _ _=>trivial,?_,?_⟩
 ·rintro i d m g u ⟨o,rfl,e4,g4⟩
  have P:=(gQs.mp u).1
  simp only[ia,lQm,QVq] at P
  obtain rfl:d=.int i:=by
   simp only[ia,gQm] at u
   obtain⟨j,X,rfl⟩:=oQm.mp u
   have:=(gQs.mp X).2
   simp at this
   subst this
   simp
  refine a_ ?_
  apply iZ (jA ?_)
  apply⟨_,_,rfl,g4,?_⟩
  apply pT (.inl ⟨by omega,by omega⟩) ?_
  refine pd (by decide) ?_
  have K:((f:Int)+(s:Int)*(i:Int))%26=(((f+s*i)%26:Nat):Int):=by push_cast;rfl
  rw[K]
  have q:(f+s*i)%26<26:=Nat.mod_lt _ (by decide)
  apply L5 (by decide) (Ks _ q) ?_
  apply⟨by decide,?_⟩
  apply pT (.inl ⟨by omega,by omega⟩) ?_
  refine pd (by decide) ?_
  have Z:((f:Int)+(i:Int)*(i:Int))%4=(((f+i*i)%4:Nat):Int):=by push_cast;rfl
  rw[Z]
  have L:(f+i*i)%4<4:=Nat.mod_lt _ (by decide)
  refine dr aL (JL _ L) ?_
  refine BC (QAq (show(let1 ((f+s*i)%26)).length+(Nd ((f+i*i)%4)).length<=6 by have:=(ve _ q 0 (by decide)).2.2.2;have:=Hi ((f+i*i)%4);omega) (by decide)) ?_
  symm
  refine⟨_,aM g4,dR (by simp only[Hb,lQm,QVq];exact Qqq (show i<4 by omega) (by decide)) ?_⟩
  have U:=(gQs.mp g4).1
  refine⟨_,rfl,(e4.app).put t N,?_⟩
  rw[cM (aM g4)]
  simp only[Hb,List.range_succ,Qzq,QDq,List.map_nil]
  rfl
 ·rintro m g ⟨o,rfl,e4,g4⟩
  have M:(ia 0 (e:Int)).length=e:=by simp only[ia,lQm,QVq];omega
  rw[M] at g4
  symm
  apply Kx ?_
  refine bG g4 ?_
  refine⟨rfl,Hb f s e,rfl,by simp only[Hb,lQm,QVq];omega,?_⟩
  have y:=lW (Hb f s e)
  refine Je e4 x (bc λ_ _=>rfl) λp a b c=> ?_
  refine h _ _ (y.symm.nodup (Fs f (by omega) s F e Y)) (by rw[y.length_eq];simp[Hb]) (λz W=>KE z (y.mem_iff.mp W)) a b c
end W28
namespace DL
open PySem PySem.Spec L2
def rT{a:cN}{S:aF}{f g:dF}{Q:List D->aF->Prop}(h:E f a S λp b=>E g a b λr S2=>(p.2.isM=true/\r.2.isM=true/\p.2.stays S2 p.1/\p.1.length+r.1.length<=sizeLine)/\Q (p.1++r.1) S2):E (sN f g) a S Q:=by
 obtain⟨p,b,c,r,S2,d,l,q⟩:=h
 exact⟨_,S2,by unfold sN;rw[c];simp only[Qbq];rw[d];simp only[Qbq];rw[Qhq l],q⟩
def eR{S:aF}{i j:Int}{Q:D->Prop}(q:Q (.bl (decide (i=j)))):Op (fP false S (.int i) (.int j)) Q:=⟨_,by simp[fP,yu,Be],q⟩
def ji{S:aF}{i j:Str}{Q:D->Prop}(q:Q (.bl (decide (i=j)))):Op (fP false S (.str i) (.str j)) Q:=⟨_,by simp[fP,yu,Be],q⟩
def fm{b:cN}{S:aF}{n:Nat}{g:sH}{ds:List D}{Q:cN->aF->Prop}(d:ds.length=n)(h:M1 g ds b S Q):Tg (lJ (nG n g)) (.tup ds) b S Q:=by
 obtain⟨a,c,e,q⟩:=h
 exact⟨a,c,by show nG n g ds b S=_;unfold nG;rw[Qhq d];exact e,q⟩
def bH{a:cN}{S:aF}{Q:cN->aF->Prop}(q:Q a S):M1 eJ [] a S Q:=⟨_,_,rfl,q⟩
def aC{b:cN}{S:aF}{f:mI}{g:sH}{d:D}{ds:List D}{Q:cN->aF->Prop}(h:Tg f d b S λa e=>M1 g ds a e Q):M1 (aR f g) (d::ds) b S Q:=by
 obtain⟨a,e,j,c,i,k,q⟩:=h
 exact⟨c,i,by show(f d b S).bind _=_;rw[j];exact k,q⟩
def Mq{d:cN}{S:aF}{a:Bool}{f g:dF}{Q:D->aF->Prop}(h:E f d S λp e=>E g d e λr S2=>(p.2.isL=true/\r.2.isL=true/\p.2.stays S2 p.1)/\∃b vs,iU p.1=some b/\iU r.1=some vs/\Q (.bl (if a then !ET b vs else ET b vs)) S2):E (eqQ a f g) d S Q:=by
 obtain⟨p,e,i,r,S2,k,c,b,vs,l,j,q⟩:=h
 exact⟨_,S2,by unfold eqQ;rw[i];simp only[Qbq];rw[k];simp only[Qbq];rw[Qhq c,l];simp only[Qbq];rw[j];rfl,q⟩
end DL
namespace W28
open PySem PySem.Spec L2 DL
def ops:List Str:= ["plus","minus","less","same","both"]
inductive Tr where
 |num (n:Nat)|word (x:Str)|waits (b:Str)|no (t:Tr)|two (o:Str) (a b:Tr)
def Tr.d:Tr->D
 |.num n=>.int n
 |.word x=>.str x
 |.waits b=>.tup [.str "waits",.str b]
 |.no t=>.tup [.str "not",t.d]
 |.two o a b=>.tup [.str o,a.d,b.d]
def Tr.Ok(ws bs:List Str):Tr->Prop
 |.num n=>n<=9
 |.word x=>x∈ws
 |.waits b=>b∈bs
 |.no t=>t.Ok ws bs
 |.two o a b=>o∈ops/\a.Ok ws bs/\b.Ok ws bs
def Tr.dep:Tr->Nat
 |.num _=>1
 |.word _=>1
 |.waits _=>1
 |.no t=>t.dep+1
 |.two _ a b=>max a.dep b.dep+1
theorem Tr.low:∀t:Tr,cb 0 t.d=true
 |.num _=>rfl
 |.word _=>rfl
 |.waits _=>rfl
 |.no t=>by simp only[Tr.d,cb,bS];rw[t.low];rfl
 |.two _ a b=>by simp only[Tr.d,cb,bS];rw[a.low,b.low];rfl
def Tr.noref(t:Tr):∀k,t.d≠.ref k:=by
 intro k
 cases t <;>simp[Tr.d]
def dY{ws:List Str}:∀d∈ws.map D.str,∀k,d≠.ref k:=λd b=>by
 obtain⟨a,_,rfl⟩:=Qkq.mp b
 exact λk z=>(nomatch z)
def fI{ws:List Str}{m:Nat}:∀d∈ws.map D.str,cb m d=true:=λd b=>by
 obtain⟨a,_,rfl⟩:=Qkq.mp b
 rfl
def KJ{n:Nat}(h:(n:Int)<5):∃o,o∈ops/\jU ([.str "plus",.str "minus",.str "less",.str "same",.str "both"]:List D) (n:Int)=some (.str o):=by
 rcases n with _|_|_|_|_|n
 ·exact⟨"plus",by simp[ops],rfl⟩
 ·exact⟨"minus",by simp[ops],rfl⟩
 ·exact⟨"less",by simp[ops],rfl⟩
 ·exact⟨"same",by simp[ops],rfl⟩
 ·exact⟨"both",by simp[ops],rfl⟩
 ·omega
theorem FT:∀ss:List Str,iU (ss.map D.str)=some (ss.map V.str)
 | []=>rfl
 |s::ss=>by simp only[QDq,iU];rw[FT ss];rfl
def cs:Nat->Nat
 |0=>4
 |d+1=>2+2*cs d
theorem Nt:∀d,4<=cs d
 |0=>Qmq _
 |d+1=>by have:=Nt d;simp only[cs];omega
def MO{d:Nat}(h:1<=d):cs d=2+2*cs (d-1):=by
 obtain⟨e,rfl⟩:∃e,d=e+1:=⟨d-1,by omega⟩
 rfl
theorem g8:∀(m:Nat) {S S0:aF} {k n i j:Nat} {ws bs:List Str} {deep:Nat} {Q:Res->aF->Prop} (x:Ex k n S0 S) (hn:n+cs deep<1000000000) (hi:i≠k) (U:j≠k) (hw:S[i]?=some (.lst (ws.map D.str))) (hb:S[j]?=some (.lst (bs.map D.str))) (lw:ws.length<1000) (lb:bs.length<1000) (W:deep<m)
  (h:∀(t:Tr) (f:aF),t.Ok ws bs->t.dep<=deep+1->Ex k (n+cs deep) S0 f->Ex k (n+cs deep) S f->f.length=S.length->Q (.d t.d) f),Fn (bu m) [.ref k,.ref i,.ref j,.int deep] S Q
 |0,_,_,_,_,_,_,_,_,_,_,_,_,_,_,_,_,_,_,W,_=>absurd W (Nat.not_lt_zero _)
 | m+1,S,S0,k,n,i,j,ws,bs,deep,Q,x,hn,hi,U,hw,hb,lw,lb,W,h=>by
   have c4:=Nt deep
   have B:∀{K:Nat} (t:Tr) (f:aF),t.Ok ws bs->t.dep<=deep+1->Ex k K S f->K<=n+cs deep->Op (settle S t.d f) λp=>Q p.1 p.2:=λt f H h2 e a2=>su (e.mono a2) x t.noref (dk t.low) λg a b c=>h _ _ H h2 a b c
   refine cg ?_
   unfold rq
   symm
   apply bI x.here (by omega) (by decide) (by decide) λw S1 a3 N _ l1=> ?_
   have a1:=N.keep _ _ hi hw
   have a4:=N.keep _ _ U hb
   have A:∀g,Ex k (n+1) S g->T (aH (eS (g7 (aI (dB (a9 (aw 1)))) (aI (aW KC (aA aE (au (aw 0) (au (cF (.int 3)) ax))) (cF (.int 0))))) (cH (aA bx (au (aw 0) (au (aw 1) ax)))) fV)
     (cH (aA aE (au (aw 0) (au (aW jr (bT (bt (au (cF (.int 3)) (au (cF (.int 10)) ax)))) (A_ intOfD (au (aW (fP false) (aA aE (au (aw 0) (au (cF (.int 4)) ax))) (cF (.int 0))) ax))) ax)))))
     [some (.ref k),some (.ref i),some (.ref j),some (.int deep),some (.int w),none] g λo=>match o with|.rt d f=>Op (settle S d f) λp=>Q p.1 p.2|_=>False:=by
     intro g u
     have Z:=u.keep _ _ hi hw
     have y:∀P,Ex k (n+2) S P->T (cH (aA aE (au (aw 0) (au (aW jr (bT (bt (au (cF (.int 3)) (au (cF (.int 10)) ax)))) (A_ intOfD (au (aW (fP false) (aA aE (au (aw 0) (au (cF (.int 4)) ax))) (cF (.int 0))) ax))) ax))))
       [some (.ref k),some (.ref i),some (.ref j),some (.int deep),some (.int w),none] P λo=>match o with|.rt d f=>Op (settle S d f) λp=>Q p.1 p.2|_=>False:=by
       intro P X
       symm
       apply⟨by decide,?_⟩
       apply bI (X.app (G:= [O.lst [D.int 3,D.int 10]])) (by omega) (by decide) (by decide) λd S4 hd F M l4=> ?_
       apply eR ?_
       have Y:S4[P.length]?=some (.lst [.int 3,.int 10]):=M.keep _ _ (by have:=X.lt;omega) aL
       have W:∃m:Int,(m=3\/m=10)/\Op (intOfD [D.bl (decide ((d:Int)=0))]) (λz=>∃r,z=.int r/\jU ([.int 3,.int 10]:List D) r=some (.int m)):=by
         by_cases c:(d:Int)=0
         · exact⟨10,.inr rfl,_,rfl,1,by rw[Qeq c];rfl,rfl⟩
         · exact⟨3,.inl rfl,_,rfl,0,by rw[Qdq c];rfl,rfl⟩
       obtain⟨m,W,z,C,r,rfl,e6⟩:=W
       refine⟨_,C,?_⟩
       apply dr Y e6 ?_
       refine bI F (by omega) (by omega) (by omega) λv S5 hv C _ l5=> ?_
       dsimp only
       exact B (.num v) _ (by show v<=9;omega) (by show 1<=deep+1;omega) C (by omega)
     symm
     refine bG Z ?_
     refine⟨⟨rfl,Z⟩,?_⟩
     dsimp only
     refine aV (λc=> ?_) (λc=> ?_)
     · symm
       apply bI u (by omega) (by decide) (by decide) λd P hd X _ l3=> ?_
       refine aV (λc2=> ?_) (λc2=> ?_)
       · symm
         have L:0<(ws.map D.str).length:=by
           cases ws with
           |nil=>simp at c
           |cons a b=>simp
         refine eP X (by omega) hi (X.keep _ _ hi hw) L (by simpa using lw) dY fI λv S4 hv F _ l4=> ?_
         obtain⟨z,hz,rfl⟩:=Qkq.mp hv
         exact B (.word z) _ hz (by show 1<=deep+1;omega) F (by omega)
       · exact cy (y P X)
     · rw[Quq (by decide)]
       exact cy (y g (u.mono (by omega)))
   have go:∀{K:Nat} {R:Res->aF->Prop} {g:aF},Ex k K S g->K+cs (deep-1)<=n+cs deep->1<=deep->(∀(t:Tr) (f:aF),t.Ok ws bs->t.dep<=deep->Ex k (K+cs (deep-1)) S f->R (.d t.d) f)->Fn (bu m) [.ref k,.ref i,.ref j,.int ((deep:Int)-1)] g R:=by
     intro K R g u a2 hd hR
     have e:((deep:Int)-1)=((deep-1:Nat):Int):=by omega
     rw[e]
     exact g8 m u (by omega) hi U (u.keep _ _ hi hw) (u.keep _ _ U hb) lw lb (by omega) λt f H h2 h3 _ _=>hR t f H (by omega) h3
   have a0:∀g,Ex k (n+1) S g->1<=deep->T (aH (eS (g7 (aI (aW (fP false) (aw 4) (cF (.int 4)))) (aI (dB (a9 (aw 2))))) (cH (a8 (au (cF (.str "waits")) (au (aA bx (au (aw 0) (au (aw 2) ax))) ax)))) fV)
     (aH (eS (aI (aW (fP false) (aw 4) (cF (.int 5)))) (cH (a8 (au (cF (.str "not")) (au (aA (bu m) (au (aw 0) (au (aw 1) (au (aw 2) (au (aW oo (aw 3) (cF (.int 1))) ax))))) ax)))) fV)
     (aH (bg 5 (aW jr (bT (bt (au (cF (.str "plus")) (au (cF (.str "minus")) (au (cF (.str "less")) (au (cF (.str "same")) (au (cF (.str "both")) ax))))))) (aA aE (au (aw 0) (au (cF (.int 5)) ax)))))
     (cH (a8 (au (aw 5) (au (aA (bu m) (au (aw 0) (au (aw 1) (au (aw 2) (au (aW oo (aw 3) (cF (.int 1))) ax))))) (au (aA (bu m) (au (aw 0) (au (aw 1) (au (aw 2) (au (aW oo (aw 3) (cF (.int 1))) ax))))) ax))))))))
     [some (.ref k),some (.ref i),some (.ref j),some (.int deep),some (.int w),none] g λo=>match o with|.rt d f=>Op (settle S d f) λp=>Q p.1 p.2|_=>False:=by
     intro g u q
     have I:=u.keep _ _ U hb
     have ec:=MO q
     have a5:=Nt (deep-1)
     have J:T (aH (bg 5 (aW jr (bT (bt (au (cF (.str "plus")) (au (cF (.str "minus")) (au (cF (.str "less")) (au (cF (.str "same")) (au (cF (.str "both")) ax))))))) (aA aE (au (aw 0) (au (cF (.int 5)) ax)))))
       (cH (a8 (au (aw 5) (au (aA (bu m) (au (aw 0) (au (aw 1) (au (aw 2) (au (aW oo (aw 3) (cF (.int 1))) ax))))) (au (aA (bu m) (au (aw 0) (au (aw 1) (au (aw 2) (au (aW oo (aw 3) (cF (.int 1))) ax))))) ax))))))
       [some (.ref k),some (.ref i),some (.ref j),some (.int deep),some (.int w),none] g λo=>match o with|.rt d f=>Op (settle S d f) λp=>Q p.1 p.2|_=>False:=by
       symm
       apply⟨by decide,?_⟩
       refine bI (u.app (G:= [O.lst [.str "plus",.str "minus",.str "less",.str "same",.str "both"]])) (by omega) (by decide) (by decide) λd S4 hd F M l4=> ?_
       dsimp only
       obtain⟨o,s,C⟩:=KJ hd
       refine dr (M.keep _ _ (by have:=u.lt;omega) aL) C ?_
       symm
       apply go F (by omega) q λt1 S5 H h2 C=> ?_
       apply go C (by omega) q λt2 S6 h3 h4 e6=> ?_
       refine⟨by show 3<=_;decide,?_⟩
       exact B (.two o t1 t2) _ ⟨s,H,h3⟩ (by simp only[Tr.dep];omega) e6 (by omega)
     have l:T (aH (eS (aI (aW (fP false) (aw 4) (cF (.int 5)))) (cH (a8 (au (cF (.str "not")) (au (aA (bu m) (au (aw 0) (au (aw 1) (au (aw 2) (au (aW oo (aw 3) (cF (.int 1))) ax))))) ax)))) fV)
       (aH (bg 5 (aW jr (bT (bt (au (cF (.str "plus")) (au (cF (.str "minus")) (au (cF (.str "less")) (au (cF (.str "same")) (au (cF (.str "both")) ax))))))) (aA aE (au (aw 0) (au (cF (.int 5)) ax)))))
       (cH (a8 (au (aw 5) (au (aA (bu m) (au (aw 0) (au (aw 1) (au (aw 2) (au (aW oo (aw 3) (cF (.int 1))) ax))))) (au (aA (bu m) (au (aw 0) (au (aw 1) (au (aw 2) (au (aW oo (aw 3) (cF (.int 1))) ax))))) ax)))))))
       [some (.ref k),some (.ref i),some (.ref j),some (.int deep),some (.int w),none] g λo=>match o with|.rt d f=>Op (settle S d f) λp=>Q p.1 p.2|_=>False:=by
       symm
       refine eR ?_
       dsimp only
       refine aV (λc=> ?_) (λc=> ?_)
       · symm
         apply go u (by omega) q λt S5 H h2 C=> ?_
         refine⟨by show 2<=_;decide,?_⟩
         exact B (.no t) _ H (by simp only[Tr.dep];omega) C (by omega)
       · exact cy J
     symm
     refine eR ?_
     dsimp only
     refine aV (λc=> ?_) (λc=> ?_)
     · symm
       refine bG I ?_
       refine⟨⟨rfl,I⟩,?_⟩
       dsimp only
       refine aV (λc=> ?_) (λc=> ?_)
       · symm
         have L:0<(bs.map D.str).length:=by
           cases bs with
           |nil=>simp at c
           |cons a b=>simp
         refine eP u (by omega) U I L (by simpa using lb) dY fI λv S4 hv F _ l4=> ?_
         obtain⟨z,hz,rfl⟩:=Qkq.mp hv
         symm
         refine⟨by show 2<=_;decide,?_⟩
         exact B (.waits z) _ hz (by show 1<=deep+1;omega) F (by omega)
       · exact cy l
     · rw[Quq (by decide)]
       exact cy l
   refine eR ?_
   dsimp only
   refine aV (λc=> ?_) (λc=> ?_)
   · rw[Qhq rfl]
     exact(A S1 N).mono λo s=>by
       cases o with
       |rt d f=>exact s
       |_=>exact s.elim
   · have q:1<=deep:=by
       have:=QaQ c
       omega
     symm
     refine aV (λc2=> ?_) (λc2=> ?_)
     · exact(A S1 N).mono λo s=>by
         cases o with
         |rt d f=>exact s
         |_=>exact s.elim
     · apply b_ (Mq ?_)
       apply bG a1 ?_
       refine⟨by decide,?_⟩
       refine⟨⟨rfl,rfl,a1⟩,ws.map V.str,[],FT _,rfl,?_⟩
       refine aV (λc3=> ?_) (λc3=> ?_)
       · exact(A S1 N).mono λo s=>by
           cases o with
           |rt d f=>exact s
           |_=>exact s.elim
       · refine cy ?_
         exact(a0 S1 N q).mono λo s=>by
           cases o with
           |rt d f=>exact s
           |_=>exact s.elim
inductive Rw where
 |put (x:Str) (t:Tr)|unl (t:Tr) (n:Nat)|go (n:Nat)|do_ (g:Option Str) (r d:Str) (t:Tr)|wait (b:Str) (t:Tr)|call (b:Str)|all (b:Str)|tell (t:Tr)
 |take (p:Str)|give (p:Str)|pass (p q:Str)|say (t:Tr)
def HN:Option Str->D
 |none=>.non
 |some x=>.str x
def Rw.d:Rw->D
 |.put x t=>.tup [.str "put",.str x,t.d]
 |.unl t n=>.tup [.str "unless",t.d,.int n]
 |.go n=>.tup [.str "go",.int n]
 |.do_ g r d t=>.tup [.str "do",HN g,.str r,.str d,t.d]
 |.wait b t=>.tup [.str "wait",.str b,t.d]
 |.call b=>.tup [.str "call",.str b]
 |.all b=>.tup [.str "all",.str b]
 |.tell t=>.tup [.str "tell",t.d]
 |.take p=>.tup [.str "take",.str p]
 |.give p=>.tup [.str "give",.str p]
 |.pass p q=>.tup [.str "pass",.str p,.str q]
 |.say t=>.tup [.str "say",t.d]
structure Sc where
 own:Bool
 ws:List Str
 ps:List Str
 bs:List Str
 gs:List (Str×Str)
 ts:List Str
def FG(sc:Sc)(t:Tr):Prop:=t.Ok sc.ws sc.bs/\t.dep<=4
def Rw.Ok(sc:Sc)(n:Nat):Rw->Prop
 |.put x t=>x∈sc.ps/\FG sc t
 |.unl t m=>FG sc t/\m<=n
 |.go m=>m<=n
 |.do_ g r d t=>(∀x,g=some x->x∈sc.ps)/\(r,d)∈sc.gs/\FG sc t
 |.wait b t=>sc.own=false/\b∈sc.bs/\FG sc t
 |.call b=>sc.own=false/\b∈sc.bs
 |.all b=>sc.own=false/\b∈sc.bs
 |.tell t=>sc.own=false/\FG sc t
 |.take p=>sc.own=true/\p∈sc.ts
 |.give p=>sc.own=true/\p∈sc.ts
 |.pass p q=>sc.own=true/\p∈sc.ts/\q∈sc.ts
 |.say t=>sc.own=true/\FG sc t
def Rw.Ok.mono{sc:Sc}{n m:Nat}{r:Rw}(h:r.Ok sc n)(l:n<=m):r.Ok sc m:=by
 cases r with
 |unl t k=>exact⟨h.1,QAq h.2 l⟩
 |go k=>exact QAq h l
 |_=>exact h
theorem Rw.low(r:Rw):cb 0 r.d=true:=by
 cases r with
 |do_ g r d t=>cases g <;>simp only[Rw.d,cb,bS,HN,t.low,Bool.and_true,Bool.true_and]
 |_=>simp only[Rw.d,cb,bS,Tr.low,Bool.and_true,Bool.true_and]
def ui(sc:Sc)(rs:List Rw):Prop:=∀r∈rs,r.Ok sc rs.length
def MX{k n m r:Nat}{S d g:aF}{ds:List D}{Q:Res->aF->Prop}(e:Ex k n S d)(x:Ex k m g S)(s:S.length<=r)(o:d[r]?=some (.lst ds))(hl:bS S.length ds=true)(q:∀S2,Ex k n g S2->Ex k n S S2->S2.length=S.length->Q (.l ds) S2):Op (settle S (.ref r) d) λp=>Q p.1 p.2:=by
 obtain⟨j,a,b,c,h,f,i⟩:=e.clean x.lt
 refine⟨(.l ds,d.take S.length),?_,?_⟩
 ·unfold DL.settle
  rw[Qhq j]
  show(if r<S.length then _ else _)=_
  rw[Quq (by omega),o]
  show(if bS S.length ds=true then _ else _)=_
  rw[Qhq hl]
 ·rw[i]
  exact q _ (x.set h f) (x.here.set h f) (by simp)
def y1{ws bs:List Str}:∀t:Tr,t.Ok ws []->t.Ok ws bs:=by
 intro t
 induction t with
 |num n=>exact id
 |word x=>exact id
 |waits b=>intro z;cases z
 |no t e=>exact e
 |two o a b d c=>exact λz=>⟨z.1,d z.2.1,c z.2.2⟩
def HZ{S L:aF}{k n i j:Nat}{e:Nat}{sc:Sc}{Q:Res->aF->Prop}(x:Ex k n L S)(hn:n<999999000)(hi:i≠k)(F:j≠k)(R:S[i]?=some (.lst (sc.ws.map D.str)))(P:S[j]?=some (.lst (sc.bs.map D.str)))(H:sc.ws.length<1000)(W:sc.bs.length<1000)(b0:0<sc.bs.length)(Z:(("given":Str))∈sc.ws)(I:sc.own=false)
  (h:∀(rs:List Rw) (u:aF),(∀r∈rs,r.Ok sc (e+rs.length))->1<=rs.length->rs.length<=3->Ex k (n+35) L u->Ex k (n+35) S u->u.length=S.length->Q (.l (rs.map Rw.d)) u):Fn kD [.ref k,.ref i,.ref j,.int e] S Q:=by
 have c1:cs 1=10:=rfl
 have c2:cs 2=22:=rfl
 refine cg ?_
 unfold m4
 symm
 refine eP x.here (by omega) F P (by simpa using b0) (by simpa using W) dY fI λv S1 hv y _ l1=> ?_
 obtain⟨z,N,rfl⟩:=Qkq.mp hv
 symm
 apply g8 4 (deep:=1) y (by omega) hi F (y.keep _ _ hi R) (y.keep _ _ F P) H W (by decide) λt M Y h2 J _ l2=> ?_
 refine⟨by show 3<=_;decide,?_⟩
 symm
 refine bI (J.app (G:= [O.lst [.int 0,.str "given",t.d]])) (by omega) (by decide) (by decide) λd S3 hd e3 A l3=> ?_
 dsimp only
 have X:∃f:Tr,FG sc f/\jU ([.int 0,.str "given",t.d]:List D) (d:Int)=some f.d:=by
  rcases d with _|_|_|d
  ·exact⟨.num 0,⟨by show 0<=9;omega,by show 1<=4;omega⟩,rfl⟩
  ·exact⟨.word "given",⟨Z,by show 1<=4;omega⟩,rfl⟩
  ·exact⟨t,⟨Y,by omega⟩,rfl⟩
  ·omega
 obtain⟨f,p,ha⟩:=X
 refine dr (A.keep _ _ (by have:=J.lt;omega) aL) ha ?_
 symm
 apply bI e3 (by omega) (by decide) (by decide) λo S4 K s _ l4=> ?_
 refine eR ?_
 dsimp only
 refine aV (λc=> ?_) (λc=> ?_)
 ·symm
  refine⟨by show 3<=_;decide,?_⟩
  symm
  refine⟨by show 1<=_;decide,?_⟩
  refine Je (ds:= [Rw.d (.wait z f)]) (s.mono (m:=n+35) (by omega)) x (by simp only[bS,dk (Rw.low _),Bool.and_true]) λM a b c=> ?_
  refine h [.wait z f] _ (λr q=> ?_) (by simp) (by simp) a b c
  rw[Qfq.mp q]
  exact⟨I,N,p⟩
 ·symm
  apply⟨by decide,?_⟩
  refine g8 4 (deep:=2) (bs:= []) (s.app (G:= [O.lst []])) (by omega) hi (j:=S4.length) (by have:=s.lt;omega) (aM (s.keep _ _ hi R)) aL H (by decide) (by decide) λw S5 h3 h4 U _ l5=> ?_
  symm
  refine⟨by show 2<=_;decide,?_⟩
  symm
  refine⟨by show 3<=_;decide,?_⟩
  symm
  refine⟨by show 3<=_;decide,?_⟩
  symm
  refine⟨by show 2<=_;decide,?_⟩
  symm
  apply eR ?_
  obtain⟨g,a0,v',C,B⟩:∃g:Nat,(g=e\/g=e+3)/\∃v:Int,intOfD [D.bl (decide ((o:Int)=1))]=some (.int v)/\jU ([.int e,.int ((e:Int)+3)]:List D) v=some (.int (g:Nat)):=by
   by_cases c:(o:Int)=1
   ·exact⟨e+3,.inr rfl,1,by rw[Qeq c];rfl,rfl⟩
   ·exact⟨e,.inl rfl,0,by rw[Qdq c];rfl,rfl⟩
  refine⟨_,C,?_⟩
  apply dr aL B ?_
  refine⟨by show 2<=_;decide,?_⟩
  symm
  refine⟨by show 3<=_;decide,?_⟩
  symm
  refine MX (ds:=([.unl (.no w) (e+3),.wait z f,.go g]:List Rw).map Rw.d) ((U.app.app).mono (m:=n+35) (by omega)) x (by have:=U.len;simp;omega) aL (bc λr _=>dk r.low) λM a b c=> ?_
  refine h [.unl (.no w) (e+3),.wait z f,.go g] _ (λr q=> ?_) (by simp) (by simp) a b c
  simp only[Qsq,QXq,or_false] at q
  have hl:([.unl (.no w) (e+3),.wait z f,.go g]:List Rw).length=3:=rfl
  rcases q with rfl|rfl|rfl
  ·exact⟨⟨y1 _ h3,by show w.dep+1<=4;omega⟩,by rw[hl];exact Qmq _⟩
  ·exact⟨I,N,p⟩
  ·show g<=e+3
   omega
end W28
namespace DL
open PySem PySem.Spec L2
def Fk{c:cN}{S:aF}{f:bE}{g:dF}{Q:D->aF->Prop}(h:E f c S λx b=>∃k a,x=.ref k/\b[k]?=some (.lst a)/\E g c b λp S2=>∃ds,S2[k]?=some (.lst ds)/\(p.2.isM=true/\ds.length+p.1.length<=sizeLine)/\Q .non (S2.set k (.lst (ds++p.1)))):E (Cb f g) c S Q:=by
 obtain⟨x,b,d,k,a,rfl,h1,p,S2,e2,ds,h2,h3,q⟩:=h
 exact⟨_,_,by unfold Cb;rw[d];simp only[Qbq,e2,h1,h2];rw[Qhq h3],q⟩
def Fe{b:cN}{S:aF}{f g:bE}{Q:D->aF->Prop}(h:E f b S λd a=>∃k,d=.bl k/\if k=true then E g b a Q else Q (.bl false) a):E (Ei f g) b S Q:=by
 obtain⟨d,a,c,k,rfl,q⟩:=h
 cases k with
 |true=>obtain⟨j,e,i,q⟩:=(q:E g b a Q);exact⟨j,e,by unfold Ei;rw[c];exact i,q⟩
 |false=>exact⟨_,a,by unfold Ei;rw[c];rfl,q⟩
end DL
namespace W28
open PySem PySem.Spec L2 DL
def fL:List Str:= ["given"]
def yt{d:cN}{S:aF}{i j l:Nat}{w m:Int}{ds:List D}{Q:Bool->aF->Prop}(hi:d[i]?=some (some (.int w)))(f:d[j]?=some (some (.ref l)))(e:S[l]?=some (.lst ds))(q:∀c,(c=true->0<ds.length)->Q c S):
  E (g7 (aI (aW Ej (aw i) (cF (.int m)))) (aI (dB (a9 (aw j))))) d S Q:=by
 refine mf (b_ (cc (aK hi (fQ (nF ?_)))))
 refine aV (λc=> ?_) λc=>q false λz=>(nomatch z)
 refine b_ (yV (dt (aK f (bG e ⟨⟨rfl,e⟩,q _ λz=> ?_⟩))))
 cases ds with
 |nil=>cases z
 |cons a b=>simp
def CN{d:cN}{S:aF}{i j l:Nat}{w m:Int}{ds:List D}{Q:Bool->aF->Prop}(hi:d[i]?=some (some (.int w)))(f:d[j]?=some (some (.ref l)))(e:S[l]?=some (.lst ds))(q:∀c,(c=true->0<ds.length)->Q c S):
  E (g7 (aI (aW (fP false) (aw i) (cF (.int m)))) (aI (dB (a9 (aw j))))) d S Q:=by
 refine mf (b_ (cc (aK hi (fQ (eR ?_)))))
 refine aV (λc=> ?_) λc=>q false λz=>(nomatch z)
 refine b_ (yV (dt (aK f (bG e ⟨⟨rfl,e⟩,q _ λz=> ?_⟩))))
 cases ds with
 |nil=>cases z
 |cons a b=>simp
def FE{a:cN}{S:aF}{i:Nat}{w m:Int}{Q:Bool->aF->Prop}(hi:a[i]?=some (some (.int w)))(q:∀c,Q c S):E (aI (aW (fP false) (aw i) (cF (.int m)))) a S Q:=b_ (cc (aK hi (fQ (eR (q _)))))
def zV{d:cN}{S:aF}{j l:Nat}{ds:List D}{Q:Bool->aF->Prop}(f:d[j]?=some (some (.ref l)))(e:S[l]?=some (.lst ds))(q:∀c,(c=true->0<ds.length)->Q c S):
  E (aI (dB (a9 (aw j)))) d S Q:=by
 refine b_ (yV (dt (aK f (bG e ⟨⟨rfl,e⟩,q _ λz=> ?_⟩))))
 cases ds with
 |nil=>cases z
 |cons a b=>simp
abbrev Lt:=Str×Nat×List Str
def El(p:Lt):D:=.tup [.str p.1,.ref p.2.1]
def DE(L:List Lt):List (Str×Str):=L.flatMap λp=>p.2.2.map λd=>(p.1,d)
def uP(k:Nat)(S:aF)(p:Lt):Prop:=p.2.1≠k/\S[p.2.1]?=some (.lst (p.2.2.map D.str))/\0<p.2.2.length/\p.2.2.length<100
def uP.ex{k n:Nat}{S a:aF}{p:Lt}(h:uP k S p)(e:Ex k n S a):uP k a p:=⟨h.1,e.keep _ _ h.1 h.2.1,h.2.2⟩
def Jx{L:List Lt}{p:Lt}{d:Str}(h:p∈L)(hd:d∈p.2.2):(p.1,d)∈DE L:=QOq.mpr ⟨p,h,Qkq.mpr ⟨d,hd,rfl⟩⟩
def GO{L:List Lt}:∀d∈L.map El,∀k,d≠.ref k:=λd b=>by
 obtain⟨a,_,rfl⟩:=Qkq.mp b
 exact λk z=>(nomatch z)
def Kt{L:List Lt}{k:Nat}{S:aF}(h:∀p∈L,uP k S p):∀d∈L.map El,cb S.length d=true:=λd b=>by
 obtain⟨a,c,rfl⟩:=Qkq.mp b
 simp only[El,cb,bS,Bool.true_and,Bool.and_true]
 exact Qeq (gQs.mp (h a c).2.1).1
def yd{ws:List Str}:∀d∈([.non]++ws.map D.str:List D),∃o:Option Str,d=HN o/\∀z,o=some z->z∈ws:=λd b=>by
 rcases mQa.mp b with b|b
 ·rw[Qfq.mp b]
  exact⟨none,rfl,λz c=>by cases c⟩
 ·obtain⟨a,e,rfl⟩:=Qkq.mp b
  exact⟨some a,rfl,λz c=>by cases c;exact e⟩
def km{ws:List Str}{m:Nat}:∀d∈([.non]++ws.map D.str:List D),(∀k,d≠.ref k)/\cb m d=true:=λd a=>by
 obtain⟨o,rfl,_⟩:=yd d a
 cases o <;>exact⟨λk z=>(nomatch z),rfl⟩
def Ha{S S0:aF}{k n t b g:Nat}{ah:Str}{ar aa:List Str}{L:List Lt}{Q:Res->aF->Prop}(x:Ex k n S0 S)(hn:n<999990000)(nt:t≠k)(nb:b≠k)(ng:g≠k)(gt:S[t]?=some (.lst (ar.map D.str)))(gb:S[b]?=some (.lst (aa.map D.str)))(gg:S[g]?=some (.lst (L.map El)))
  (hL:∀p∈L,uP k S p) (lt:ar.length<500) (lb:aa.length<500) (lg:L.length<500)
  (h:∀(rs:List Rw) (S':aF),ui ⟨false,ar++fL,ar,aa,DE L,[]⟩ rs->0<rs.length->rs.length<=12->Ex k (n+110) S0 S'->Ex k (n+110) S S'->S'.length=S.length->Q (.d (.tup (rs.map Rw.d))) S'):
  Fn kf [.ref k,.tup [.str ah,.ref t,.ref b],.ref g,.int 3] S Q:=by
 have K:cs 1=10:=rfl
 have c2:cs 2=22:=rfl
 have kl:=x.lt
 have tl:=(gQs.mp gt).1
 have bl:=(gQs.mp gb).1
 have gl:=(gQs.mp gg).1
 generalize Y:(⟨false,ar++fL,ar,aa,DE L,[]⟩:Sc)=sc at h
 have so:sc.own=false:=by rw[←Y]
 have sw:sc.ws=ar++fL:=by rw[←Y]
 have sp:sc.ps=ar:=by rw[←Y]
 have sb:sc.bs=aa:=by rw[←Y]
 have sg:sc.gs=DE L:=by rw[←Y]
 refine cg ?_
 unfold nq
 symm
 apply fm rfl (aC (a_ (aC (a_ (aC (a_ (bH ?_)))))))
 apply rT ?_
 apply bG gt ?_
 refine⟨by decide,?_⟩
 refine⟨⟨rfl,rfl,gt,by simp only[lQm,Qnq,QGq];exact QAq (show ar.length+(0+1)<=1000 by omega) (by decide)⟩,?_⟩
 symm
 refine⟨by decide,?_⟩
 have ew:ar.map D.str++ [D.str "given"]=sc.ws.map D.str:=by rw[sw];simp[fL]
 rw[ew]
 have e0:Ex k n S (S++ [O.lst (sc.ws.map D.str)]++ [O.lst []]):=x.here.app.app
 generalize hr:S.length+1=r
 have Z:(S++ [O.lst (sc.ws.map D.str)]).length=r:=by simp[hr]
 rw[Z]
 have iw:(S++ [O.lst (sc.ws.map D.str)]++ [O.lst []])[S.length]?=some (.lst (sc.ws.map D.str)):=aM aL
 have ir:(S++ [O.lst (sc.ws.map D.str)]++ [O.lst []])[r]?=some (.lst []):=by rw[←Z];exact aL
 have il:(S++ [O.lst (sc.ws.map D.str)]++ [O.lst []]).length=r+1:=by simp[←hr]
 generalize (S++ [O.lst (sc.ws.map D.str)]++ [O.lst []])=S1 at e0 iw ir il⊢
 apply bC (hU ?_)
 apply bI e0 (by omega) (by decide) (by decide) λb0 S2 e9 e2 c5 l2=> ?_
 refine⟨_,rfl,⟨by omega,by omega⟩,?_⟩
 have N:r≠k:=by omega
 have F:S.length≠k:=by omega
 let Inv:Nat->cN->aF->Prop:=λi b2 S'=>∃(o9 b3 b4 a4 a5 a7:Option D) (rs:List Rw),b2= [some (.ref k),some (.tup [.str ah,.ref t,.ref b]),some (.ref g),some (.int 3),some (.str ah),some (.ref t),some (.ref b),some (.ref S.length),some (.ref r),o9,b3,b4,a4,a5,a7]∧
  Ex k (n+1+36*i) S S'/\S'[S.length]?=some (.lst (sc.ws.map D.str))/\S'[r]?=some (.lst (rs.map Rw.d))/\rs.length<=3*i/\i<=rs.length/\i<=3/\∀q∈rs,q.Ok sc rs.length
 refine⟨Inv,⟨_,_,_,_,_,_,[],rfl,e2,c5.keep _ _ F iw,c5.keep _ _ N ir,by simp,by simp,by omega,by simp⟩,λ_ _ _ _=>trivial,?_,?_⟩
 ·rintro i d b2 S3 hd ⟨o9,b3,b4,a4,a5,a7,rs,rfl,e3,hw3,hr3,hl1,hl2,hn4,hok⟩
  have f8:i<3:=by
   have:=(gQs.mp hd).1
   simp only[ia,lQm,QVq] at this
   omega
  apply a_ ?_
  refine bI e3 (by omega) (by decide) (by decide) λc3 S4 f9 R d8 l4=> ?_
  dsimp only
  have B:=d8.keep _ _ F hw3
  have y:=d8.keep _ _ N hr3
  have d9:=R.keep _ _ nt gt
  have M:=R.keep _ _ nb gb
  have d3:=R.keep _ _ ng gg
  have b1:S4[t]?=some (.lst (sc.ps.map D.str)):=by rw[sp];exact d9
  rw[←sb] at M
  have C:∀{n':Nat} (ms:List Rw) (d4 d5 c4 b8:Option D) (A:aF),Ex k n' S A->n'<=n+1+36*(i+1)->A[S.length]?=some (.lst (sc.ws.map D.str))->A[r]?=some (.lst (rs.map Rw.d++ms.map Rw.d))->1<=ms.length->ms.length<=3->(∀q∈ms,q.Ok sc (rs.length+ms.length))→
    Inv (i+1) [some (.ref k),some (.tup [.str ah,.ref t,.ref b]),some (.ref g),some (.int 3),some (.str ah),some (.ref t),some (.ref b),some (.ref S.length),some (.ref r),some d,some (.int c3),d4,d5,c4,b8] A:=by
   intro n' ms d4 d5 c4 b8 A J d6 h1 h2 h3 h4 h5
   refine⟨_,_,_,_,_,_,rs++ms,rfl,J.mono d6,h1,by rw[h2,Qzq],by rw[lQa];omega,by rw[lQa];omega,by omega,λq hq=> ?_⟩
   rw[lQa]
   rcases mQa.mp hq with hq|hq
   ·exact(hok q hq).mono (by omega)
   ·exact h5 q hq
  have w:∀m:Nat,m<=100->m<sizeLine:=λm hm=>Nat.lt_of_le_of_lt hm (by decide)
  have l9:rs.length<=9:=by omega
  have lr:(rs.map Rw.d).length=rs.length:=by simp
  have a0:∀{t':Tr},t'.Ok sc.ws sc.bs->t'.dep<=3->FG sc t':=λh1 h2=>⟨h1,by omega⟩
  have U:sc.ws.length<1000:=by rw[sw];simp[fL];omega
  have a6:sc.bs.length<1000:=by rw[sb];omega
  refine dZ (yt rfl rfl M λc hc=>aV (λK=> ?_) (λK=> ?_))
  ·
   apply iZ (Fk ?_)
   apply⟨_,_,rfl,y,?_⟩
   apply bG y ?_
   rw[lr]
   refine HZ (sc:=sc) R (by omega) F nb B M U a6 (by simpa using hc K) (by rw[sw];simp[fL]) so λms A h1 f1 h2 J e l5=> ?_
   dsimp only
   have H:=e.keep _ _ N y
   refine⟨_,H,⟨rfl,?_⟩,?_⟩
   ·simp only[lQm]
    exact nQl (w _ (by omega))
   ·exact C ms _ _ _ _ _ (J.put (by omega) kl) (by omega) (gX (by omega) (e.keep _ _ F B)) (cM H) f1 h2 h1
  refine dZ (yt rfl rfl M λc hc=>aV (λK=> ?_) (λK=> ?_))
  ·apply bC (lC ?_)
   refine⟨by decide,?_⟩
   have d7:∀(v0:Bool) (n':Nat) (A:aF),Ex k n' S A->n'<=n+1+36*i+2->A[S.length]?=some (.lst (sc.ws.map D.str))->A[r]?=some (.lst (rs.map Rw.d))->A[S4.length]?=some (.lst [.str "call",.str "all"])→
     Op (intOfD [.bl v0]) λd1=>Op (jr A (.ref S4.length) d1) λX=>T (m8 (rQ fX (aw 8) (au (a8 (au (aw 11) (au (aA bx (au (aw 0) (au (aw 6) ax))) ax))) ax))) [some (.ref k),some (.tup [.str ah,.ref t,.ref b]),some (.ref g),some (.int 3),some (.str ah),some (.ref t),some (.ref b),some (.ref S.length),some (.ref r),some d,some (.int c3),some X,a4,a5,a7] A λo=>match o with|.nx W S3=>Inv (i+1) W S3|_=>False:=by
    intro v0 n' A J d6 f4 H f3
    obtain⟨v,hv,f6⟩:∃v:Nat,v<=1/\intOfD [.bl v0]=some (.int v):=by
     cases v0 with
     |true=>exact⟨1,by omega,rfl⟩
     |false=>exact⟨0,by omega,rfl⟩
    refine⟨_,f6,?_⟩
    have f7:∃(f:Str->Rw) (s:Str),(∀z,(f z).d=.tup [.str s,.str z])/\(∀z n,z∈sc.bs->(f z).Ok sc n)/\jU ([.str "call",.str "all"]:List D) (v:Int)=some (.str s):=by
     rcases v with _|_|v
     ·exact⟨.call,"call",λ_=>rfl,λz n hz=>⟨so,hz⟩,rfl⟩
     ·exact⟨.all,"all",λ_=>rfl,λz n hz=>⟨so,hz⟩,rfl⟩
     ·omega
    obtain⟨f,s,hf,e1,hs⟩:=f7
    refine dr f3 hs ?_
    apply iZ (jA ?_)
    apply⟨_,_,rfl,H,?_⟩
    refine eP J (by omega) nb (J.keep _ _ nb (by rw[sb];exact gb)) (hc K) (by simp;omega) dY fI λv2 S6 b5 e6 l l6=> ?_
    obtain⟨z,hz,rfl⟩:=Qkq.mp b5
    symm
    refine⟨by show 2<=_;decide,?_⟩
    symm
    have u:=l.keep _ _ N H
    refine⟨_,u,dR (w _ (by rw[lr];omega)) ?_⟩
    refine C [f z] _ _ _ _ _ (e6.put (by omega) kl) (by omega) (gX (by omega) (l.keep _ _ F f4)) ?_ (by simp) (by simp) λq' I=>by rw[Qfq.mp I];exact e1 _ _ hz
    rw[cM u]
    simp[hf]
   have up:∀{P Q:D->Prop} {v:Bool} {A:aF},(Op (intOfD [.bl v]) λX=>Op (jr A (.ref S4.length) X) P)->(∀X,P X->Q X)->Op (intOfD [.bl v]) λX=>Op (jr A (.ref S4.length) X) Q:=λ{P Q v A} hp hi=>by
    obtain⟨d1,a1,X,a2,p⟩:=hp
    exact⟨d1,a1,X,a2,hi _ p⟩
   have tm:∀{f:cX} {Γ:cN} {A:aF} {Q:Out->Prop},(T f Γ A λo=>match o with|.nx W S3=>Inv (i+1) W S3|_=>False)->(∀W S3,Inv (i+1) W S3->Q (.nx W S3))->T f Γ A Q:=λht hi=>ht.mono λo ho=>by
    cases o with
    |nx a b=>exact hi _ _ ho
    |_=>exact ho.elim
   refine Oa (bX (Fe (cc (aK rfl (fQ (ji ⟨_,rfl,?_⟩))))))
   refine aV (λc=> ?_) (λc=> ?_)
   ·symm
    apply bI (R.app (G:= [O.lst [.str "call",.str "all"]])) (by omega) (by decide) (by decide) λv A hv J e l5=> ?_
    apply eR ?_
    refine up (d7 _ _ A J (by omega) (e.keep _ _ F (aM B)) (e.keep _ _ N (aM y)) (e.keep _ _ (by have:=R.lt;omega) aL)) λX h2=> ?_
    exact tm h2 λ_ _ z=>z
   ·refine fF ?_
    refine up (d7 false _ _ (R.app (G:= [O.lst [.str "call",.str "all"]])) (by omega) (aM B) (aM y) aL) λX h2=> ?_
    exact tm h2 λ_ _ z=>z
  refine dZ (CN rfl rfl d3 λc hc=>aV (λK=> ?_) (λK=> ?_))
  ·have d0:∀p∈L,uP k S4 p:=λp hp=>(hL p hp).ex R
   apply bC (NV ?_)
   refine eP R (by omega) ng d3 (hc K) (by simp;omega) GO (Kt d0) λv A hv J e l5=> ?_
   obtain⟨p,hp,rfl⟩:=Qkq.mp hv
   have a3:=(d0 p hp).ex e
   dsimp only
   apply fm rfl (aC (a_ (aC (a_ (bH ?_)))))
   apply rT ?_
   apply⟨by decide,?_⟩
   refine bG (J.keep _ _ nt (by rw[←sp] at gt;exact gt)) ?_
   refine⟨⟨rfl,rfl,trivial,by simp only[lQm,Qnq,QGq];exact QAq (show 0+1+sc.ps.length<=1000 by rw[sp];omega) (by decide)⟩,?_⟩
   symm
   refine eP (i:=A.length) (J.app (G:= [O.lst ([.non]++sc.ps.map D.str)])) (by omega) (by have:=J.lt;omega) aL (by simp) (by rw[sp];simp;omega) (λd hd=>(km (m:=0) d hd).1) (λd hd=>(km d hd).2) λv2 S6 b5 e6 l l6=> ?_
   obtain⟨o,rfl,ho⟩:=yd v2 b5
   have u:=l.keep _ _ N (aM (e.keep _ _ N y))
   have c6:=l.keep _ _ F (aM (e.keep _ _ F B))
   have f5:=l.keep _ _ a3.1 (aM a3.2.1)
   dsimp only
   apply iZ (jA ?_)
   apply⟨_,_,rfl,u,?_⟩
   refine eP e6 (by omega) a3.1 f5 (by simpa using a3.2.2.1) (by simp;have:=a3.2.2.2;omega) dY fI λv3 S7 f2 e7 b6 l7=> ?_
   obtain⟨dd,f0,rfl⟩:=Qkq.mp f2
   symm
   apply⟨by decide,?_⟩
   refine g8 4 (deep:=1) (bs:= []) (e7.app (G:= [O.lst []])) (by omega) F (j:=S7.length) (by have:=e7.lt;omega) (aM (b6.keep _ _ F c6)) aL U (by decide) (by decide) λt3 S8 h3 h4 e8 b9 l8=> ?_
   symm
   refine⟨by show 5<=_;decide,?_⟩
   symm
   have c0:=b9.keep _ _ N (aM (b6.keep _ _ N u))
   refine⟨_,c0,dR (w _ (by rw[lr];omega)) ?_⟩
   exact C [.do_ o p.1 dd t3] _ _ _ _ _ (e8.put (by omega) kl) (by omega) (gX (by omega) (b9.keep _ _ F (aM (b6.keep _ _ F c6)))) (cM c0) (by simp) (by simp) λq' I=>by rw[Qfq.mp I];exact⟨ho,by rw[sg];exact Jx hp f0,a0 (y1 _ h3) (by omega)⟩
  refine dZ (FE rfl λc=>aV (λK=> ?_) (λK=> ?_))
  ·apply iZ (jA ?_)
   apply⟨_,_,rfl,y,?_⟩
   apply g8 4 (deep:=1) R (by omega) F nb B M U a6 (by decide) λt3 S6 h3 h4 e6 l l6=> ?_
   refine⟨by show 2<=_;decide,?_⟩
   symm
   have u:=l.keep _ _ N y
   refine⟨_,u,dR (w _ (by rw[lr];omega)) ?_⟩
   exact C [.tell t3] _ _ _ _ _ (e6.put (by omega) kl) (by omega) (gX (by omega) (l.keep _ _ F B)) (cM u) (by simp) (by simp) λq' I=>by rw[Qfq.mp I];exact⟨so,a0 h3 (by omega)⟩
  refine dZ (FE rfl λc=>aV (λK=> ?_) (λK=> ?_))
  ·apply bC (iZ (jA ?_))
   apply⟨_,_,rfl,y,?_⟩
   apply g8 4 (deep:=2) R (by omega) F nb B M U a6 (by decide) λt3 A h3 h4 J e l5=> ?_
   have H:=e.keep _ _ N y
   apply bG H ?_
   refine⟨by show 3<=_;decide,?_⟩
   symm
   refine⟨_,H,dR (w _ (by rw[lr];omega)) ?_⟩
   dsimp only
   apply iZ (jA ?_)
   apply⟨_,_,rfl,cM H,?_⟩
   apply bI (J.put (r:=r) (by omega) kl) (by omega) (by decide) (by decide) λv S6 hv e6 l l6=> ?_
   refine⟨by show 2<=_;decide,?_⟩
   symm
   have u:=l.keep _ _ N (cM H)
   refine⟨_,u,dR (w _ (by simp;omega)) ?_⟩
   refine C [.unl t3 (rs.length+2),.tell (.num v)] _ _ _ _ _ (e6.put (by omega) kl) (by omega) (gX (by omega) (l.keep _ _ F (gX (by omega) (e.keep _ _ F B)))) ?_ (by simp) (by simp) λq hq=> ?_
   ·rw[cM u]
    simp[Rw.d,Tr.d]
   ·simp only[Qsq,QXq,or_false] at hq
    rcases hq with rfl|rfl
    ·exact⟨a0 h3 (by omega),by show rs.length+2<=rs.length+2;omega⟩
    ·exact⟨so,by show v<=9;omega,by show 1<=4;omega⟩
  refine dZ (zV rfl b1 λc hc=>aV (λK=> ?_) (λK=> ?_))
  ·apply iZ (jA ?_)
   apply⟨_,_,rfl,y,?_⟩
   refine eP R (by omega) nt b1 (hc K) (by rw[sp];simp;omega) dY fI λv A hv J e l5=> ?_
   obtain⟨z,hz,rfl⟩:=Qkq.mp hv
   symm
   apply g8 4 (deep:=2) J (by omega) F nb (e.keep _ _ F B) (e.keep _ _ nb M) U a6 (by decide) λt3 S6 h3 h4 e6 l l6=> ?_
   refine⟨by show 3<=_;decide,?_⟩
   symm
   have u:=l.keep _ _ N (e.keep _ _ N y)
   refine⟨_,u,dR (w _ (by rw[lr];omega)) ?_⟩
   exact C [.put z t3] _ _ _ _ _ (e6.put (by omega) kl) (by omega) (gX (by omega) (l.keep _ _ F (e.keep _ _ F B))) (cM u) (by simp) (by simp) λq' I=>by rw[Qfq.mp I];exact⟨hz,a0 h3 (by omega)⟩
  ·apply iZ (jA ?_)
   apply⟨_,_,rfl,y,?_⟩
   apply⟨by decide,?_⟩
   refine g8 4 (deep:=1) (bs:= []) (R.app (G:= [O.lst []])) (by omega) F (j:=S4.length) (by have:=R.lt;omega) (aM B) aL U (by decide) (by decide) λt3 S6 h3 h4 e6 l l6=> ?_
   symm
   refine⟨by show 2<=_;decide,?_⟩
   symm
   have u:=l.keep _ _ N (aM y)
   refine⟨_,u,dR (w _ (by rw[lr];omega)) ?_⟩
   exact C [.tell t3] _ _ _ _ _ (e6.put (by omega) kl) (by omega) (gX (by omega) (l.keep _ _ F (aM B))) (cM u) (by simp) (by simp) λq' I=>by rw[Qfq.mp I];exact⟨so,a0 (y1 _ h3) (by omega)⟩
 ·rintro b2 S3 ⟨o9,b3,b4,a4,a5,a7,rs,rfl,e3,hw3,hr3,hl1,hl2,hn4,hok⟩
  have b7:(ia 0 (1+(b0:Int))).length=b0+1:=by simp only[ia,lQm,QVq];omega
  rw[b7] at hl1 hl2 hn4 e3
  symm
  refine bG hr3 ?_
  refine⟨rfl,?_⟩
  dsimp only
  refine su (e3.mono (m:=n+110) (by omega)) x (λk z=>(nomatch z)) (by simp only[cb];exact bc λq _=>dk q.low) λS2 a b c=> ?_
  exact h rs _ hok (by omega) (by omega) a b c
end W28
namespace DL
open PySem PySem.Spec L2
def NY{a b:cN}{d:D}(h:a.set 0 none=b.set 0 none):a.set 0 (some d)=b.set 0 (some d):=by
 have:=congrArg (λc:cN=>c.set 0 (some d)) h
 simpa using this
def zc{g:cN}{S:aF}{js:List (Option Nat)}{f:dF}{e:bE}{Q:List D->aF->Prop}(F:D->D)(h:E f g S λp c=>p.2.stays c p.1/\p.1.length<=1000/\(∀d∈p.1,E e ((p6 js g).set 0 (some d)) c λy S2=>y=F d/\S2=c)/\Q (p.1.map F) c):
  E (cp js (j2 f) (cn 0) de e) g S Q:=by
 refine lV (oF (h.mono λp c m=> ?_))
 obtain⟨o,hl,s,q⟩:=m
 refine⟨λn b i a=>i=c/\a=(p.1.take n).map F/\b.set 0 none=(p6 js g).set 0 none,⟨rfl,rfl,rfl⟩,λn b i a h=>by rw[h.1];exact o,λn d b i a j h=> ?_,λb i a h=> ?_⟩
 ·obtain⟨rfl,rfl,h3⟩:=h
  refine a_ (yC ?_)
  rw[Qhq rfl,NY h3]
  refine(s d (mQg j)).mono λy S2 k=> ?_
  obtain⟨l,r⟩:=k
  subst l r
  have t:=(gQs.mp j).1
  refine⟨?_,rfl,?_,by simp⟩
  ·rw[lQm,Qxq]
   exact bp (by omega)
  ·rw[QYq,j]
   simp
 ·obtain⟨rfl,rfl,_⟩:=h
  rw[QEq]
  exact q
end DL
namespace W28
open PySem PySem.Spec L2 DL
def wX(p:Str×Nat):D:=.tup [.str p.1,.int p.2]
def F0(p:Str×Str):D:=.tup [.str p.1,.str p.2]
def iW(p:Str×List Rw):D:=.tup [.str p.1,.tup (p.2.map Rw.d)]
def CB{q:cN}{S r:aF}{k f j l:Nat}{m:Nat}{ws:List Str}{Q:List D->aF->Prop}(x:Ex k f r S)(w:f+ws.length<1000000000)(C:q.getD 0 none=some (.ref k))(B:q[j]?=some (some (.ref l)))(hl:S[l]?=some (.lst (ws.map D.str)))(nl:l≠k)(G:0<m)(J:m<1000)(H:ws.length<=1000)
  (h:∀(ps:List (Str×Nat)) (a:aF),ps.map (·.1)=ws->(∀p∈ps,p.2<m)->Ex k (f+ws.length) r a->Ex k (f+ws.length) S a->a.length=S.length->Q (ps.map wX) a):
  E (cp [none,some 0] (j2 (a9 (aw j))) (cn 0) de (a8 (au (aw 0) (au (aA aE (au (aw 1) (au (cF (.int m)) ax))) ax)))) q S Q:=by
 have y:=x.here
 refine lV (oF (dt (aK B (bG hl ?_))))
 refine⟨λn c a b=>∃(o:Option D) (ps:List (Str×Nat)),c= [o,some (.ref k)]/\Ex k (f+n) r a/\Ex k (f+n) S a/\a.length=S.length/\ps.map (·.1)=ws.take n/\(∀p∈ps,p.2<m)/\b=ps.map wX,⟨none,[],by show [none,q.getD 0 none]=_;rw[C],x,y,rfl,rfl,by simp,rfl⟩,?_,?_,?_⟩
 ·rintro n c a b ⟨o,ps,_,_,e,_⟩
  exact e.keep _ _ nl hl
 ·rintro n d c a b u ⟨o,ps,rfl,e0,e1,el,h1,h2,rfl⟩
  obtain⟨z,i,rfl⟩:∃z,ws[n]?=some z/\d=.str z:=by
   rw[gQm] at u
   obtain⟨z,i,e⟩:=oQm.mp u
   exact⟨z,i,e.symm⟩
  symm
  rw[Qhq rfl]
  symm
  have F:=(gQs.mp i).1
  apply bI e0 (by omega) (by omega) (by omega) λv L M A s I=> ?_
  refine⟨by show 2<=_;decide,?_⟩
  have K:=(gQs.mp i).1
  have t:ps.length=n:=by
   have:=congrArg List.length h1
   rw[lQm,Qxq] at this
   omega
  refine⟨?_,_,ps++ [(z,v)],rfl,A,e1.trans s,by omega,?_,λp g=> ?_,by simp[wX]⟩
  ·rw[lQm]
   exact bp (by omega)
  ·rw[Qzq,h1,QYq,i]
   rfl
  ·rcases mQa.mp g with g|g
   ·exact h2 p g
   ·rw[Qfq.mp g]
    show v<m
    omega
 ·rintro c a b ⟨o,ps,rfl,e0,e1,el,h1,h2,rfl⟩
  simp only[lQm] at e0 e1 h1
  exact h ps a (by rw[h1];simp) h2 e0 e1 el
def JD{q:cN}{S t:aF}{k f j l:Nat}{ws:List Str}{Q:List D->aF->Prop}(x:Ex k f t S)(A:f+ws.length<1000000000)(H:q.getD 0 none=some (.ref k))(F:q[j]?=some (some (.ref l)))(hl:S[l]?=some (.lst (ws.map D.str)))(nl:l≠k)(J:ws.length<=1000)
  (h:∀(ps:List (Str×Str)) (a:aF),ps.map (·.1)=ws->(∀p∈ps,p.2="row" \/p.2="turns")->Ex k (f+ws.length) t a->Ex k (f+ws.length) S a->Q (ps.map F0) a):
  E (cp [none,some 0] (j2 (a9 (aw j))) (cn 0) de (a8 (au (aw 0) (au (aW jr (bT (bt (au (cF (.str "row")) (au (cF (.str "turns")) ax)))) (aA aE (au (aw 1) (au (cF (.int 2)) ax)))) ax)))) q S Q:=by
 have y:=x.here
 refine lV (oF (dt (aK F (bG hl ?_))))
 refine⟨λn c a b=>∃(o:Option D) (ps:List (Str×Str)),c= [o,some (.ref k)]/\Ex k (f+n) t a/\Ex k (f+n) S a/\ps.map (·.1)=ws.take n/\(∀p∈ps,p.2="row" \/p.2="turns")/\b=ps.map F0,⟨none,[],by show [none,q.getD 0 none]=_;rw[H],x,y,rfl,by simp,rfl⟩,?_,?_,?_⟩
 ·rintro n c a b ⟨o,ps,_,_,e,_⟩
  exact e.keep _ _ nl hl
 ·rintro n d c a b w ⟨o,ps,rfl,e0,e1,h1,h2,rfl⟩
  obtain⟨z,i,rfl⟩:∃z,ws[n]?=some z/\d=.str z:=by
   rw[gQm] at w
   obtain⟨z,i,e⟩:=oQm.mp w
   exact⟨z,i,e.symm⟩
  symm
  rw[Qhq rfl]
  symm
  apply⟨by decide,?_⟩
  have I:=(gQs.mp i).1
  refine bI (e0.app (G:= [O.lst [.str "row",.str "turns"]])) (by omega) (by decide) (by decide) λv M N B m K=> ?_
  dsimp only
  have r:∃s:Str,(s="row" \/s="turns")/\jU ([.str "row",.str "turns"]:List D) (v:Int)=some (.str s):=by
   rcases v with _|_|v
   ·exact⟨"row",.inl rfl,rfl⟩
   ·exact⟨"turns",.inr rfl,rfl⟩
   ·omega
  obtain⟨s,r,C⟩:=r
  refine dr (m.keep _ _ (by have:=e0.lt;omega) aL) C ?_
  symm
  refine⟨by show 2<=_;decide,?_⟩
  have L:=(gQs.mp i).1
  have u:ps.length=n:=by
   have:=congrArg List.length h1
   rw[lQm,Qxq] at this
   omega
  refine⟨?_,_,ps++ [(z,s)],rfl,B,(e1.app).trans m,?_,λp g=> ?_,by simp[F0]⟩
  ·rw[lQm]
   exact bp (by omega)
  ·rw[Qzq,h1,QYq,i]
   rfl
  ·rcases mQa.mp g with g|g
   ·exact h2 p g
   ·rw[Qfq.mp g]
    exact r
 ·rintro c a b ⟨o,ps,rfl,e0,e1,h1,h2,rfl⟩
  simp only[lQm] at e0 e1 h1
  exact h ps a (by rw[h1];simp) h2 e0 e1
def Rw.Ok.sub{a:Bool}{ws ps bs ts:List Str}{c b:List (Str×Str)}{n:Nat}{r:Rw}(h:r.Ok ⟨a,ws,ps,bs,c,ts⟩ n)(e:∀g∈c,g∈b):r.Ok ⟨a,ws,ps,bs,b,ts⟩ n:=by
 cases r with
 |do_ g r d t=>exact⟨h.1,e _ h.2.1,h.2.2⟩
 |_=>exact h
def ui.sub{a:Bool}{ws ps bs ts:List Str}{c b:List (Str×Str)}{rs:List Rw}(h:ui ⟨a,ws,ps,bs,c,ts⟩ rs)(e:∀g∈c,g∈b):ui ⟨a,ws,ps,bs,b,ts⟩ rs:=λr d=>(h r d).sub e
structure Rm where
 name:Str
 ah:Str
 ar:List (Str×Nat)
 aa:List (Str×Str)
 ae:List (Str×List Rw)
def Rm.d(r:Rm):D:=.tup [.str r.name,.str r.ah,.tup (r.ar.map wX),.tup (r.aa.map F0),.tup (r.ae.map iW)]
structure xJ(gs:List (Str×Str))(r:Rm):Prop where
 mn:r.ah="at once" \/r.ah="when free"
 tv:∀p∈r.ar,p.2<=9
 l1:r.ar.length<=6
 l2:r.aa.length<=6
 l3:r.ae.length<=6
 bv:∀p∈r.aa,p.2="row" \/p.2="turns"
 pr:∀p∈r.ae,ui ⟨false,r.ar.map (·.1)++fL,r.ar.map (·.1),r.aa.map (·.1),gs,[]⟩ p.2/\p.2.length<=12
def zN(p:Str×List Rw):cb 0 (iW p)=true:=by
 simp only[iW,cb,bS,Bool.and_true,Bool.true_and]
 exact bc λr _=>r.low
def Rm.low(r:Rm):cb 0 r.d=true:=by
 simp only[Rm.d,cb,bS,Bool.and_true,Bool.true_and,QCq]
 exact⟨bc λ_ _=>rfl,bc λ_ _=>rfl,bc λp _=>zN p⟩
end W28
namespace DL
open PySem PySem.Spec L2
def Lz{a:cN}{S:aF}{f:dF}{g:bE}{Q:List D->aF->Prop}(h:E f a S λp b=>E g a b λr S2=>∃n:Nat,r=.int n/\(p.2.isM=true/\p.2.stays S2 p.1/\p.1.length*n<=1000/\n<=1)/\Q ((List.replicate n p.1).flatten) S2):E (Ij f g) a S Q:=by
 obtain⟨p,b,c,r,S2,d,n,rfl,⟨h1,h2,h3,h4⟩,q⟩:=h
 refine⟨_,S2,?_,q⟩
 unfold Ij
 rw[c]
 simp only[Qbq]
 rw[d]
 simp only[Qbq]
 rw[Qhq ⟨h1,h2,by omega,by omega,by simpa using QAq h3 (by decide)⟩]
 simp
end DL
namespace W28
open PySem PySem.Spec L2 DL
def HI{L M:List Lt}:DE (L++M)=DE L++DE M:=by simp[DE]
def sS{a b c d:Nat}{v:Nat}(o:(v:Int)<4){m:Nat}(k:a<=m)(j:b<=m)(h:c<=m)(hd:d<=m){l:Nat}(e:l<=a)(g:l<=b)(f:l<=c)(i:l<=d):∃n:Nat,n<=m/\l<=n/\jU ([.int a,.int b,.int c,.int d]:List D) (v:Int)=some (.int n):=by
 rcases v with _|_|_|_|v
 ·exact⟨a,k,e,rfl⟩
 ·exact⟨b,j,g,rfl⟩
 ·exact⟨c,h,f,rfl⟩
 ·exact⟨d,hd,i,rfl⟩
 ·omega
def Iu(d:D):D:=match d with
 |.tup (a::_)=>a
 |d=>d
def JW{a b:Str}{v:Nat}(c:(v:Int)<2):∃s:Str,(s=a\/s=b)/\jU ([.str a,.str b]:List D) (v:Int)=some (.str s):=by
 rcases v with _|_|v
 ·exact⟨_,.inl rfl,rfl⟩
 ·exact⟨_,.inr rfl,rfl⟩
 ·omega
def Hn{S S0:aF}{k n g:Nat}{name:Str}{L:List Lt}{Q:Res->aF->Prop}(x:Ex k n S0 S)(hn:n<999980000)(ng:g≠k)(gg:S[g]?=some (.lst (L.map El)))(hL:∀p∈L,uP k S p)(lg:L.length<=100)
  (h:∀(r:Rm) (N:aF),r.name=name->xJ (DE L++r.ae.map λp=>(name,p.1)) r->0<r.ae.length->r.ae.length<=3->(∀p∈r.aa,y_ p.1)->Ex k (n+350) S0 N->Ex k (n+350) S N->N.length=S.length->Q (.d r.d) N):
  Fn kq [.ref k,.str name,.ref g] S Q:=by
 have kl:=x.lt
 refine cg ?_
 unfold nP
 symm
 apply⟨by decide,?_⟩
 refine bI (x.here.app (G:= [O.lst [.str "at once",.str "when free"]])) (by omega) (by decide) (by decide) λvm S1 b7 e1 d1 l1=> ?_
 dsimp only
 obtain⟨ah,a3,c3⟩:=JW (a:="at once") (b:="when free") b7
 apply dr (d1.keep _ _ (by omega) aL) c3 ?_
 apply⟨by decide,?_⟩
 refine bI (e1.app (G:= [O.lst [.int 1,.int 1,.int 2,.int 0]])) (by omega) (by decide) (by decide) λv S2 hv e2 c2 l2=> ?_
 dsimp only
 obtain⟨nt,e0,_,ha⟩:=sS (a:=1) (b:=1) (c:=2) (d:=0) hv (m:=2) (l:=0) (by omega) (by omega) (by omega) (by omega) (by omega) (by omega) (by omega) (by omega)
 refine dr (c2.keep _ _ (by have:=e1.lt;omega) aL) ha ?_
 symm
 apply jx e2 (by omega) (by omega) λar B _ g0 ot e3 f7 l3=> ?_
 apply⟨by decide,?_⟩
 have Y:B.length≠k:=by have:=e3.lt;omega
 have X:Ex k (n+1+1+2) S (B++ [O.lst (ar.map D.str)]):=e3.app
 have b1:(B++ [O.lst (ar.map D.str)])[B.length]?=some (.lst (ar.map D.str)):=aL
 have d3:(B++ [O.lst (ar.map D.str)]).length=B.length+1:=by simp
 generalize (B++ [O.lst (ar.map D.str)])=T3 at X b1 d3⊢
 refine bI (X.app (G:= [O.lst [.int 1,.int 1,.int 2,.int 0]])) (by omega) (by decide) (by decide) λvb S4 b8 e4 a0 l4=> ?_
 dsimp only
 obtain⟨nb,f5,_,c1⟩:=sS (a:=1) (b:=1) (c:=2) (d:=0) b8 (m:=2) (l:=0) (by omega) (by omega) (by omega) (by omega) (by omega) (by omega) (by omega) (by omega)
 refine dr (a0.keep _ _ (by have:=X.lt;omega) aL) c1 ?_
 symm
 apply jx e4 (by omega) (by omega) λaa A _ f4 ob e5 a4 l5=> ?_
 refine⟨by decide,?_⟩
 have k5:A.length≠k:=by have:=e5.lt;omega
 have gt:(A++ [O.lst (aa.map D.str)]++ [O.lst []])[B.length]?=some (.lst (ar.map D.str)):=aM (aM (a4.keep _ _ Y (a0.keep _ _ Y (aM b1))))
 have gb:(A++ [O.lst (aa.map D.str)]++ [O.lst []])[A.length]?=some (.lst (aa.map D.str)):=aM aL
 have f6:S.length<=B.length:=e3.len
 have f8:S.length<=A.length:=e5.len
 have f2:B.length<A.length:=by
  have:=a4.len
  have:=a0.len
  simp only[lQa,Qnq,QGq] at *
  omega
 have e6:=(e5.app (G:= [O.lst (aa.map D.str)])).app (G:= [O.lst []])
 generalize hr:A.length+1=r
 have H:(A++ [O.lst (aa.map D.str)]).length=r:=by simp[hr]
 rw[H]
 have gr:(A++ [O.lst (aa.map D.str)]++ [O.lst []])[r]?=some (.lst []):=by rw[←H];exact aL
 have l6:(A++ [O.lst (aa.map D.str)]++ [O.lst []]).length=r+1:=by simp[←hr]
 generalize (A++ [O.lst (aa.map D.str)]++ [O.lst []])=S6 at e6 gt gb gr l6⊢
 have d6:ar.length=nt:=by omega
 have d7:aa.length=nb:=by omega
 apply bC (hU ?_)
 apply⟨by decide,?_⟩
 refine bI (e6.app (G:= [O.lst [.int 1,.int 2,.int 2,.int 3]])) (by omega) (by decide) (by decide) λvd S7 c4 e7 K l7=> ?_
 dsimp only
 obtain⟨nd,f0,d5,c0⟩:=sS (a:=1) (b:=2) (c:=2) (d:=3) c4 (m:=3) (l:=1) (by omega) (by omega) (by omega) (by omega) (by omega) (by omega) (by omega) (by omega)
 refine dr (K.keep _ _ (by have:=e6.lt;omega) aL) c0 ?_
 symm
 apply jx e7 (by omega) (by omega) λc6 S8 _ f1 od e8 R l8=> ?_
 have kr:r≠k:=by omega
 let Inv:Nat->cN->aF->Prop:=λi U N=>∃(o7 o8:Option D) (f:List (Str×List Rw)),U= [some (.ref k),some (.str name),some (.ref g),some (.str ah),some (.ref B.length),some (.ref A.length),some (.ref r),o7,o8]∧
  Ex k (n+10+110*i) S N/\N[B.length]?=some (.lst (ar.map D.str))/\N[A.length]?=some (.lst (aa.map D.str))/\N[r]?=some (.lst (f.map iW))/\f.length=i/\(∀p∈f,ui ⟨false,ar++fL,ar,aa,DE L++f.map λp=>(name,p.1),[]⟩ p.2/\p.2.length<=12)
 refine⟨Inv,⟨none,none,[],rfl,e8.mono (by omega),R.keep _ _ Y (K.keep _ _ Y (aM gt)),R.keep _ _ k5 (K.keep _ _ k5 (aM gb)),R.keep _ _ kr (K.keep _ _ kr (aM gr)),rfl,by simp⟩,λ_ _ _ _=>trivial,?_,?_⟩
 ·rintro i d U y hd ⟨o7,o8,f,rfl,e9,gt9,gb9,gr9,hi,hpr⟩
  obtain⟨w,hw,rfl⟩:∃z,c6[i]?=some z/\d=.str z:=by
   rw[gQm] at hd
   obtain⟨z,hz,e⟩:=oQm.mp hd
   exact⟨z,hz,e.symm⟩
  have d9:i<3:=by
   have:=(gQs.mp hw).1
   omega
  apply a_ ?_
  apply Lz ?_
  apply zc Iu ?_
  refine bG gr9 ?_
  refine⟨gr9,by simp;omega,λd hd=> ?_,?_⟩
  ·obtain⟨p,_,rfl⟩:=Qkq.mp hd
   symm
   refine ay rfl ?_
   exact⟨rfl,rfl⟩
  have eh:(f.map iW).map Iu=(f.map (·.1)).map D.str:=by
   rw[QPq,QPq]
   rfl
  rw[eh]
  symm
  refine⟨by show 2<=_;decide,?_⟩
  symm
  refine⟨by show 1<=_;decide,?_⟩
  symm
  have J:Ex k (n+10+110*i) S (y++ [O.lst ((f.map (·.1)).map D.str)]):=e9.app
  have a7:(y++ [O.lst ((f.map (·.1)).map D.str)])[y.length]?=some (.lst ((f.map (·.1)).map D.str)):=aL
  have t:(y++ [O.lst ((f.map (·.1)).map D.str)])[r]?=some (.lst (f.map iW)):=aM gr9
  have C:(y++ [O.lst ((f.map (·.1)).map D.str)])[B.length]?=some (.lst (ar.map D.str)):=aM gt9
  have I:(y++ [O.lst ((f.map (·.1)).map D.str)])[A.length]?=some (.lst (aa.map D.str)):=aM gb9
  have k9:y.length≠k:=by have:=e9.lt;omega
  have r9:r<y.length:=(gQs.mp gr9).1
  have t9:B.length<y.length:=(gQs.mp gt9).1
  have b9:A.length<y.length:=(gQs.mp gb9).1
  have l9:(y++ [O.lst ((f.map (·.1)).map D.str)]).length=y.length+1:=by simp
  generalize (y++ [O.lst ((f.map (·.1)).map D.str)])=T9 at J a7 t C I l9⊢
  refine bG t ?_
  apply⟨⟨rfl,t⟩,?_⟩
  obtain⟨q,hq,d0,b0⟩:∃q:Nat,q<=1/\intOfD [D.bl (!(f.map iW).isEmpty)]=some (.int q)/\(q=0↔f= []):=by
   cases f with
   |nil=>exact⟨0,by omega,rfl,by simp⟩
   |cons a b=>exact⟨1,by omega,rfl,by simp⟩
  refine⟨_,d0,?_⟩
  refine⟨q,rfl,⟨rfl,trivial,by simp;omega,hq⟩,?_⟩
  generalize hM:(if f= [] then [] else [(name,y.length,f.map (·.1))]:List Lt)=M
  have eM:(List.replicate q [D.tup [D.str name,D.ref y.length]]).flatten=M.map El:=by
   rw[←hM]
   by_cases c:f= []
   ·rw[Qhq c,b0.mpr c];rfl
   ·have:q=1:=by have:=mt b0.mp c;omega
    rw[Quq c,this];rfl
  have a2:∀p∈M,uP k T9 p:=by
   intro p s
   rw[←hM] at s
   by_cases c:f= []
   ·rw[Qhq c] at s;cases s
   ·rw[Quq c,Qfq] at s
    subst s
    refine⟨k9,a7,?_,?_⟩
    ·simp only[lQm];exact List.length_pos_iff.mpr c
    ·simp only[lQm];omega
  have b6:DE M=f.map λp=>(name,p.1):=by
   rw[←hM]
   by_cases c:f= []
   ·rw[Qhq c,c];rfl
   ·rw[Quq c];simp[DE]
  have lM:M.length<=1:=by
   rw[←hM]
   by_cases c:f= []
   ·rw[Qhq c];simp
   ·rw[Quq c];simp
  rw[eM]
  symm
  have a5:=J.keep _ _ ng gg
  apply jA ?_
  apply⟨_,_,rfl,aM t,?_⟩
  refine⟨by show 3<=_;decide,?_⟩
  symm
  apply rT ?_
  apply bG (aM a5) ?_
  refine bG aL ?_
  refine⟨⟨rfl,rfl,aM a5,by simp only[lQm];exact nQl (bp (by omega))⟩,?_⟩
  rw[←Qzq]
  symm
  have b3:∀p∈L++M,uP k (T9++ [O.lst (M.map El)]++ [O.lst ((L++M).map El)]) p:=by
   intro p s
   have:uP k T9 p:=by
    rcases mQa.mp s with s|s
    ·exact(hL p s).ex J
    ·exact a2 p s
   exact⟨this.1,aM (aM this.2.1),this.2.2⟩
  refine Ha (ar:=ar) (aa:=aa) (L:=L++M) ((J.app (G:= [O.lst (M.map El)])).app (G:= [O.lst ((L++M).map El)])) (by omega) Y k5 (by simp;omega) (aM (aM C)) (aM (aM I)) aL b3 (by omega) (by omega) (by rw[lQa];omega) λrs a1 h1 h2 h3 W u d4=> ?_
  symm
  refine⟨by show 2<=_;decide,?_⟩
  symm
  have P:=u.keep _ _ kr (aM (aM t))
  refine⟨_,P,dR (bp (by simp only[lQm];omega)) ?_⟩
  have kp:∀{j:Nat} {o:O},j≠k->j≠r->T9[j]?=some o->∀o',(a1.set r o')[j]?=some o:=λn n2 h o'=>gX n2 (u.keep _ _ n (aM (aM h)))
  refine⟨_,_,f++ [(w,rs)],rfl,(W.put (by omega) kl).mono (by omega),kp Y (by omega) C _,kp k5 (by omega) I _,?_,by simp[hi],λp s=> ?_⟩
  ·rw[cM P]
   simp[iW]
  ·rw[HI,b6] at h1
   rcases mQa.mp s with s|s
   ·exact⟨(hpr p s).1.sub λg F=>by
     rcases mQa.mp F with F|F
     ·exact List.mem_append_left _ F
     ·rw[Qzq];exact Qoq _ (List.mem_append_left _ F),(hpr p s).2⟩
   ·rw[Qfq.mp s]
    exact⟨h1.sub λg F=>by
     rcases mQa.mp F with F|F
     ·exact List.mem_append_left _ F
     ·rw[Qzq];exact Qoq _ (List.mem_append_left _ F),h3⟩
 ·rintro U y ⟨o7,o8,f,rfl,e9,gt9,gb9,gr9,hi,hpr⟩
  rw[lQm] at hi e9
  symm
  apply CB (m:=3) e9 (by omega) rfl rfl gt9 Y (by decide) (by decide) (by omega) λts a1 a6 c5 W u d4=> ?_
  apply JD W (by omega) rfl rfl (u.keep _ _ k5 gb9) k5 (by omega) λbs f9 Z b5 d2 b2=> ?_
  refine bG (b2.keep _ _ kr (u.keep _ _ kr gr9)) ?_
  apply⟨rfl,?_⟩
  refine⟨by show 5<=_;decide,?_⟩
  have d8:ts.length=ar.length:=by rw[←a6];simp
  have f3:bs.length=aa.length:=by rw[←Z];simp
  refine su (d:=(Rm.mk name ah ts bs f).d) (d2.mono (m:=n+350) (by omega)) x (λk z=>(nomatch z)) (dk (Rm.low _)) λS2 a b c=> ?_
  refine h ⟨name,ah,ts,bs,f⟩ _ rfl ⟨a3,λp s=>by have:=c5 p s;omega,by show ts.length<=6;omega,by show bs.length<=6;omega,by show f.length<=6;omega,b5,?_⟩ (by show 0<f.length;omega) (by show f.length<=3;omega) (λp s=> ?_) a b c
  ·show∀p∈f,ui ⟨false,ts.map (·.1)++fL,ts.map (·.1),bs.map (·.1),_,[]⟩ p.2/\p.2.length<=12
   rw[a6,Z]
   exact hpr
  ·have b4:p∈bs:=s
   have:p.1∈aa:=by rw[←Z];exact Qkq.mpr ⟨p,b4,rfl⟩
   exact ob _ this
end W28
namespace DL
open PySem PySem.Spec L2
def IK{b:cN}{S:aF}{f:dF}{Q:List D->aF->Prop}(h:E f b S λp a=>p.2.isL=true/\∃ss,sr p.1=some ss/\(p.1.length<=3/\ss.Nodup)/\Q (ug ss p.1) a):E (xK f) b S Q:=by
 obtain⟨p,a,e,l,ss,d,c,q⟩:=h
 exact⟨_,a,by unfold xK;rw[e];simp only[Qbq];rw[Qhq l,d];simp only[Qbq];rw[Qhq c],q⟩
def DQ{α:Type}{f:α->D}{ss:List Str}{xs:List α}(c:α)(b:xs.length<=3):∃ys:List α,ys.Perm xs/\ug ss (xs.map f)=ys.map f:=by
 refine⟨Zp.sortBy ss c xs,Zp.eD ss xs b,?_⟩
 have hl:(ug ss (xs.map f)).length=((Zp.sortBy ss c xs).map f).length:=by
  unfold ug
  rw[(Zp.eD ss (xs.map f) (by simpa using b)).length_eq,lQm,lQm,(Zp.eD ss xs b).length_eq]
 apply List.ext_getElem?
 intro i
 cases e:(ug ss (xs.map f))[i]? with
 | none=>
   rw[List.getElem?_eq_none_iff] at e
   rw[eq_comm,List.getElem?_eq_none_iff]
   omega
 | some d=>
   obtain⟨y,g,r⟩:=tR (R:=λ(d:D) (a:α)=>d=f a) (ss:=ss) (xs:=xs.map f) (ys:=xs) (d:=.non) (d':=c) (by simp) (by simpa using b) (λi d h=>by
     rw[gQm] at h
     obtain⟨y,g,e⟩:=oQm.mp h
     exact⟨y,g,e.symm⟩) i d e
   rw[gQm,g,r]
   rfl
end DL
namespace W28
open PySem PySem.Spec L2 DL
def bP(rs:List Rm):List (Str×Str):=rs.flatMap λr=>r.ae.map λp=>(r.name,p.1)
def xJ.sub{b a:List (Str×Str)}{r:Rm}(h:xJ b r)(d:∀g∈b,g∈a):xJ a r:={h with pr:=λp c=>⟨(h.pr p c).1.sub d,(h.pr p c).2⟩}
theorem Df:∀rs:List Rm,sr (rs.map Rm.d)=some (rs.map (·.name))
 | []=>rfl
 | r::rs=>by
   show sr (Rm.d r::rs.map Rm.d)=_
   simp only[Rm.d,sr]
   rw[Df rs]
   rfl
theorem GC:∀{L:List Lt} {rs:List Rm},L.map (λp=>(p.1,p.2.2))=rs.map (λr=>(r.name,r.ae.map (·.1)))->DE L=bP rs
 | [],[],_=>rfl
 | [],r::rs,h=>by cases h
 |p::L,[],h=>by cases h
 | p::L,r::rs,h=>by
   simp only[QDq,List.cons.injEq,Prod.mk.injEq] at h
   obtain⟨⟨b,a⟩,c⟩:=h
   have:=GC c
   simp only[DE,bP,QSq] at this⊢
   rw[this,b,a,QPq]
   rfl
structure ID(r:Rm):Prop where
 d0:0<r.ae.length
 d3:r.ae.length<=3
 nm:y_ r.name
 bl:∀p∈r.aa,y_ p.1
def Fm{S S0:aF}{k n most:Nat}{Q:Res->aF->Prop}(x:Ex k n S0 S)(hn:n<999970000)(a4:0<most)(hm:most<=3)
  (h:∀(rs:List Rm) (u:aF),(rs.map (·.name)).Nodup->0<rs.length->rs.length<=3->(∀r∈rs,xJ (bP rs) r)->(∀r∈rs,ID r)->Ex k (n+1100) S0 u->Ex k (n+1100) S u->u.length=S.length->Q (.d (.tup (rs.map Rm.d))) u):
  Fn i0 [.ref k,.int most] S Q:=by
 have kl:=x.lt
 refine cg ?_
 unfold lF
 symm
 apply⟨by decide,?_⟩
 have e0:Ex k n S (S++ [O.lst []]):=x.here.app
 have H:(S++ [O.lst []])[S.length]?=some (.lst []):=aL
 generalize (S++ [O.lst []])=S1 at e0 H⊢
 generalize hr:S.length=r at H⊢
 have kr:r≠k:=by omega
 apply hU ?_
 apply bI e0 (by omega) (by omega) (by omega) λv S2 hv e2 a0 l2=> ?_
 rw[show(1:Int)+(v:Int)=((1+v:Nat):Int) by omega]
 apply jx e2 (by omega) (by omega) λt S3 nn a3 on e3 a2 R=> ?_
 refine⟨λi s u=>∃(Y o4:Option D) (rs:List Rm),s= [some (.ref k),some (.int most),some (.ref r),Y,o4]/\Ex k (n+3+350*i) S u/\u[r]?=some (.lst (rs.map Rm.d))/\rs.map (·.name)=t.take i/\(∀x∈rs,xJ (bP rs) x)/\∀x∈rs,ID x,⟨none,none,[],rfl,e3.mono (by omega),a2.keep _ _ kr (a0.keep _ _ kr H),rfl,by simp,by simp⟩,λ_ _ _ _=>trivial,?_,?_⟩
 ·rintro i d s S4 C ⟨Y,o4,rs,rfl,e4,gr4,hnm,hok,hmo⟩
  obtain⟨w,hw,rfl⟩:∃z,t[i]?=some z/\d=.str z:=by
   rw[gQm] at C
   obtain⟨z,N,e⟩:=oQm.mp C
   exact⟨z,N,e.symm⟩
  have hi:=(gQs.mp hw).1
  have Z:rs.length=i:=by
   have:=congrArg List.length hnm
   rw[lQm,Qxq] at this
   omega
  apply a_ ?_
  refine lV (oF (dt (aK rfl (bG gr4 ?_))))
  refine⟨λj s u A=>∃(o:Option D) (L:List Lt),s= [o]/\Ex k (n+3+350*i) S u/\u[r]?=some (.lst (rs.map Rm.d))/\L.map (λp=>(p.1,p.2.2))=(rs.take j).map (λr=>(r.name,r.ae.map (·.1)))/\(∀p∈L,uP k u p)/\A=L.map El,⟨none,[],rfl,e4,gr4,rfl,by simp,rfl⟩,?_,?_,?_⟩
  ·rintro j s u A ⟨o,L,_,_,g,_⟩
   exact g
  ·rintro j d s S5 A C ⟨o,L,rfl,e5,gr5,hL1,hL2,rfl⟩
   obtain⟨q,l,rfl⟩:∃q,rs[j]?=some q/\d=Rm.d q:=by
    rw[gQm] at C
    obtain⟨z,N,e⟩:=oQm.mp C
    exact⟨z,N,e.symm⟩
   have hj:=(gQs.mp l).1
   have K:=hmo q (mQg l)
   have q0:=K.d0
   have q3:=K.d3
   symm
   rw[Qhq rfl]
   symm
   apply ay rfl ?_
   apply zc Iu ?_
   refine ay rfl ?_
   refine cI (ds:=q.ae.map iW) ?_
   refine⟨trivial,by simp;omega,λd C=> ?_,?_⟩
   ·obtain⟨p,_,rfl⟩:=Qkq.mp C
    symm
    refine ay rfl ?_
    exact⟨rfl,rfl⟩
   have eh:(q.ae.map iW).map Iu=(q.ae.map (·.1)).map D.str:=by
    rw[QPq,QPq]
    rfl
   rw[eh]
   symm
   refine⟨by show 2<=_;decide,?_⟩
   have J:L.length=j:=by
    have:=congrArg List.length hL1
    rw[lQm,lQm,Qxq] at this
    omega
   refine⟨by rw[lQm];exact bp (by omega),_,L++ [(q.name,S5.length,q.ae.map (·.1))],rfl,e5.app,aM gr5,?_,λp y=> ?_,by simp[El]⟩
   ·rw[Qzq,hL1,QYq,l]
    simp
   ·rcases mQa.mp y with y|y
    ·exact⟨(hL2 p y).1,aM (hL2 p y).2.1,(hL2 p y).2.2⟩
    ·rw[Qfq.mp y]
     exact⟨by have:=e5.lt;show S5.length≠k;omega,aL,by simp;omega,by simp;omega⟩
  ·rintro s S5 A ⟨o,L,rfl,e5,gr5,hL1,hL2,rfl⟩
   simp only[lQm,QEq] at hL1
   have B:=GC hL1
   have J:L.length=rs.length:=by
    have:=congrArg List.length hL1
    simpa using this
   symm
   apply jA ?_
   apply⟨_,_,rfl,aM gr5,?_⟩
   refine Hn (L:=L) (e5.app (G:= [O.lst (L.map El)])) (by omega) (by have:=e5.lt;omega) aL (λp y=>⟨(hL2 p y).1,aM (hL2 p y).2.1,(hL2 p y).2.2⟩) (by omega) λP S6 F X h1 h3 U e6 a1 l6=> ?_
   symm
   have M:=a1.keep _ _ kr (aM gr5)
   refine⟨_,M,dR (bp (by simp only[lQm];omega)) ?_⟩
   have W:bP (rs++ [P])=bP rs++P.ae.map λp=>(P.name,p.1):=by simp[bP]
   refine⟨_,_,rs++ [P],rfl,(e6.put (by omega) kl).mono (by omega),?_,?_,λq l=> ?_,λq l=> ?_⟩
   ·rw[cM M]
    simp
   ·rw[Qzq,hnm,QYq,hw]
    simp[F]
   ·rw[W]
    rcases mQa.mp l with l|l
    ·exact(hok q l).sub λg B=>List.mem_append_left _ B
    ·rw[Qfq.mp l,F,←B]
     exact X
   ·rcases mQa.mp l with l|l
    ·exact hmo q l
    ·rw[Qfq.mp l]
     exact⟨h1,h3,by rw[F];exact on _ (mQg hw),U⟩
 ·rintro s S4 ⟨Y,o4,rs,rfl,e4,gr4,hnm,hok,hmo⟩
  rw[lQm] at hnm e4
  rw[QEq] at hnm
  have Z:rs.length=t.length:=by
   have:=congrArg List.length hnm
   simpa using this
  apply i9 (JX (qu (IK ?_)))
  refine bG gr4 ?_
  have R:rs.length<=3:=by omega
  have nd:(rs.map (·.name)).Nodup:=by rw[hnm];exact nn
  refine⟨rfl,_,Df rs,⟨by simpa using R,nd⟩,?_⟩
  obtain⟨ys,I,he⟩:=DQ (f:=Rm.d) (ss:=rs.map (·.name)) (xs:=rs) ⟨"","",[],[],[]⟩ R
  rw[he]
  refine su (e4.mono (m:=n+1100) (by omega)) x (λk z=>(nomatch z)) (by simp only[cb];exact bc λq _=>dk q.low) λS2 a b c=> ?_
  refine h ys _ ((I.map _).nodup_iff.mpr nd) (by rw[I.length_eq];omega) (by rw[I.length_eq];exact R) (λq l=>(hok q (I.mem_iff.mp l)).sub λg B=> ?_) (λq l=>hmo q (I.mem_iff.mp l)) a b c
  simp only[bP,QOq] at B⊢
  obtain⟨z,N,B⟩:=B
  exact⟨z,I.mem_iff.mpr N,B⟩
def G_{d:cN}{S:aF}{i j:Nat}{w m:Int}{ds:List D}{Q:Bool->aF->Prop}(hi:d[i]?=some (some (.int w)))(e:d[j]?=some (some (.tup ds)))(q:∀c,(c=true->0<ds.length)->Q c S):
  E (g7 (aI (aW Ej (aw i) (cF (.int m)))) (aI (aW DG (aw j) (a8 ax)))) d S Q:=by
 refine mf (b_ (cc (aK hi (fQ (nF ?_)))))
 refine aV (λc=> ?_) λc=>q false λz=>(nomatch z)
 refine b_ (cc (aK e (zi (fF ⟨by decide,JO (q _ λz=> ?_)⟩))))
 cases ds with
 |nil=>cases z
 |cons a b=>simp
def F5{a:cN}{S:aF}{i:Nat}{w m:Int}{Q:Bool->aF->Prop}(hi:a[i]?=some (some (.int w)))(q:∀c,(c=true->w=m)->Q c S):E (aI (aW (fP false) (aw i) (cF (.int m)))) a S Q:=b_ (cc (aK hi (fQ (eR (q _ λz=>QZq z)))))
def HP{rs:List Rm}{q:Rm}{p:Str×List Rw}(b:q∈rs)(a:p∈q.ae):(q.name,p.1)∈bP rs:=QOq.mpr ⟨q,b,Qkq.mpr ⟨p,a,rfl⟩⟩
def wx{rs:List Rm}{m:Nat}:∀d∈rs.map Rm.d,(∀k,d≠.ref k)/\cb m d=true:=λd a=>by
 obtain⟨q,_,rfl⟩:=Qkq.mp a
 exact⟨λk z=>(nomatch z),dk q.low⟩
def vX{rs:List (Str×List Rw)}{m:Nat}:∀d∈rs.map iW,(∀k,d≠.ref k)/\cb m d=true:=λd a=>by
 obtain⟨q,_,rfl⟩:=Qkq.mp a
 exact⟨λk z=>(nomatch z),dk (zN q)⟩
def K1{S S0:aF}{k n w p:Nat}{words ak:List Str}{rms:List Rm}{Q:Res->aF->Prop}(x:Ex k n S0 S)(hn:n<999960000)(N:w≠k)(np:p≠k)(gw:S[w]?=some (.lst (words.map D.str)))(gp:S[p]?=some (.lst (ak.map D.str)))
  (f0:∀r∈rms,ID r) (lg:rms.length<=3) (lw:words.length<500) (lp:ak.length<500)
  (h:∀(rs:List Rw) (Y:aF),ui ⟨true,words,words,[],bP rms,ak⟩ rs->0<rs.length->rs.length<=9->Ex k (n+110) S0 Y->Ex k (n+110) S Y->Y.length=S.length->Q (.d (.tup (rs.map Rw.d))) Y):
  Fn gD [.ref k,.tup (rms.map Rm.d),.ref w,.ref p,.int 3] S Q:=by
 have K:cs 1=10:=rfl
 have c2:cs 2=22:=rfl
 have kl:=x.lt
 have wl:=(gQs.mp gw).1
 have pl:=(gQs.mp gp).1
 generalize W:(⟨true,words,words,[],bP rms,ak⟩:Sc)=sc at h
 have so:sc.own=true:=by rw[←W]
 have sw:sc.ws=words:=by rw[←W]
 have sp:sc.ps=words:=by rw[←W]
 have sb:sc.bs= []:=by rw[←W]
 have sg:sc.gs=bP rms:=by rw[←W]
 have st:sc.ts=ak:=by rw[←W]
 refine cg ?_
 unfold mZ
 symm
 refine⟨by decide,?_⟩
 generalize hr:S.length=r
 have ir:(S++ [O.lst []])[r]?=some (.lst []):=by rw[←hr];exact aL
 have e0:Ex k n S (S++ [O.lst []]):=x.here.app
 generalize (S++ [O.lst []])=S1 at e0 ir⊢
 have P:r≠k:=by omega
 apply bC (hU ?_)
 apply bI e0 (by omega) (by decide) (by decide) λa5 S2 d6 e2 e9 l2=> ?_
 refine⟨_,rfl,⟨by omega,by omega⟩,?_⟩
 let Inv:Nat->cN->aF->Prop:=λi a6 Y=>∃(o6 o7 o8 o9 a0:Option D) (rs:List Rw),a6= [some (.ref k),some (.tup (rms.map Rm.d)),some (.ref w),some (.ref p),some (.int 3),some (.ref r),o6,o7,o8,o9,a0,none,none]∧
  Ex k (n+1+33*i) S Y/\Y[r]?=some (.lst (rs.map Rw.d))/\rs.length<=2*i/\i<=rs.length/\i<=3/\∀q∈rs,q.Ok sc rs.length
 have e:∀m:Nat,m<=100->m<sizeLine:=λm hm=>Nat.lt_of_le_of_lt hm (by decide)
 have a2:sc.ws.length<1000:=by rw[sw];omega
 have up:∀{t':Tr} {d:Nat},t'.Ok sc.ws []->t'.dep<=d+1->d<=3->FG sc t':=λh1 h2 h3=>⟨by rw[sb];exact h1,by omega⟩
 refine⟨Inv,⟨_,_,_,_,_,[],rfl,e2,e9.keep _ _ P ir,by simp,by simp,by omega,by simp⟩,λ_ _ _ _=>trivial,?_,?_⟩
 ·rintro i d a6 S3 U ⟨o6,o7,o8,o9,a0,rs,rfl,e3,hr3,hl1,hl2,hn4,J⟩
  have f5:i<3:=by
   have:=(gQs.mp U).1
   simp only[ia,lQm,QVq] at this
   omega
  apply a_ ?_
  refine bI e3 (by omega) (by decide) (by decide) λb7 S4 f6 I a4 l4=> ?_
  dsimp only
  have g:=a4.keep _ _ P hr3
  have X:=I.keep _ _ N gw
  have c0:=I.keep _ _ np gp
  rw[←sw] at X
  have lr:(rs.map Rw.d).length=rs.length:=by simp
  have M:∀{n':Nat} (L:List Rw) (p8 p9 b5:Option D) (H:aF),Ex k n' S H->n'<=n+1+33*(i+1)->H[r]?=some (.lst (rs.map Rw.d++L.map Rw.d))->1<=L.length->L.length<=2->(∀q∈L,q.Ok sc (rs.length+L.length))→
    Inv (i+1) [some (.ref k),some (.tup (rms.map Rm.d)),some (.ref w),some (.ref p),some (.int 3),some (.ref r),some d,some (.int b7),p8,p9,b5,none,none] H:=by
   intro n' L p8 p9 b5 H F a3 h2 h3 h4 h5
   refine⟨_,_,_,_,_,rs++L,rfl,F.mono a3,by rw[h2,Qzq],by rw[lQa];omega,by rw[lQa];omega,by omega,λq B=> ?_⟩
   rw[lQa]
   rcases mQa.mp B with B|B
   ·exact(J q B).mono (by omega)
   ·exact h5 q B
  refine dZ (G_ rfl rfl λc hc=>aV (λK=> ?_) (λK=> ?_))
  ·
   apply bC (lC ?_)
   refine Av I (by omega) (hc K) (by simp;omega) (λd U=>(wx (m:=0) d U).1) (λd U=>(wx d U).2) λv H hv F u l5=> ?_
   obtain⟨q,B,rfl⟩:=Qkq.mp hv
   have b2:=f0 q B
   symm
   apply rT ?_
   apply⟨by decide,?_⟩
   have b8:=u.keep _ _ N X
   refine bG b8 ?_
   refine⟨⟨rfl,rfl,trivial,by simp only[lQm,Qnq,QGq];exact QAq (show 0+1+sc.ws.length<=1000 by rw[sw];omega) (by decide)⟩,?_⟩
   symm
   apply ay (d:=.tup (q.ae.map iW)) rfl ?_
   refine Av (F.app (G:= [O.lst ([.non]++sc.ws.map D.str)])) (by omega) (by simpa using b2.d0) (by have:=b2.d3;simp;omega) (λd U=>(vX (m:=0) d U).1) (λd U=>(vX d U).2) λv2 S6 a1 e6 C l6=> ?_
   obtain⟨dd,d7,rfl⟩:=Qkq.mp a1
   symm
   refine ay (ds:= [.str dd.1,.tup (dd.2.map Rw.d)]) (d:=.str dd.1) rfl ?_
   have e1:=C.keep _ _ (show H.length≠k by have:=F.lt;omega) aL
   have A:=C.keep _ _ P (aM (u.keep _ _ P g))
   have d4:=C.keep _ _ N (aM b8)
   apply iZ (jA ?_)
   apply⟨_,_,rfl,A,?_⟩
   refine eP e6 (by omega) (by have:=F.lt;omega) e1 (by simp) (by rw[sw];simp;omega) (λd U=>(km (m:=0) d U).1) (λd U=>(km d U).2) λv3 S7 d9 e7 d2 l7=> ?_
   obtain⟨o,rfl,ho⟩:=yd v3 d9
   symm
   apply ay (d:=.str q.name) rfl ?_
   apply⟨by decide,?_⟩
   refine g8 4 (deep:=1) (bs:= []) (e7.app (G:= [O.lst []])) (by omega) N (j:=S7.length) (by have:=e7.lt;omega) (aM (d2.keep _ _ N d4)) aL a2 (by decide) (by decide) λt3 S8 h3 h4 e8 d8 l8=> ?_
   symm
   refine⟨by show 5<=_;decide,?_⟩
   symm
   have b6:=d8.keep _ _ P (aM (d2.keep _ _ P A))
   refine⟨_,b6,dR (e _ (by rw[lr];omega)) ?_⟩
   exact M [.do_ o q.name dd.1 t3] _ _ _ _ (e8.put (by omega) kl) (by omega) (cM b6) (by simp) (by simp) λq' y=>by rw[Qfq.mp y];exact⟨λz Z=>by rw[sp,←sw];exact ho z Z,by rw[sg];exact HP B d7,up h3 h4 (by omega)⟩
  refine dZ (yt rfl rfl c0 λc hc=>aV (λK=> ?_) (λK=> ?_))
  ·apply iZ (jA ?_)
   apply⟨_,_,rfl,g,?_⟩
   apply⟨by decide,?_⟩
   refine bI (I.app (G:= [O.lst [.str "take",.str "give"]])) (by omega) (by decide) (by decide) λv H hv F u l5=> ?_
   dsimp only
   have f4:∃(f:Str->Rw) (s:Str),(∀z,(f z).d=.tup [.str s,.str z])/\(∀z n,z∈sc.ts->(f z).Ok sc n)/\jU ([.str "take",.str "give"]:List D) (v:Int)=some (.str s):=by
    rcases v with _|_|v
    ·exact⟨.take,"take",λ_=>rfl,λz n Z=>⟨so,Z⟩,rfl⟩
    ·exact⟨.give,"give",λ_=>rfl,λz n Z=>⟨so,Z⟩,rfl⟩
    ·omega
   obtain⟨f,s,hf,d5,hs⟩:=f4
   refine dr (u.keep _ _ (by have:=I.lt;omega) aL) hs ?_
   symm
   refine eP F (by omega) np (u.keep _ _ np (aM c0)) (hc K) (by simp;omega) dY fI λv2 S6 a1 e6 C l6=> ?_
   obtain⟨z,Z,rfl⟩:=Qkq.mp a1
   symm
   refine⟨by show 2<=_;decide,?_⟩
   symm
   have A:=C.keep _ _ P (u.keep _ _ P (aM g))
   refine⟨_,A,dR (e _ (by rw[lr];omega)) ?_⟩
   refine M [f z] _ _ _ _ (e6.put (by omega) kl) (by omega) ?_ (by simp) (by simp) λq' y=>by rw[Qfq.mp y];exact d5 _ _ (by rw[st];exact Z)
   rw[cM A]
   simp[hf]
  refine dZ (CN rfl rfl X λc hc=>aV (λK=> ?_) (λK=> ?_))
  ·apply iZ (jA ?_)
   apply⟨_,_,rfl,g,?_⟩
   refine eP I (by omega) N X (hc K) (by rw[sw];simp;omega) dY fI λv H hv F u l5=> ?_
   obtain⟨z,Z,rfl⟩:=Qkq.mp hv
   symm
   apply⟨by decide,?_⟩
   refine g8 4 (deep:=2) (bs:= []) (F.app (G:= [O.lst []])) (by omega) N (j:=H.length) (by have:=F.lt;omega) (aM (u.keep _ _ N X)) aL a2 (by decide) (by decide) λt3 S6 h3 h4 e6 C l6=> ?_
   symm
   refine⟨by show 3<=_;decide,?_⟩
   symm
   have A:=C.keep _ _ P (aM (u.keep _ _ P g))
   refine⟨_,A,dR (e _ (by rw[lr];omega)) ?_⟩
   exact M [.put z t3] _ _ _ _ (e6.put (by omega) kl) (by omega) (cM A) (by simp) (by simp) λq' y=>by rw[Qfq.mp y];exact⟨by rw[sp,←sw];exact Z,up h3 h4 (by omega)⟩
  have a7:∀{n':Nat} (L:List Rw) (H:aF) {R:Out->Prop},Ex k n' S H->n'+10<=n+1+33*(i+1)->H[r]?=some (.lst (rs.map Rw.d++L.map Rw.d))->L.length<=1->(∀q∈L,q.Ok sc (rs.length+2))->(∀d1 S6,Inv (i+1) d1 S6->R (.nx d1 S6))→
    T (m8 (rQ fX (aw 5) (au (a8 (au (cF (.str "say")) (au (aA (bu 4) (au (aw 0) (au (aw 2) (au (bT (bt ax)) (au (cF (.int 1)) ax))))) ax))) ax))) [some (.ref k),some (.tup (rms.map Rm.d)),some (.ref w),some (.ref p),some (.int 3),some (.ref r),some d,some (.int b7),o8,o9,a0,none,none] H R:=by
   intro n' L H R F a3 t f3 f2 hR
   apply iZ (jA ?_)
   apply⟨_,_,rfl,t,?_⟩
   apply⟨by decide,?_⟩
   refine g8 4 (deep:=1) (bs:= []) (F.app (G:= [O.lst []])) (by omega) N (j:=H.length) (by have:=F.lt;omega) (aM (F.keep _ _ N (by rw[sw];exact gw))) aL a2 (by decide) (by decide) λt3 S6 h3 h4 e6 C l6=> ?_
   symm
   refine⟨by show 2<=_;decide,?_⟩
   symm
   have A:=C.keep _ _ P (aM t)
   refine⟨_,A,dR (e _ (by simp;omega)) ?_⟩
   refine hR _ _ (M (L++ [.say t3]) _ _ _ _ (e6.put (by omega) kl) (by omega) ?_ (by simp) (by simp;omega) λq' y=> ?_)
   ·rw[cM A]
    simp[Rw.d]
   ·rcases mQa.mp y with y|y
    ·rcases L with _|⟨a,_|⟨b,L⟩⟩
     ·cases y
     ·exact f2 _ y
     ·simp at f3
    ·rw[Qfq.mp y]
     exact⟨so,up h3 h4 (by omega)⟩
  refine bC (dZ (F5 rfl λc f1=>aV (λK=> ?_) (λK=> ?_)))
  ·apply iZ (jA ?_)
   apply⟨_,_,rfl,g,?_⟩
   apply⟨by decide,?_⟩
   refine g8 4 (deep:=2) (bs:= []) (I.app (G:= [O.lst []])) (by omega) N (j:=S4.length) (by have:=I.lt;omega) (aM X) aL a2 (by decide) (by decide) λt3 H h3 h4 F u l5=> ?_
   symm
   have t:=u.keep _ _ P (aM g)
   apply bG t ?_
   refine⟨by show 3<=_;decide,?_⟩
   symm
   refine⟨_,t,dR (e _ (by rw[lr];omega)) ?_⟩
   dsimp only
   have c6:(Rw.unl t3 (rs.length+2)).Ok sc (rs.length+2):=⟨up h3 h4 (by omega),Qmq _⟩
   have b4:(H.set r (.lst (rs.map Rw.d++ [.tup [.str "unless",t3.d,.int (((rs.map Rw.d).length:Int)+2)]])))[r]?=some (.lst (rs.map Rw.d++ [Rw.unl t3 (rs.length+2)].map Rw.d)):=by
    rw[cM t]
    simp[Rw.d]
   refine bC (dZ (F5 rfl λc' b9=>aV (λc2=> ?_) (λc2=> ?_)))
   ·
    exact absurd ((f1 K).symm.trans (b9 c2)) (by decide)
   ·refine cy ?_
    exact a7 [.unl t3 (rs.length+2)] _ (F.put (by omega) kl) (by omega) b4 (by simp) (λq B=>by rw[Qfq.mp B];exact c6) λ_ _ z=>z
  ·refine cy ?_
   refine bC (dZ (FE rfl λc=>aV (λc2=> ?_) (λc2=> ?_)))
   ·apply iZ (jA ?_)
    apply⟨_,_,rfl,g,?_⟩
    apply bG g ?_
    refine⟨by show 2<=_;decide,?_⟩
    symm
    refine⟨_,g,dR (e _ (by rw[lr];omega)) ?_⟩
    dsimp only
    refine a7 [.go (rs.length+2)] _ (I.put (by omega) kl) (by omega) ?_ (by simp) (λq B=>by rw[Qfq.mp B];exact Qmq _) λ_ _ z=>z
    rw[cM g]
    simp[Rw.d]
   ·refine cy ?_
    exact a7 [] _ I (by omega) (by simpa using g) (by simp) (by simp) λ_ _ z=>z
 ·rintro a6 S3 ⟨o6,o7,o8,o9,a0,rs,rfl,e3,hr3,hl1,hl2,hn4,J⟩
  have b1:(ia 0 (1+(a5:Int))).length=a5+1:=by simp only[ia,lQm,QVq];omega
  rw[b1] at hl1 hl2 hn4 e3
  have c3:=e3.keep _ _ N gw
  have b0:∀{n':Nat} (c5 b3:Option D) (rs:List Rw) (S4:aF),Ex k n' S S4->n'<=n+110->S4[r]?=some (.lst (rs.map Rw.d))->(∀q∈rs,q.Ok sc rs.length)->0<rs.length->rs.length<=9->T (cH (tupQ (gA (a9 (aw 5))))) [some (.ref k),some (.tup (rms.map Rm.d)),some (.ref w),some (.ref p),some (.int 3),some (.ref r),o6,o7,o8,o9,a0,c5,b3] S4 λo=>match o with
    |.nx _ Y=>Op (settle S .non Y) λp=>Q p.1 p.2|.rt d Y=>Op (settle S d Y) λp=>Q p.1 p.2|.rl l Y=>Op (eB S l Y) λp=>Q p.1 p.2|_=>False:=by
   intro n' c5 b3 rs S4 I a3 g J h1 h2
   symm
   refine bG g ?_
   refine⟨rfl,?_⟩
   dsimp only
   refine su (I.mono a3) x (λk z=>(nomatch z)) (by simp only[cb];exact bc λq _=>dk q.low) λS2 a b c=> ?_
   exact h rs _ J h1 h2 a b c
  refine bC (dZ (mf (zV rfl c3 λc hc=>aV (λK=> ?_) (λK=> ?_))))
  ·symm
   apply bI e3 (by omega) (by decide) (by decide) λv S4 hv I a4 l4=> ?_
   refine eR ?_
   dsimp only
   have g:=a4.keep _ _ P hr3
   refine aV (λc=> ?_) (λc=> ?_)
   ·apply bC (I0 ?_)
    refine eP I (by omega) N (a4.keep _ _ N c3) (hc K) (by simp;omega) dY fI λv2 H a1 F u l5=> ?_
    obtain⟨z,Z,rfl⟩:=Qkq.mp a1
    have t:=u.keep _ _ P g
    symm
    apply bG t ?_
    refine⟨_,_,rfl,?_⟩
    apply bC (iZ (jA ?_))
    apply⟨_,_,rfl,t,?_⟩
    refine⟨by show 3<=_;decide,?_⟩
    symm
    refine⟨by show 3<=_;decide,?_⟩
    symm
    refine⟨_,t,dR (e _ (by simp;omega)) ?_⟩
    dsimp only
    apply iZ (Fk ?_)
    apply⟨_,_,rfl,cM t,?_⟩
    refine⟨by show 3<=_;decide,?_⟩
    symm
    refine⟨by show 3<=_;decide,?_⟩
    symm
    refine⟨by show 2<=_;decide,?_⟩
    symm
    refine⟨by show 2<=_;decide,?_⟩
    refine⟨_,cM t,⟨rfl,nQl (e _ (by simp;omega))⟩,?_⟩
    rw[List.set_set]
    have l3:(rs++ [Rw.put z (.two "plus" (.word z) (.num 1)),.unl (.two "less" (.word z) (.num 3)) (rs.length+3),.go 0]).length=rs.length+3:=by simp
    have c4:∀o∈ops,∀m:Nat,m<=9->FG sc (.two o (.word z) (.num m)):=λo ho m hm=>⟨⟨ho,by show z∈sc.ws;rw[sw];exact Z,hm⟩,by show max 1 1+1<=4;decide⟩
    refine b0 _ _ (rs++ [Rw.put z (.two "plus" (.word z) (.num 1)),.unl (.two "less" (.word z) (.num 3)) (rs.length+3),.go 0]) _ (F.put (by omega) kl) (by omega) ?_ (λq B=> ?_) (by rw[l3];omega) (by rw[l3];omega)
    ·rw[cM t]
     simp[Rw.d,Tr.d]
    ·rw[l3]
     rcases mQa.mp B with B|B
     ·exact(J q B).mono (by omega)
     ·simp only[Qsq,QXq,or_false] at B
      rcases B with rfl|rfl|rfl
      ·exact⟨by rw[sp];exact Z,c4 _ (by decide) 1 (by omega)⟩
      ·exact⟨c4 _ (by decide) 3 (by omega),Qmq _⟩
      ·exact Nat.zero_le _
   ·exact cy (b0 _ _ rs S4 I (by omega) g J (by omega) (by omega))
  ·rw[Quq (by decide)]
   exact cy (b0 _ _ rs S3 e3 (by omega) hr3 J (by omega) (by omega))
def oG(p:List (Str×Nat)×List Rw):D:=.tup [.tup (p.1.map wX),.tup (p.2.map Rw.d)]
structure dD where
 ao:List Rm
 ak:List (Str×Nat)
 aq:List (Str×Nat)
 af:List (List (Str×Nat)×List Rw)
def dD.d(w:dD):D:=.tup [.tup (w.ao.map Rm.d),.tup (w.ak.map wX),.tup (w.aq.map wX),.tup (w.af.map oG)]
structure Bw(gs:List (Str×Str))(aq ak:List Str)(h:List (Str×Nat)×List Rw):Prop where
 tv:∀p∈h.1,p.2<=9
 l1:h.1.length<=6
 l2:h.2.length<=9
 l0:0<h.2.length
 pr:ui ⟨true,h.1.map (·.1)++aq,h.1.map (·.1)++aq,[],gs,ak⟩ h.2
structure gF(w:dD):Prop where
 nd:(w.ao.map (·.name)).Nodup
 l1:w.ao.length<=3
 l2:w.ak.length<=6
 l3:w.aq.length<=6
 l4:w.af.length<=4
 l0:0<w.af.length
 pv:∀p∈w.ak,p.2<=9
 sv:∀p∈w.aq,p.2<=9
 rm:∀r∈w.ao,xJ (bP w.ao) r
 hd:∀h∈w.af,Bw (bP w.ao) (w.aq.map (·.1)) (w.ak.map (·.1)) h
def Gc(p:List (Str×Nat)×List Rw):cb 0 (oG p)=true:=by
 simp only[oG,cb,bS,Bool.and_true,Bool.true_and,QCq]
 exact⟨bc λ_ _=>rfl,bc λr _=>r.low⟩
def dD.low(w:dD):cb 0 w.d=true:=by
 simp only[dD.d,cb,bS,Bool.and_true,Bool.true_and,QCq]
 exact⟨bc λr _=>r.low,bc λ_ _=>rfl,bc λ_ _=>rfl,bc λp _=>Gc p⟩
def D9{rs:List Rm}(hd:∀r∈rs,r.ae.length<=6):(bP rs).length<=6*rs.length:=by
 induction rs with
 |nil=>simp[bP]
 | cons a l c=>
   have:=c λr b=>hd r (Qpq _ b)
   have:=hd a (QBq ..)
   simp only[bP,QSq,lQa,lQm,Qnq] at *
   omega
def Dr{i:cN}{S o:aF}{k n a b c d m:Nat}{Q:D->aF->Prop}(x:Ex k n o S)(A:n<999999990)(y:i[0]?=some (some (.ref k)))(r:a<=m)(t:b<=m)(p:c<=m)(hd:d<=m)
  (h:∀(j:Nat) (g:aF),j<=m->Ex k (n+1) o g->Ex k (n+1) S g->Q (.int j) g):
  E (aW jr (bT (bt (au (cF (.int a)) (au (cF (.int b)) (au (cF (.int c)) (au (cF (.int d)) ax)))))) (aA aE (au (aw 0) (au (cF (.int 4)) ax)))) i S Q:=by
 refine cc (rC (pJ (bX (fQ (bX (fQ (bX (fQ (bX (fQ (fF ⟨by show 4<=_;decide,?_⟩)))))))))))
 refine nV (bX (aK y (bX (fQ (fF ?_)))))
 refine bI (x.app (G:= [O.lst [.int a,.int b,.int c,.int d]])) (by omega) (by decide) (by decide) λv s u q e z=> ?_
 dsimp only
 obtain⟨j,w,_,f⟩:=sS (a:=a) (b:=b) (c:=c) (d:=d) u (m:=m) (l:=0) r t p hd (by omega) (by omega) (by omega) (by omega)
 refine dr (e.keep _ _ (by have:=x.lt;omega) aL) f ?_
 exact h j s w q ((x.here.app (G:= [O.lst [.int a,.int b,.int c,.int d]])).trans e)
def DB{l:cN}{S m:aF}{k n a b c d:Nat}{stem:Str}{Q:List D->aF->Prop}(x:Ex k n m S)(A:n<999999900)(o:l[0]?=some (some (.ref k)))(r:a<=2)(u:b<=2)(q:c<=2)(hd:d<=2)(y:stem.length<=4)
  (h:∀(ws:List Str) (g:aF),ws.length<=2->Ex k (n+3) m g->Ex k (n+3) S g->Q (ws.map D.str) g):
  E (cp [none] (j2 (gL (dj cA (au (aw 0) (au (aW jr (bT (bt (au (cF (.int a)) (au (cF (.int b)) (au (cF (.int c)) (au (cF (.int d)) ax)))))) (aA aE (au (aw 0) (au (cF (.int 4)) ax)))) ax))))) (cn 0) de (aW bU (cF (.str stem)) (aw 0))) l S Q:=by
 refine zc (λd=>match d with|.str z=>.str (stem++z)|d=>d) ?_
 refine qu (C4 (bX (aK o (bX ?_))))
 refine Dr x (by omega) o r u q hd λj G C p f=>fF ?_
 refine jx p (by omega) (by omega) λws B _ hl v s i w=> ?_
 dsimp only
 refine⟨trivial,by simp;omega,λd hd=> ?_,?_⟩
 ·obtain⟨z,t,rfl⟩:=Qkq.mp hd
  have F:=(v z t).len
  refine cc (fQ (aK rfl (BC (QAq (show stem.length+z.length<=10 by omega) (by decide)) ⟨rfl,rfl⟩)))
 ·have e:(ws.map D.str).map (λd=>match d with|.str z=>.str (stem++z)|d=>d)=(ws.map (stem++·)).map D.str:=by
   rw[QPq,QPq]
   rfl
  rw[e]
  exact h _ _ (by simp;omega) s (f.trans i)
def Ez{v:cN}{S w:aF}{k n a b c d:Nat}{Q:List D->aF->Prop}(x:Ex k n w S)(M:n<999999900)(A:v[0]?=some (some (.ref k)))(G:a<=2)(I:b<=2)(C:c<=2)(hd:d<=2)
  (h:∀(ws:List Str) (m:aF),ws.length<=2->(∀z∈ws,PyData.strOk z=true)->Ex k (n+3) w m->Ex k (n+3) S m->Q (ws.map D.str) m):
  E (cp [none] (j2 (gL (dj cA (au (aw 0) (au (aW jr (bT (bt (au (cF (.int a)) (au (cF (.int b)) (au (cF (.int c)) (au (cF (.int d)) ax)))))) (aA aE (au (aw 0) (au (cF (.int 4)) ax)))) ax))))) (cn 0) (aI (aW Ej (Gv (aw 0)) (cF (.int 5)))) (aW bU (cF (.str "pass")) (aw 0))) v S Q:=by
 refine lV (oF (qu (C4 (bX (aK A (bX ?_))))))
 refine Dr x (by omega) A G I C hd λj P N B s=>fF ?_
 refine jx B (by omega) (by omega) λws H _ hl J F t K=> ?_
 dsimp only
 refine⟨λi l m g=>∃(o:Option D) (f:List Str),l= [o]/\m=H/\f.length<=i/\(∀z∈f,PyData.strOk z=true)/\g=f.map D.str,⟨none,[],rfl,rfl,by simp,by simp,rfl⟩,λ_ _ _ _ _=>trivial,?_,?_⟩
 ·rintro i d l m g hd ⟨o,f,rfl,rfl,hpl,hpo,rfl⟩
  obtain⟨z,r,rfl⟩:∃z,ws[i]?=some z/\d=.str z:=by
   rw[gQm] at hd
   obtain⟨z,r,e⟩:=oQm.mp hd
   exact⟨z,r,e.symm⟩
  have L:=(gQs.mp r).1
  have u:=J z (mQg r)
  have y:=u.len
  refine a_ (b_ (cc (Jy (aK rfl ⟨z.length,by unfold Du;exact Qhq (QAq y (by decide)),?_⟩))))
  refine fQ (nF ?_)
  dsimp only
  refine aV (λc=> ?_) (λc=> ?_)
  ·refine cc (fQ (aK rfl (BC (QAq (show Str.length "pass" +z.length<=10 from Nat.add_le_add (show Str.length "pass" <=4 by decide) y) (by decide)) ?_)))
   refine⟨by rw[lQm];exact bp (by omega),_,f++ ["pass" ++z],rfl,rfl,by simp;omega,λq p=> ?_,by simp⟩
   rcases mQa.mp p with p|p
   ·exact hpo q p
   ·rw[Qfq.mp p];exact u.pass
  ·exact⟨_,f,rfl,rfl,by omega,hpo,rfl⟩
 ·rintro l m g ⟨o,f,rfl,rfl,hpl,hpo,rfl⟩
  rw[lQm] at hpl
  exact h f _ (by omega) hpo F (s.trans t)
structure ND(w:dD):Prop where
 rm:∀r∈w.ao,ID r
 ps:∀p∈w.ak,PyData.strOk p.1=true
def FL{S S0:aF}{k n most af:Nat}{Q:Res->aF->Prop}(x:Ex k n S0 S)(hn:n<999900000)(b1:0<most)(a3:most<=3)(h0:0<af)(h4:af<=4)
  (h:∀(w:dD) (y:aF),gF w->ND w->w.af.length=af->Ex k (n+1600) S0 y->Ex k (n+1600) S y->y.length=S.length->Q (.d w.d) y):
  Fn jc [.ref k,.int most,.int af] S Q:=by
 have kl:=x.lt
 refine cg ?_
 unfold lR
 symm
 refine Fm x.here (by omega) b1 a3 λN S1 nd b9 hl W a1 e1 _ l1=> ?_
 have c3:=D9 λr hr=>(W r hr).l3
 dsimp only
 refine bC (lC (rC (Ez (a:=0) (b:=0) (c:=1) (d:=2) e1 (by omega) rfl (by omega) (by omega) (by omega) (by omega) λak M b5 a5 e3 c4=> ?_)))
 have k3:M.length≠k:=by have:=e3.lt;omega
 dsimp only
 apply bC (lC (rC (DB (stem:="o") (a:=0) (b:=0) (c:=0) (d:=1) (e3.app (G:= [O.lst (ak.map D.str)])) (by omega) rfl (by omega) (by omega) (by omega) (by omega) (by decide) λg t d1 e5 X=> ?_)))
 refine⟨by decide,?_⟩
 have k5:t.length≠k:=by have:=e5.lt;omega
 have U:(t++ [O.lst (g.map D.str)]++ [O.lst []])[M.length]?=some (.lst (ak.map D.str)):=aM (aM (X.keep _ _ k3 aL))
 have P:(t++ [O.lst (g.map D.str)]++ [O.lst []])[t.length]?=some (.lst (g.map D.str)):=aM aL
 have c6:S.length<=M.length:=e3.len
 have c0:M.length<t.length:=by
  have:=X.len
  simp only[lQa,Qnq,QGq] at *
  omega
 have e6:=(e5.app (G:= [O.lst (g.map D.str)])).app (G:= [O.lst []])
 generalize hr:t.length+1=r
 have q:(t++ [O.lst (g.map D.str)]).length=r:=by simp[hr]
 rw[q]
 have gr:(t++ [O.lst (g.map D.str)]++ [O.lst []])[r]?=some (.lst []):=by rw[←q];exact aL
 generalize (t++ [O.lst (g.map D.str)]++ [O.lst []])=S6 at e6 U P gr⊢
 have kr:r≠k:=by have:=e5.lt;omega
 apply bC (hU ?_)
 refine⟨_,rfl,⟨by omega,by omega⟩,?_⟩
 let Inv:Nat->cN->aF->Prop:=λi I y=>∃(o7 o8 o9:Option D) (s:List (List (Str×Nat)×List Rw)),I= [some (.ref k),some (.int most),some (.int af),some (.tup (N.map Rm.d)),some (.ref M.length),some (.ref t.length),some (.ref r),o7,o8,o9]∧
  Ex k (n+1106+115*i) S y/\y[M.length]?=some (.lst (ak.map D.str))/\y[t.length]?=some (.lst (g.map D.str))/\y[r]?=some (.lst (s.map oG))/\s.length=i/\(∀p∈s,Bw (bP N) g ak p)
 refine⟨Inv,⟨none,none,none,[],rfl,e6.mono (by omega),U,P,gr,rfl,by simp⟩,λ_ _ _ _=>trivial,?_,?_⟩
 ·rintro i d I S7 hd ⟨o7,o8,o9,s,rfl,e7,gp7,gs7,gr7,hi,hpr⟩
  have c5:i<4:=by
   have:=(gQs.mp hd).1
   simp only[ia,lQm,QVq] at this
   omega
  refine a_ ?_
  refine bC (lC (rC (DB (stem:="h") (a:=0) (b:=1) (c:=1) (d:=2) e7 (by omega) rfl (by omega) (by omega) (by omega) (by omega) (by decide) λe A b7 e9 v=> ?_)))
  have k9:A.length≠k:=by have:=e9.lt;omega
  have f:∀{i:Nat} {o:O},i≠k->S7[i]?=some o->(A++ [O.lst (e.map D.str)])[i]?=some o:=λn h=>aM (v.keep _ _ n h)
  have u:(A++ [O.lst (e.map D.str)])[A.length]?=some (.lst (e.map D.str)):=aL
  have H:Ex k (n+1106+115*i+3) S (A++ [O.lst (e.map D.str)]):=e9.app
  have L:=f k3 gp7
  have K:=f k5 gs7
  have Z:=f kr gr7
  have r9:r<A.length:=by
   have:=(gQs.mp gr7).1
   have:=v.len
   omega
  generalize (A++ [O.lst (e.map D.str)])=T9 at u H L K Z⊢
  symm
  apply rT ?_
  apply bG u ?_
  refine bG K ?_
  refine⟨⟨rfl,rfl,u,by simp only[lQm];exact nQl (bp (by omega))⟩,?_⟩
  rw[←Qzq]
  symm
  refine K1 (words:=e++g) (ak:=ak) (rms:=N) (H.app (G:= [O.lst ((e++g).map D.str)])) (by omega) (by have:=H.lt;omega) k3 aL (aM L) a1 hl (by rw[lQa];omega) (by omega) λpr b6 h1 h2 h3 a4 l d0=> ?_
  symm
  apply jA ?_
  have C:=l.keep _ _ kr (aM Z)
  apply⟨_,_,rfl,C,?_⟩
  apply CB (m:=3) a4 (by omega) rfl rfl (l.keep _ _ k9 (aM u)) k9 (by decide) (by decide) (by omega) λts b3 a0 a6 b0 F b8=> ?_
  refine⟨by show 2<=_;decide,?_⟩
  symm
  have B:=F.keep _ _ kr C
  refine⟨_,B,dR (bp (by simp only[lQm];omega)) ?_⟩
  have kp:∀{i:Nat} {o:O},i≠k->i≠r->T9[i]?=some o->∀o',(b3.set r o')[i]?=some o:=λn n2 h o'=>gX n2 (F.keep _ _ n (l.keep _ _ n (aM h)))
  have b4:ts.length=e.length:=by rw[←a0];simp
  refine⟨_,_,_,s++ [(ts,pr)],rfl,(b0.put (by omega) kl).mono (by omega),kp k3 (by omega) L _,kp k5 (by omega) K _,?_,by simp[hi],λp j=> ?_⟩
  ·rw[cM B]
   simp[oG]
  ·rcases mQa.mp j with j|j
   ·exact hpr p j
   ·rw[Qfq.mp j]
    refine⟨λp j=>by have:=a6 p j;omega,by show ts.length<=6;omega,h3,h2,?_⟩
    show ui ⟨true,ts.map (·.1)++g,ts.map (·.1)++g,[],_,_⟩ pr
    rw[a0]
    exact h1
 ·rintro I S7 ⟨o7,o8,o9,s,rfl,e7,gp7,gs7,gr7,hi,hpr⟩
  have el:(ia 0 (af:Int)).length=af:=by simp only[ia,lQm,QVq];omega
  rw[el] at hi e7
  symm
  apply CB (m:=3) e7 (by omega) rfl rfl gp7 k3 (by decide) (by decide) (by omega) λY S8 J b2 e8 R l8=> ?_
  apply CB (m:=3) e8 (by omega) rfl rfl (R.keep _ _ k5 gs7) k5 (by decide) (by decide) (by omega) λss A a2 a7 e9 v l9=> ?_
  refine bG (v.keep _ _ kr (R.keep _ _ kr gr7)) ?_
  apply⟨rfl,?_⟩
  refine⟨by show 4<=_;decide,?_⟩
  have c2:Y.length=ak.length:=by rw[←J];simp
  have c1:ss.length=g.length:=by rw[←a2];simp
  refine su (d:=(dD.mk N Y ss s).d) (e9.mono (m:=n+1600) (by omega)) x (λk z=>(nomatch z)) (dk (dD.low _)) λS2 a b c=> ?_
  refine h ⟨N,Y,ss,s⟩ _ ⟨nd,hl,by show Y.length<=6;omega,by show ss.length<=6;omega,by show s.length<=4;omega,by show 0<s.length;omega,λp j=>by have:=b2 p j;omega,λp j=>by have:=a7 p j;omega,W,?_⟩ ⟨a1,λp j=>a5 _ (by rw[←J];exact Qkq.mpr ⟨p,j,rfl⟩)⟩ hi a b c
  show∀h∈s,Bw (bP N) (ss.map (·.1)) (Y.map (·.1)) h
  rw[a2,J]
  exact hpr
end W28
namespace DL
open PySem PySem.Spec L2
def JI{k:cN}{S:aF}{js:List (Option Nat)}{f:dF}{g:mI}{i:bE}{Q:List D->aF->Prop}(P:cN->Prop)(F:D->D)(x:P (p6 js k)) (h:E f k S λp e=>p.2.stays e p.1/\p.1.length<=1000∧
   (∀d∈p.1,∀a,P a->Tg g d a e λc S2=>S2=e/\P c/\E i c e λy m=>y=F d/\m=e)/\Q (p.1.map F) e):E (cp js (j2 f) g de i) k S Q:=by
 refine lV (oF (h.mono λp e s=> ?_))
 obtain⟨t,hl,v,q⟩:=s
 refine⟨λn a j b=>j=e/\b=(p.1.take n).map F/\P a,⟨rfl,rfl,x⟩,λn a j b h=>by rw[h.1];exact t,λn d a j b l h=> ?_,λa j b h=> ?_⟩
 ·obtain⟨rfl,rfl,h3⟩:=h
  obtain⟨c,S2,o,rfl,h4,h5⟩:=v d (mQg l) a h3
  refine⟨c,S2,o,yC ?_⟩
  rw[Qhq rfl]
  refine h5.mono λy m r=> ?_
  obtain⟨u,w⟩:=r
  subst u w
  have z:=(gQs.mp l).1
  refine⟨?_,rfl,?_,h4⟩
  ·rw[lQm,Qxq]
   exact bp (by omega)
  ·rw[QYq,l]
   simp
 ·obtain⟨rfl,rfl,_⟩:=h
  rw[QEq]
  exact q
def uO{α:Type}{o:cN}{S:aF}{js:List (Option Nat)}{f:dF}{g:mI}{k:bE}{Q:List D->aF->Prop}(P:cN->Prop)(enc G:α->D)(C:P (p6 js o)) (h:E f o S λp i=>∃xs:List α,p.1=xs.map enc/\p.2.stays i p.1/\xs.length<=1000∧
   (∀x∈xs,∀a,P a->Tg g (enc x) a i λc S2=>S2=i/\P c/\E k c i λy r=>y=G x/\r=i)/\Q (xs.map G) i):E (cp js (j2 f) g de k) o S Q:=by
 refine lV (oF (h.mono λp i v=> ?_))
 obtain⟨xs,s,w,hl,A,q⟩:=v
 refine⟨λn a m b=>m=i/\b=(xs.take n).map G/\P a,⟨rfl,rfl,C⟩,λn a m b h=>by rw[h.1];exact w,λn d a m b l h=> ?_,λa m b h=> ?_⟩
 ·obtain⟨rfl,rfl,h3⟩:=h
  have l:p.1[n]?=some d:=l
  rw[s,gQm] at l
  obtain⟨x,j,rfl⟩:=oQm.mp l
  obtain⟨c,S2,t,rfl,h4,h5⟩:=A x (mQg j) a h3
  refine⟨c,S2,t,yC ?_⟩
  rw[Qhq rfl]
  refine h5.mono λy r u=> ?_
  obtain⟨z,B⟩:=u
  subst z B
  have F:=(gQs.mp j).1
  refine⟨?_,rfl,?_,h4⟩
  ·rw[lQm,Qxq]
   exact bp (by omega)
  ·rw[QYq,j]
   simp
 ·obtain⟨rfl,rfl,_⟩:=h
  have e:p.1.length=xs.length:=by rw[s,lQm]
  show Q ((xs.take p.1.length).map G) _
  rw[e,QEq]
  exact q
def cJ{S:aF}{d:D}{Q:Res->aF->Prop}(hd:∀k,d≠.ref k)(hl:cb 0 d=true)(q:Q (.d d) S):Op (settle S d S) λp=>Q p.1 p.2:=ip uT (QEq) hd (dk hl) q
def FM{S:aF}{ds:List D}{Q:Res->aF->Prop}(hl:bS 0 ds=true)(q:Q (.l ds) S):Op (eB S ds S) λp=>Q p.1 p.2:=nJ uT (QEq) (jB hl) q
end DL
namespace W28
open PySem PySem.Spec L2 DL
structure cE where
 room:Int
 deed:Int
 row:Int
 given:Int
 told:Int
structure cT where
 vals:List Int
 within:Int
 row:List Int
 ag:List Int
 aa:List (List (Int×Int))
structure bB where
 ao:List cT
 ak:List (Int×List Int)
 aq:List Int
 af:List (List Int×List cE)
def bJ(l:List Int):D:=.tup (l.map D.int)
def cE.d(f:cE):D:=.tup [.int f.room,.int f.deed,.int f.row,.int f.given,.int f.told]
def pairD(p:Int×Int):D:=.tup [.int p.1,.int p.2]
def bV(l:List (Int×Int)):D:=.tup (l.map pairD)
def cT.d(r:cT):D:=.tup [bJ r.vals,.int r.within,bJ r.row,bJ r.ag,.tup (r.aa.map bV)]
def vO(p:Int×List Int):D:=.tup [.int p.1,bJ p.2]
def A7(h:List Int×List cE):D:=.tup [bJ h.1,.tup (h.2.map cE.d)]
def bB.d(s:bB):D:=.tup [.tup (s.ao.map cT.d),.tup (s.ak.map vO),bJ s.aq,.tup (s.af.map A7)]
def lu(l:List Int):cb 0 (bJ l)=true:=by simp only[bJ,cb];exact bc λ_ _=>rfl
def t7(l:List (Int×Int)):cb 0 (bV l)=true:=by simp only[bV,cb];exact bc λ_ _=>rfl
def cT.low(r:cT):cb 0 r.d=true:=by
 simp only[cT.d,cb,bS,lu,Bool.and_true,Bool.true_and]
 exact bc λl _=>t7 l
def Bv(p:Int×List Int):cb 0 (vO p)=true:=by simp only[vO,cb,bS,lu,Bool.and_true]
def BO(h:List Int×List cE):cb 0 (A7 h)=true:=by
 simp only[A7,cb,bS,lu,Bool.and_true,Bool.true_and]
 exact bc λ_ _=>rfl
def bB.low(s:bB):cb 0 s.d=true:=by
 simp only[bB.d,cb,bS,lu,Bool.and_true,Bool.true_and,QCq]
 exact⟨bc λr _=>r.low,bc λp _=>Bv p,bc λh _=>BO h⟩
def fh(ts:List (Str×Nat)):List Int:=ts.map λp=>(p.2:Int)
def c_(r:Rm):cT:=⟨fh r.ar,-1,[],[],r.aa.map λ_=> []⟩
def Gp:cE:=⟨-1,-1,0,0,0⟩
def bL(w:dD):bB:=⟨w.ao.map c_,w.ak.map λp=>((p.2:Int),[]),fh w.aq,w.af.map λh=>(fh h.1,[Gp])⟩
section
variable{S:aF}{Q:Res->aF->Prop}
def kb{ts:List (Str×Nat)}(l:ts.length<=1000)(h:Q (.d (bJ (fh ts))) S):Fn gh [.tup (ts.map wX)] S Q:=by
 refine cg ?_
 unfold nW
 symm
 apply JI (λc=>∃a b,c= [a,b]) (λd=>match d with|.tup [_,v]=>v|d=>d) ⟨none,none,rfl⟩ ?_
 refine⟨trivial,by simpa using l,λd g c f=> ?_,?_⟩
 ·obtain⟨p,_,rfl⟩:=Qkq.mp g
  obtain⟨a,b,rfl⟩:=f
  refine fm rfl (aC (a_ (aC (a_ (bH ?_)))))
  apply⟨rfl,⟨_,_,rfl⟩,?_⟩
  exact⟨rfl,rfl⟩
 ·have e:(ts.map wX).map (λd=>match d with|.tup [_,v]=>v|d=>d)=(fh ts).map D.int:=by
   simp only[fh,QPq]
   rfl
  rw[e]
  exact cJ (d:=bJ (fh ts)) (λk z=>(nomatch z)) (lu _) h
def vK{r:Rm}(a:r.ar.length<=6)(b:r.aa.length<=6)(h:Q (.d (c_ r).d) S):Fn jj [r.d] S Q:=by
 refine cg ?_
 unfold lK
 symm
 apply fm rfl (aC (a_ (aC (a_ (aC (a_ (aC (a_ (aC (a_ (bH ?_)))))))))))
 apply kb (by omega) ?_
 apply⟨by decide,?_⟩
 apply⟨by decide,?_⟩
 apply zc (λ_=>.tup []) ?_
 refine⟨trivial,by simp;omega,λd c=> ?_,?_⟩
 ·symm
  exact⟨by decide,rfl,rfl⟩
 ·symm
  refine⟨by show 5<=_;decide,?_⟩
  have e:D.tup ((r.aa.map F0).map λ_=>D.tup [])=D.tup ((c_ r).aa.map bV):=by
   simp only[c_,QPq]
   rfl
  rw[e]
  exact cJ (d:=(c_ r).d) (λk z=>(nomatch z)) (cT.low _) h
def Am{w:dD}(o:gF w)(h:Q (.d (bL w).d) S):Fn u5 [w.d] S Q:=by
 refine cg ?_
 unfold Bc
 symm
 apply fm rfl (aC (a_ (aC (a_ (aC (a_ (aC (a_ (bH ?_)))))))))
 apply⟨by decide,?_⟩
 have m:=o.l1
 have n:=o.l2
 have l:=o.l3
 have q:=o.l4
 apply uO (α:=Rm) (λc=>∃a,c= [a]) Rm.d (λr=>(c_ r).d) ⟨none,rfl⟩ ?_
 refine⟨w.ao,rfl,trivial,by omega,λr f c e=> ?_,?_⟩
 ·obtain⟨a,rfl⟩:=e
  apply a_ ⟨rfl,⟨_,rfl⟩,?_⟩
  exact vK (o.rm r f).l1 (o.rm r f).l2 ⟨rfl,rfl⟩
 symm
 apply uO (α:=Str×Nat) (λc=>∃a b,c= [a,b]) wX (λp=>vO ((p.2:Int),[])) ⟨none,none,rfl⟩ ?_
 refine⟨w.ak,rfl,trivial,by omega,λr f c e=> ?_,?_⟩
 ·obtain⟨a,b,rfl⟩:=e
  refine fm rfl (aC (a_ (aC (a_ (bH ?_)))))
  apply⟨rfl,⟨_,_,rfl⟩,?_⟩
  apply⟨by decide,?_⟩
  exact⟨by show 2<=_;decide,rfl,rfl⟩
 symm
 apply kb (by omega) ?_
 apply uO (α:=List (Str×Nat)×List Rw) (λc=>∃a b,c= [a,b,some Gp.d]) oG (λh=>A7 (fh h.1,[Gp])) ⟨none,none,rfl⟩ ?_
 refine⟨w.af,rfl,trivial,by omega,λr f c e=> ?_,?_⟩
 ·obtain⟨a,b,rfl⟩:=e
  refine fm rfl (aC (a_ (aC (a_ (bH ?_)))))
  apply⟨rfl,⟨_,_,rfl⟩,?_⟩
  refine kb (by have:=(o.hd r f).l1;omega) ?_
  symm
  refine⟨by show 1<=_;decide,?_⟩
  symm
  exact⟨by show 2<=_;decide,rfl,rfl⟩
 symm
 refine⟨by show 4<=_;decide,?_⟩
 have g:w.ao.map (λr=>(c_ r).d)=(bL w).ao.map cT.d:=by simp only[bL,QPq];rfl
 have i:w.ak.map (λp=>vO ((p.2:Int),[]))=(bL w).ak.map vO:=by simp only[bL,QPq];rfl
 have j:w.af.map (λh=>A7 (fh h.1,[Gp]))=(bL w).af.map A7:=by simp only[bL,QPq];rfl
 rw[g,i,j]
 exact cJ (d:=(bL w).d) (λk z=>(nomatch z)) (bB.low _) h
end
end W28
namespace DL
open PySem PySem.Spec L2
section
variable{Γ:cN}{S:aF}
def rZ{f:bE}{Q:D->aF->Prop}(h:E f Γ S λd a=>∃i,d=.int i/\Q (.int (-i)) a):E (qB f) Γ S Q:=by
 obtain⟨d,a,b,i,rfl,q⟩:=h
 exact⟨_,a,by unfold qB;rw[b];rfl,q⟩
def cC{Q:Option Int->aF->Prop}(q:Q none S):E qd Γ S Q:=⟨_,_,rfl,q⟩
def cD{f:bE}{Q:Option Int->aF->Prop}(h:E f Γ S λd a=>∃i,d=.int i/\Q (some i) a):E (oV f) Γ S Q:=by
 obtain⟨d,a,b,i,rfl,q⟩:=h
 exact⟨_,a,by unfold oV;rw[b];rfl,q⟩
def iY{f:bE}{lo hi:Lc}{Q:D->aF->Prop}(h:E f Γ S λd b=>E lo Γ b λl S2=>E hi Γ S2 λu a=>∃ds,d=.tup ds/\Q (.tup (gI ds l u)) a):E (oY f lo hi) Γ S Q:=by
 obtain⟨d,b,c,l,S2,e,u,a,g,ds,rfl,q⟩:=h
 exact⟨_,a,by unfold oY;rw[c];simp only[Qbq];rw[e];simp only[Qbq];rw[g];rfl,q⟩
def MR{i j:Nat}{f:fW}{Q:Out->Prop}(h:E f Γ S λds c=>∃a b,ds= [a,b]/\Q (.nx ((Γ.set i (some a)).set j (some b)) c)):T (AM i j f) Γ S Q:=by
 obtain⟨ds,c,d,a,b,rfl,q⟩:=h
 exact⟨_,by unfold AM;rw[d];rfl,q⟩
end
def BF{α:Type}{xs:List α}{i:Nat}(h:i<=xs.length):gI xs none (some (i:Int))=xs.take i:=by
 unfold gI
 rw[HT.lP,HT.xU,Nat.min_eq_left h]
 simp
def gH{α:Type}{xs:List α}{i:Nat}(h:i<=xs.length):gI xs (some (i:Int)) none=xs.drop i:=by
 unfold gI
 rw[HT.lP,HT.xU,Nat.min_eq_left h]
 rw[List.take_of_length_le]
 simp
def zu{α:Type}{xs:List α}(h:0<xs.length):gI xs none (some (-1))=xs.dropLast:=by
 unfold gI
 rw[HT.lP]
 show(xs.drop 0).take (HT.eX xs.length xs.length (some (-1))-0)=_
 rw[show HT.eX xs.length xs.length (some (-1))=xs.length-1 by simp only[HT.eX];rw[Qhq (by omega)];omega]
 simp[List.dropLast_eq_take]
def Aw{α:Type}{xs:List α}{x:α}(h:xs.getLast? =some x):jU xs (-1)=some x:=by
 have c:0<xs.length:=by
  cases xs with
  |nil=>cases h
  |cons a b=>simp
 unfold jU GU
 rw[Quq (by omega),Qhq (by omega)]
 rw[List.getLast?_eq_getElem?] at h
 simp only[Qbq]
 rw[show((-1:Int)+(xs.length:Int)).toNat=xs.length-1 by omega]
 exact h
end DL
namespace W28
open PySem PySem.Spec L2 DL
section
variable{S:aF}{Q:Res->aF->Prop}
def cf{s:bB}{h:Nat}{vs:List Int}{fs:List cE}{f:cE}(b:s.af[h]?=some (vs,fs))(a:fs.getLast? =some f)(q:Q (.d f.d) S):Fn cV [s.d,.int h] S Q:=by
 refine cg ?_
 unfold kW
 symm
 apply ay rfl ?_
 refine ay (d:=A7 (vs,fs)) (aY (by rw[gQm,b];rfl)) ?_
 symm
 refine ay rfl ?_
 apply rZ ?_
 refine⟨1,rfl,?_⟩
 refine ay (d:=f.d) (Aw (by rw[QfQ,a];rfl)) ?_
 exact cJ (λk z=>(nomatch z)) rfl q
def progOf(w:dD)(h:Nat)(f:cE):Option (List Rw):=
 if f.room= -1 then(w.af[h]?).map (·.2) else if 0<=f.room/\0<=f.deed then(w.ao[f.room.toNat]?).bind λr=>(r.ae[f.deed.toNat]?).map (·.2) else none
def mE{α:Type}{xs:List α}{i:Int}{x:α}(a:0<=i)(h:xs[i.toNat]?=some x):jU xs i=some x:=by
 obtain⟨n,rfl⟩:∃n:Nat,i=n:=⟨i.toNat,by omega⟩
 exact aY (by simpa using h)
def Ad(rs:List Rw):cb 0 (.tup (rs.map Rw.d))=true:=by simp only[cb];exact bc λr _=>r.low
def gB{w:dD}{h:Nat}{f:cE}{pr:List Rw}(a:progOf w h f=some pr)(q:Q (.d (.tup (pr.map Rw.d))) S):Fn fB [w.d,.int h,f.d] S Q:=by
 refine cg ?_
 unfold rJ
 apply bC (MR ?_)
 apply ay rfl ?_
 apply ay rfl ?_
 apply⟨_,_,rfl,?_⟩
 refine eR ?_
 dsimp only
 unfold progOf at a
 by_cases c:f.room= -1
 ·rw[Qhq c] at a
  obtain⟨i,b,rfl⟩:=oQm.mp a
  rw[Qeq c,Qhq rfl]
  symm
  apply ay rfl ?_
  refine ay (d:=oG i) (aY (by rw[gQm,b];rfl)) ?_
  symm
  refine ay rfl ?_
  exact cJ (λk z=>(nomatch z)) (Ad _) q
 ·rw[Quq c] at a
  split at a
  ·rename_i e
   obtain⟨r,b,a⟩:=av a
   obtain⟨j,g,rfl⟩:=oQm.mp a
   rw[Qdq c,Quq (by decide)]
   symm
   apply ay rfl ?_
   refine ay (d:=r.d) (mE e.1 (by rw[gQm,b];rfl)) ?_
   symm
   apply ay rfl ?_
   refine ay (d:=iW j) (mE e.2 (by rw[gQm,g];rfl)) ?_
   symm
   refine ay rfl ?_
   exact cJ (λk z=>(nomatch z)) (Ad _) q
  ·cases a
def dU{xs:List D}{i:Nat}{d:D}(hi:i<xs.length)(hl:xs.length<=900)(g:bS 0 xs=true)(f:cb 0 d=true)(q:Q (.d (.tup (xs.set i d))) S):Fn dA [.tup xs,.int i,d] S Q:=by
 refine cg ?_
 unfold m5
 symm
 apply iY ?_
 apply cC (cD ?_)
 apply⟨_,rfl,_,rfl,?_⟩
 refine⟨by show 1<=_;decide,?_⟩
 rw[BF (by omega)]
 refine et (by simp only[Qxq,Qnq,QGq];exact nQl (bp (by omega))) ?_
 apply iY ?_
 apply cD ?_
 refine⟨_,rfl,cC ⟨_,rfl,?_⟩⟩
 rw[show((i:Int)+1)=((i+1:Nat):Int) by omega,gH (by omega)]
 refine et (by simp only[lQa,Qxq,List.length_drop,Qnq,QGq];exact nQl (bp (by omega))) ?_
 have e:xs.take i++ [d]++xs.drop (i+1)=xs.set i d:=by
  rw[List.set_eq_take_append_cons_drop,Qhq hi]
  simp
 rw[e]
 refine cJ (λk z=>(nomatch z)) ?_ q
 simp only[cb]
 refine xf λz b=> ?_
 rcases QTq b with b|rfl
 ·have c:∀l:List D,bS 0 l=true->∀z∈l,cb 0 z=true:=by
   intro l
   induction l with
   |nil=>intro _ z b;cases b
   | cons a l j=>
     intro h z b
     simp only[bS,QCq] at h
     rcases Qsq.mp b with rfl|b
     · exact h.1
     · exact j h.2 z b
  exact c xs g z b
 ·exact f
end
section
variable{S:aF}{Q:Res->aF->Prop}
def map_set{α b:Type}(f:α->b)(l:List α)(i:Nat)(a:α):(l.set i a).map f=(l.map f).set i (f a):=by
 rw[List.map_set]
def aX(s:bB):∀k,s.d≠.ref k:=λk z=>(nomatch z)
def di{s:bB}{i:Nat}{r:cT}(hi:i<s.ao.length)(hl:s.ao.length<=900)(q:Q (.d ({s with ao:=s.ao.set i r}:bB).d) S):Fn c8 [s.d,.int i,r.d] S Q:=by
 refine cg ?_
 unfold n_
 symm
 apply ay rfl ?_
 apply dU (by simpa using hi) (by simpa using hl) (bc λr _=>r.low) r.low ?_
 refine⟨by show 1<=_;decide,?_⟩
 apply iY ?_
 apply cD ?_
 refine⟨_,rfl,cC ⟨_,rfl,?_⟩⟩
 refine et (by show 4<=_;decide) ?_
 refine cJ (d:=({s with ao:=s.ao.set i r}:bB).d) (aX _) (bB.low _) q|>λz=> ?_
 rw[←map_set]
 exact z
def ic{s:bB}{i:Nat}{p:Int×List Int}(hi:i<s.ak.length)(hl:s.ak.length<=900)(q:Q (.d ({s with ak:=s.ak.set i p}:bB).d) S):Fn ft [s.d,.int i,vO p] S Q:=by
 refine cg ?_
 unfold ni
 symm
 apply ay rfl ?_
 apply ay rfl ?_
 apply dU (by simpa using hi) (by simpa using hl) (bc λr _=>Bv r) (Bv p) ?_
 refine⟨by show 2<=_;decide,?_⟩
 apply iY ?_
 apply cD ?_
 refine⟨_,rfl,cC ⟨_,rfl,?_⟩⟩
 refine et (by show 4<=_;decide) ?_
 refine cJ (d:=({s with ak:=s.ak.set i p}:bB).d) (aX _) (bB.low _) q|>λz=> ?_
 rw[←map_set]
 exact z
def hX{s:bB}{i:Nat}{vs:List Int}{fs:List cE}(hi:i<s.af.length)(hl:s.af.length<=900)(q:Q (.d ({s with af:=s.af.set i (vs,fs)}:bB).d) S):Fn fg [s.d,.int i,bJ vs,.tup (fs.map cE.d)] S Q:=by
 refine cg ?_
 unfold nE
 apply i9 (cc (iY ?_))
 apply cC (cD ?_)
 apply⟨_,rfl,_,rfl,?_⟩
 apply ay rfl ?_
 refine⟨by show 2<=_;decide,?_⟩
 symm
 apply dU (d:=A7 (vs,fs)) (by simpa using hi) (by simpa using hl) (bc λr _=>BO r) (BO (vs,fs)) ?_
 refine⟨by show 1<=_;decide,?_⟩
 refine et (by show 4<=_;decide) ?_
 refine cJ (d:=({s with af:=s.af.set i (vs,fs)}:bB).d) (aX _) (bB.low _) q|>λz=> ?_
 rw[←map_set]
 exact z
def iE{s:bB}{h:Nat}{vs:List Int}{fs:List cE}{f:cE}(a:s.af[h]?=some (vs,fs))(b:0<fs.length)(c:fs.length<=900)(hl:s.af.length<=900)(q:Q (.d ({s with af:=s.af.set h (vs,fs.dropLast++ [f])}:bB).d) S):Fn dN [s.d,.int h,f.d] S Q:=by
 refine cg ?_
 unfold f_
 symm
 apply ay rfl ?_
 refine ay (d:=A7 (vs,fs)) (aY (by rw[gQm,a];rfl)) ?_
 apply fm rfl (aC (a_ (aC (a_ (bH ?_)))))
 apply iY ?_
 apply cC (cD (rZ ?_))
 apply⟨1,rfl,_,rfl,_,rfl,?_⟩
 refine⟨by show 1<=_;decide,?_⟩
 rw[zu (by simpa using b)]
 refine et (by simp only[List.length_dropLast,lQm,Qnq,QGq];exact nQl (bp (by omega))) ?_
 symm
 have e:(fs.map cE.d).dropLast++ [f.d]=(fs.dropLast++ [f]).map cE.d:=by rw[Qzq,List.map_dropLast];rfl
 rw[e]
 refine hX (gQs.mp a).1 hl ?_
 exact cJ (aX _) (bB.low _) q
def qE{s:bB}{h:Nat}{vs:List Int}{fs:List cE}{f:cE}{n:Int}(e:s.af[h]?=some (vs,fs))(c:fs.getLast? =some f)(i:fs.length<=900)(hl:s.af.length<=900)(q:Q (.d ({s with af:=s.af.set h (vs,fs.dropLast++ [{f with row:=n}])}:bB).d) S):Fn kI [s.d,.int h,.int n] S Q:=by
 refine cg ?_
 unfold xt
 symm
 apply cf e c ?_
 apply iY ?_
 apply cC (cD ?_)
 apply⟨_,rfl,_,rfl,?_⟩
 refine⟨by show 1<=_;decide,?_⟩
 refine et (by show 3<=_;decide) ?_
 apply iY ?_
 apply cD ?_
 refine⟨_,rfl,cC ⟨_,rfl,?_⟩⟩
 refine et (by show 5<=_;decide) ?_
 symm
 have g:0<fs.length:=by
  cases fs with
  |nil=>cases c
  |cons a b=>simp
 refine iE (f:={f with row:=n}) e g i hl ?_
 exact cJ (aX _) (bB.low _) q
def g_(r:cT)(h:Int):cT:=if r.within= -1 then{r with within:=h} else{r with row:=r.row++ [h]}
def cu(r:cT):cT:=match r.ag,r.row with
 |a::l,_=>{r with within:=a,ag:=l}
 | [],a::l=>{r with within:=a,row:=l}
 | [],[]=>{r with within:= -1}
def uU{s:bB}{i:Nat}{h:Int}{r:cT}(a:s.ao[i]?=some r)(hl:s.ao.length<=900)(lr:r.row.length<=900)(q:Q (.d ({s with ao:=s.ao.set i (g_ r h)}:bB).d) S):Fn k0 [s.d,.int i,.int h] S Q:=by
 have b:=(gQs.mp a).1
 refine cg ?_
 unfold tY
 symm
 apply ay rfl ?_
 refine ay (d:=r.d) (aY (by rw[gQm,a];rfl)) ?_
 apply fm rfl (aC (a_ (aC (a_ (aC (a_ (aC (a_ (aC (a_ (bH ?_)))))))))))
 refine eR ?_
 dsimp only
 unfold g_ at q
 by_cases c:r.within= -1
 ·rw[Qhq c] at q
  rw[Qeq c,Qhq rfl]
  symm
  refine⟨by show 5<=_;decide,?_⟩
  symm
  refine di (r:={r with within:=h}) b hl ?_
  exact cJ (aX _) (bB.low _) q
 ·rw[Quq c] at q
  rw[Qdq c,Quq (by decide)]
  symm
  refine⟨by show 1<=_;decide,?_⟩
  refine et (by simp only[lQm,Qnq,QGq];exact nQl (bp (by omega))) ?_
  symm
  refine⟨by show 5<=_;decide,?_⟩
  symm
  have e:D.tup (r.row.map D.int++ [D.int h])=bJ (r.row++ [h]):=by simp[bJ]
  rw[e]
  refine di (r:={r with row:=r.row++ [h]}) b hl ?_
  exact cJ (aX _) (bB.low _) q
end
section
variable{S:aF}{Q:Res->aF->Prop}
def Gy{α:Type}{a:α}{l:List α}:jU (a::l) 0=some a:=aY (j:=0) rfl
def yT{S:aF}{ds:List D}{Q:Bool->Prop}(q:Q (!ds.isEmpty)):Op (Bb S (.tup ds)) Q:=⟨_,rfl,q⟩
def zW{s:bB}{i:Nat}{r:cT}(k:s.ao[i]?=some r)(hl:s.ao.length<=900)(q:Q (.d ({s with ao:=s.ao.set i (cu r)}:bB).d) S):Fn qy [s.d,.int i] S Q:=by
 have j:=(gQs.mp k).1
 refine cg ?_
 unfold BV
 symm
 apply ay rfl ?_
 refine ay (d:=r.d) (aY (by rw[gQm,k];rfl)) ?_
 refine fm rfl (aC (a_ (aC (a_ (aC (a_ (aC (a_ (aC (a_ (bH ?_)))))))))))
 obtain⟨b,g,f,m,h⟩:=r
 symm
 refine yT ?_
 cases m with
 | cons a l=>
   apply aV (λ_=> ?_) (λc=>by cases c)
   apply ay (d:=.int a) Gy ?_
   apply iY ?_
   apply cD ?_
   apply⟨_,rfl,cC ⟨_,rfl,?_⟩⟩
   refine⟨by show 5<=_;decide,?_⟩
   symm
   have e:D.tup (gI ((a::l).map D.int) (some 1) none)=bJ l:=by
     rw[show(some (1:Int))=some ((1:Nat):Int) from rfl,gH (by simp)]
     rfl
   rw[e]
   refine di (r:=⟨b,a,f,l,h⟩) j hl ?_
   exact cJ (aX _) (bB.low _) q
 | nil=>
   refine aV (λc=>by cases c) (λ_=> ?_)
   apply cy ?_
   refine yT ?_
   cases f with
   | cons a l=>
     apply aV (λ_=> ?_) (λc=>by cases c)
     apply ay (d:=.int a) Gy ?_
     apply iY ?_
     apply cD ?_
     apply⟨_,rfl,cC ⟨_,rfl,?_⟩⟩
     refine⟨by show 5<=_;decide,?_⟩
     symm
     have e:D.tup (gI ((a::l).map D.int) (some 1) none)=bJ l:=by
       rw[show(some (1:Int))=some ((1:Nat):Int) from rfl,gH (by simp)]
       rfl
     rw[e]
     refine di (r:=⟨b,a,l,[],h⟩) j hl ?_
     exact cJ (aX _) (bB.low _) q
   | nil=>
     refine aV (λc=>by cases c) (λ_=> ?_)
     apply cy ?_
     refine⟨by show 5<=_;decide,?_⟩
     symm
     refine di (r:=⟨b,-1,[],[],h⟩) j hl ?_
     exact cJ (aX _) (bB.low _) q
def fE{α:Type}{enc:α->D}{nm:α->Str}{xs:List α}(he:∀a,∃r,enc a=.tup (.str (nm a)::r))(hl:xs.length<=1000)(q:Q (.l ((xs.map nm).map D.str)) S):Fn ee [.tup (xs.map enc)] S Q:=by
 refine cg ?_
 unfold qk
 symm
 apply uO (α:=α) (λb=>∃a,b= [a]) enc (λa=>.str (nm a)) ⟨none,rfl⟩ ?_
 refine⟨xs,rfl,trivial,hl,λr d b c=> ?_,?_⟩
 ·obtain⟨a,rfl⟩:=c
  refine a_ ⟨rfl,⟨_,rfl⟩,?_⟩
  obtain⟨f,e⟩:=he r
  rw[e]
  symm
  exact ay Gy ⟨rfl,rfl⟩
 ·have e:xs.map (λa=>D.str (nm a))=(xs.map nm).map D.str:=by rw[QPq];rfl
  rw[e]
  exact FM (bc λ_ _=>rfl) q
theorem nz:∀ss:List Str,iU (ss.map D.str)=some (ss.map V.str)
 | []=>rfl
 |s::ss=>by simp only[QDq,iU,yu,Qbq];rw[nz ss];rfl
theorem xu{x:Str}:∀{ns:List Str},x∈ns->∃j,pK (.str x) (ns.map V.str)=some j/\ns[j]?=some x
 | [],h=>by cases h
 | n::ns,h=>by
   by_cases c:n=x
   · subst c
     exact⟨0,by simp[pK,sA],rfl⟩
   · obtain⟨j,b,a⟩:=xu (ns:=ns) ((Qsq.mp h).resolve_left (Ne.symm c))
     exact⟨j+1,by simp only[QDq,pK];rw[b];simp[sA,c],by simpa using a⟩
end
end W28
namespace DL
open PySem PySem.Spec L2
section
variable{Γ:cN}{S:aF}
def MA{T:String}{f:bE}{Q:D->aF->Prop}(h:E f Γ S λd a=>Op (G0 a T d) λk=>Q (.bl k) a):E (DF T f) Γ S Q:=by
 obtain⟨d,a,b,k,c,q⟩:=h
 exact⟨_,a,by unfold DF;rw[b];simp only[Qbq];rw[c];rfl,q⟩
def nk{b:Bool}{Q:Bool->Prop}(q:Q b):Op (Bb S (.bl b)) Q:=⟨_,rfl,q⟩
def Mn{f g:bE}{Q:D->aF->Prop}(h:E f Γ S λx a=>E g Γ a λy S2=>∃k kvs z v,x=.ref k/\y=.str z/\S2[k]?=some (.dct kvs)/\um kvs (.inr z)=some v/\Q v S2):E (LO f g) Γ S Q:=by
 obtain⟨x,a,b,y,S2,c,k,kvs,z,v,rfl,rfl,h1,h2,q⟩:=h
 exact⟨v,S2,by unfold LO;rw[b];simp only[Qbq];rw[c];simp only[Qbq,h1,vS,h2],q⟩
def oQ{i j:Int}{Q:D->Prop}(q:Q (.bl (!decide (i=j)))):Op (fP true S (.int i) (.int j)) Q:=⟨_,by simp[fP,yu,Be],q⟩
def FY{i j:Int}{Q:D->Prop}(q:Q (.int (if j<i then j else i))):Op (minD [.int i,.int j]) Q:=⟨_,rfl,q⟩
def Jj{i j:Int}{Q:D->Prop}(q:Q (.int (if j>i then j else i))):Op (maxD [.int i,.int j]) Q:=⟨_,rfl,q⟩
end
end DL
namespace W28
open PySem PySem.Spec L2 DL
def K8(o:Str)(a b:Int):Int:=
 if o="plus" then(if 9<a+b then 9 else a+b) else if o="minus" then(if 0>a-b then 0 else a-b) else if o="less" then(if a<b then 1 else 0)
 else if o="same" then(if a=b then 1 else 0) else(if a≠0/\b≠0 then 1 else 0)
def A9(th wt:Str->Int):Tr->Int
 |.num n=>n
 |.word x=>th x
 |.waits b=>if 0<wt b then 1 else 0
 |.no t=>if A9 th wt t=0 then 1 else 0
 |.two o a b=>K8 o (A9 th wt a) (A9 th wt b)
def Ec{o:Str}{a b:Int}(d:0<=a/\a<=9)(c:0<=b/\b<=9):0<=K8 o a b/\K8 o a b<=9:=by
 unfold K8
 repeat' split
 all_goals omega
theorem mv{th wt:Str->Int}{ws bs:List Str}(h:∀x∈ws,0<=th x/\th x<=9):∀{t:Tr},t.Ok ws bs->0<=A9 th wt t/\A9 th wt t<=9
 |.num n,ho=>by have:n<=9:=ho;simp only[A9];omega
 |.word x,ho=>h x ho
 |.waits b,_=>by simp only[A9];split <;>omega
 |.no t,_=>by simp only[A9];split <;>omega
 |.two o a b,ho=>Ec (mv h ho.2.1) (mv h ho.2.2)
section
variable{S:aF}{Q:Res->aF->Prop}
def dI{S:aF}{i:Int}{Q:Res->aF->Prop}(q:Q (.d (.int i)) S):Op (settle S (.int i) S) λp=>Q p.1 p.2:=cJ (λk z=>(nomatch z)) rfl q
def sF{o:Str}{a b:Int}(q:Q (.d (.int (K8 o a b))) S):Fn gE [.str o,.int a,.int b] S Q:=by
 refine cg ?_
 unfold jn
 unfold K8 at q
 symm
 refine ji ?_
 dsimp only
 by_cases h:o="plus"
 ·rw[Qhq h] at q
  rw[Qeq h,Qhq rfl]
  symm
  refine FY ?_
  exact dI q
 rw[Quq h] at q
 rw[Qdq h,Quq (by decide)]
 apply cy ?_
 refine ji ?_
 dsimp only
 by_cases i:o="minus"
 ·rw[Qhq i] at q
  rw[Qeq i,Qhq rfl]
  symm
  refine Jj ?_
  exact dI q
 rw[Quq i] at q
 rw[Qdq i,Quq (by decide)]
 apply cy ?_
 refine ji ?_
 dsimp only
 by_cases f:o="less"
 ·rw[Qhq f] at q
  rw[Qeq f,Qhq rfl]
  symm
  by_cases c:a<b
  ·rw[Qhq c] at q
   rw[Qeq c,Qhq rfl]
   symm
   exact dI q
  ·rw[Quq c] at q
   rw[Qdq c,Quq (by decide)]
   symm
   exact dI q
 rw[Quq f] at q
 rw[Qdq f,Quq (by decide)]
 apply cy ?_
 refine ji ?_
 dsimp only
 by_cases j:o="same"
 ·rw[Qhq j] at q
  rw[Qeq j,Qhq rfl]
  symm
  refine eR ?_
  dsimp only
  by_cases c:a=b
  ·rw[Qhq c] at q
   rw[Qeq c,Qhq rfl]
   symm
   exact dI q
  ·rw[Quq c] at q
   rw[Qdq c,Quq (by decide)]
   symm
   exact dI q
 rw[Quq j] at q
 rw[Qdq j,Quq (by decide)]
 apply cy ?_
 refine oQ ?_
 dsimp only
 by_cases g:a=0
 ·rw[Quq (λz=>z.1 g)] at q
  rw[Qeq g]
  show if (false=true) then _ else _
  rw[Quq (by decide)]
  show if (false=true) then _ else _
  rw[Quq (by decide)]
  symm
  exact dI q
 ·rw[Qdq g]
  show if (true=true) then _ else _
  rw[Qhq rfl]
  symm
  refine oQ ?_
  dsimp only
  by_cases e:b=0
  ·rw[Quq (λz=>z.2 e)] at q
   rw[Qeq e]
   show if (false=true) then _ else _
   rw[Quq (by decide)]
   symm
   exact dI q
  ·rw[Qhq ⟨g,e⟩] at q
   rw[Qdq e]
   show if (true=true) then _ else _
   rw[Qhq rfl]
   symm
   exact dI q
end
def ib{c:cN}{S:aF}{T:String}{f:bE}{d:D}{b:Bool}{Q:Bool->aF->Prop}(h:E f c S λx a=>x=d/\a=S)(hd:G0 S T d=some b)(q:Q b S):E (mK (DF T f)) c S Q:=by
 refine wF (MA (h.mono λx a e=> ?_))
 obtain⟨g,i⟩:=e
 subst g i
 exact⟨b,hd,nk q⟩
def GW{o:Str}(h:o∈ops):o≠"waits" /\o≠"not":=by
 simp only[ops,Qsq,QXq,or_false] at h
 rcases h with rfl|rfl|rfl|rfl|rfl <;>exact⟨by decide +kernel,by decide +kernel⟩
theorem gG{th wt:Str->Int}{ws bs:List Str}{i j:Nat}{kvs kws:List (Key×D)}{S:aF}(hi:S[i]?=some (.dct kvs))(g:S[j]?=some (.dct kws))(e:∀x∈ws,um kvs (.inr x)=some (.int (th x)))(f:∀b∈bs,um kws (.inr b)=some (.int (wt b))):
  ∀(n:Nat) (t:Tr) {Q:Res->aF->Prop},t.Ok ws bs->t.dep<=n->Q (.d (.int (A9 th wt t))) S->Fn (gu n) [t.d,.ref i,.ref j] S Q
 |0,t,Q,_,hd,_=>by cases t <;>simp[Tr.dep] at hd
 | n+1,t,Q,ho,hd,q=>by
   refine cg ?_
   unfold qm
   cases t with
   | num v=>
     refine bC (dZ (ib (d:=.int v) (aK rfl ⟨rfl,rfl⟩) rfl ?_))
     apply aV (λ_=> ?_) (λc=>by cases c)
     exact dI q
   | word x=>
     refine bC (dZ (ib (d:=.str x) (aK rfl ⟨rfl,rfl⟩) rfl ?_))
     refine aV (λc=>by cases c) (λ_=>cy ?_)
     refine bC (dZ (ib (d:=.str x) (aK rfl ⟨rfl,rfl⟩) rfl ?_))
     refine aV (λ_=> ?_) (λc=>by cases c)
     apply i9 (Mn ?_)
     refine⟨_,_,_,_,rfl,rfl,hi,e x ho,?_⟩
     exact dI q
   | waits b=>
     refine bC (dZ (ib (d:=.tup [.str "waits",.str b]) (aK rfl ⟨rfl,rfl⟩) rfl ?_))
     refine aV (λc=>by cases c) (λ_=>cy ?_)
     refine bC (dZ (ib (d:=.tup [.str "waits",.str b]) (aK rfl ⟨rfl,rfl⟩) rfl ?_))
     apply aV (λc=>by cases c) (λ_=>cy ?_)
     apply ay rfl ?_
     refine ji ?_
     dsimp only
     rw[Qeq rfl,Qhq rfl]
     symm
     apply Mn ?_
     refine ay rfl ?_
     apply⟨_,_,_,_,rfl,rfl,g,f b ho,?_⟩
     simp only[A9] at q
     by_cases c:0<wt b
     · rw[Qhq c] at q
       rw[Qeq c,Qhq rfl]
       symm
       exact dI q
     · rw[Quq c] at q
       rw[Qdq c,Quq (by decide)]
       symm
       exact dI q
   | no t=>
     have l:t.dep<=n:=by simp only[Tr.dep] at hd;omega
     refine bC (dZ (ib (d:=.tup [.str "not",t.d]) (aK rfl ⟨rfl,rfl⟩) rfl ?_))
     refine aV (λc=>by cases c) (λ_=>cy ?_)
     refine bC (dZ (ib (d:=.tup [.str "not",t.d]) (aK rfl ⟨rfl,rfl⟩) rfl ?_))
     apply aV (λc=>by cases c) (λ_=>cy ?_)
     apply ay rfl ?_
     refine ji ?_
     dsimp only
     rw[Qdq (show¬(("not":Str)="waits") by decide +kernel),Quq (by decide)]
     apply cy ?_
     apply ay rfl ?_
     apply gG hi g e f n t ho l ?_
     apply ay rfl ?_
     refine ji ?_
     dsimp only
     rw[Qeq rfl,Qhq rfl]
     symm
     refine eR ?_
     dsimp only
     simp only[A9] at q
     by_cases c:A9 th wt t=0
     · rw[Qhq c] at q
       rw[Qeq c,Qhq rfl]
       symm
       exact dI q
     · rw[Quq c] at q
       rw[Qdq c,Quq (by decide)]
       symm
       exact dI q
   | two o a b=>
     have k:a.dep<=n:=by simp only[Tr.dep] at hd;omega
     have h:b.dep<=n:=by simp only[Tr.dep] at hd;omega
     obtain⟨p,m⟩:=GW ho.1
     refine bC (dZ (ib (d:=.tup [.str o,a.d,b.d]) (aK rfl ⟨rfl,rfl⟩) rfl ?_))
     refine aV (λc=>by cases c) (λ_=>cy ?_)
     refine bC (dZ (ib (d:=.tup [.str o,a.d,b.d]) (aK rfl ⟨rfl,rfl⟩) rfl ?_))
     apply aV (λc=>by cases c) (λ_=>cy ?_)
     apply ay rfl ?_
     refine ji ?_
     dsimp only
     rw[Qdq p,Quq (by decide)]
     apply cy ?_
     apply ay rfl ?_
     apply gG hi g e f n a ho.2.1 k ?_
     apply ay rfl ?_
     refine ji ?_
     dsimp only
     rw[Qdq m,Quq (by decide)]
     apply cy ?_
     apply ay rfl ?_
     apply ay rfl ?_
     apply gG hi g e f n b ho.2.2 h ?_
     refine sF ?_
     exact dI q
end W28
namespace DL
open PySem PySem.Spec L2
def wD{l:List (Key×D)}{k:Key}(h:k∈l.map (·.1)):∃d,um l k=some d/\(k,d)∈l:=by
 unfold um
 cases e:l.find? λc=>decide (c.1=k) with
 | none=>
   obtain⟨p,f,rfl⟩:=Qkq.mp h
   have:=List.find?_eq_none.mp e p f
   simp at this
 | some p=>
   have b:=List.find?_some e
   have a:=List.mem_of_find?_eq_some e
   have g:p.1=k:=by simpa using b
   exact⟨p.2,rfl,by rw[←g];exact a⟩
def zH{l:List (Key×D)}{k:Key}{v:D}{p:Key×D}(h:p∈putD l k v):p∈l\/p=(k,v):=by
 unfold putD at h
 split at h
 ·obtain⟨q,a,e⟩:=Qkq.mp h
  split at e
  ·rename_i c
   rw[←e,c]
   exact .inr rfl
  ·rw[←e]
   exact .inl a
 ·rcases mQa.mp h with h|h
  ·exact .inl h
  ·exact .inr (Qfq.mp h)
def mD{l:List (Key×D)}{k x:Key}{v:D}(h:x=k\/x∈l.map (·.1)):x∈(putD l k v).map (·.1):=by
 unfold putD
 split
 ·rename_i c
  have a:∀p∈l,(if p.1=k then(p.1,v) else p).1=p.1:=λp _=>by split <;>rfl
  have e:(l.map λp=>if p.1=k then(p.1,v) else p).map (·.1)=l.map (·.1):=by
   rw[QPq]
   exact List.map_congr_left a
  rw[e]
  rcases h with rfl|h
  ·obtain⟨p,b,d⟩:=List.any_eq_true.mp c
   exact Qkq.mpr ⟨p,b,by simpa using d⟩
  ·exact h
 ·rw[Qzq]
  rcases h with rfl|h
  ·exact Qoq _ (by simp)
  ·exact List.mem_append_left _ h
theorem nT:∀{more l:List (Key×D)} {p:Key×D},p∈c7 l more->p∈l\/p∈more
 | [],l,p,h=>.inl h
 | q::more,l,p,h=>by
   rcases nT (more:=more) (l:=putD l q.1 q.2) h with h|h
   · rcases zH h with h|rfl
     · exact .inl h
     · exact .inr (QBq ..)
   · exact .inr (Qpq _ h)
theorem gR:∀{more l:List (Key×D)} {x:Key},x∈l.map (·.1)\/x∈more.map (·.1)->x∈(c7 l more).map (·.1)
 | [],l,x,h=>h.elim id λz=>by cases z
 | q::more,l,x,h=>by
   refine gR (more:=more) (l:=putD l q.1 q.2) ?_
   rcases h with h|h
   · exact .inl (mD (.inr h))
   · rcases Qsq.mp h with rfl|h
     · exact .inl (mD (.inl rfl))
     · exact .inr h
theorem uH:∀ss:List Str,As (ss.map D.str)=some (ss.map Sum.inr)
 | []=>rfl
 |s::ss=>by simp only[QDq,As,vS,Qbq];rw[uH ss];rfl
section
variable{Γ:cN}{S:aF}
def NP{Q:D->aF->Prop}(q:Q (.ref S.length) (S++ [.dct []])):E NC Γ S Q:=⟨_,_,rfl,q⟩
def JA{f g:dF}{Q:D->aF->Prop}(h:E f Γ S λp a=>E g Γ a λr S2=>∃ss:List Str,p.1=ss.map D.str/\(p.2.stays S2 p.1/\p.1.length=r.1.length)/\Q (.ref S2.length) (S2++ [.dct (c7 [] ((ss.map Sum.inr).zip r.1))])):E (Li f g) Γ S Q:=by
 obtain⟨p,a,d,r,S2,e,ss,c,b,q⟩:=h
 refine⟨_,_,?_,q⟩
 unfold Li
 rw[d]
 simp only[Qbq]
 rw[e]
 simp only[Qbq]
 rw[Qhq b,c,uH]
 rfl
def MT{f g:bE}{Q:D->aF->Prop}(h:E f Γ S λx a=>E g Γ a λy S2=>∃k j b l m,x=.ref k/\y=.ref j/\k≠j/\a[k]?=some (.dct b)/\S2[k]?=some (.dct l)/\S2[j]?=some (.dct m)/\l.length+m.length<=sizeLine/\Q .non (S2.set k (.dct (c7 l m)))):E (Hf f g) Γ S Q:=by
 obtain⟨x,a,d,y,S2,c,k,j,b,l,m,rfl,rfl,hn,h0,h1,h2,h3,q⟩:=h
 exact⟨_,_,by unfold Hf;rw[d];simp only[Qbq];rw[c];simp only[Qbq];rw[Qhq hn];simp only[h0,h1,h2];rw[Qhq h3],q⟩
def NA{f g h:bE}{Q:Out->Prop}(w:E h Γ S λd b=>E f Γ b λx S2=>E g Γ S2 λy a=>∃k l z,x=.ref k/\y=.str z/\a[k]?=some (.dct l)/\l.length<sizeLine/\Q (.nx Γ (a.set k (.dct (putD l (.inr z) d))))):T (Nb f g h) Γ S Q:=by
 obtain⟨d,b,c,x,S2,e,y,a,i,k,l,z,rfl,rfl,h1,h2,q⟩:=w
 exact⟨_,by unfold Nb;rw[c];simp only[Qbq];rw[e];simp only[Qbq];rw[i];simp only[Qbq,h1,vS];rw[Qhq h2],q⟩
def Nw{α:Type}{n:Nat}{js:List (Option Nat)}{i:vw}{g:mI}{w s:bE}{Q:Out->Prop}(P:cN->Prop)(enc:α->D)(j:α->Str)(f:α->D)(M:P (p6 js Γ)) (h:E i Γ S λp d=>∃xs:List α,p.1=xs.map enc/\p.2 d/\xs.length<=1000∧
   (∀x∈xs,∀c,P c->Tg g (enc x) c d λe S2=>S2=d/\P e/\E w e d λy A=>y=.str (j x)/\A=d/\E s e d λz B=>z=f x/\B=d)∧
   Q (.nx (Γ.set n (some (.ref d.length))) (d++ [.dct (c7 [] (xs.map λx=>(Sum.inr (j x),f x)))]))):T (LS n (qV js i g de w s)) Γ S Q:=by
 obtain⟨⟨R,W⟩,d,H,xs,rfl,hW,hl,hs,q⟩:=h
 have K:∀(l:List (Key×D)) (k:Key) (v:D),(putD l k v).length<=l.length+1:=λl k v=>by
  unfold putD
  split <;>simp
 have N:∀(m:List α) (c:cN) (b:List (Key×D)),(∀y∈m,y∈xs)->P c->b.length+m.length<=1000->∃r,jk g de w s W (m.map enc) c d b=some (r,d)/\r=c7 b (m.map λx=>(Sum.inr (j x),f x)):=by
  intro m
  induction m with
  |nil=>intro c b _ _ _;exact⟨b,by simp only[List.map_nil,jk];rw[Qhq hW],rfl⟩
  | cons a m G=>
    intro c b C I o
    obtain⟨e,S2,t,rfl,hp1,y,A,e3,rfl,rfl,z,B,e4,rfl,rfl⟩:=hs a (C a (QBq ..)) c I
    have u:=K b (Sum.inr (j a)) (f a)
    simp only[Qnq] at o
    obtain⟨r,L,F⟩:=G e (putD b (Sum.inr (j a)) (f a)) (λy J=>C y (Qpq _ J)) hp1 (by omega)
    refine⟨r,?_,F⟩
    simp only[QDq,jk]
    rw[Qhq hW,t]
    simp only[Qbq,de,if_true]
    rw[e3]
    simp only[Qbq]
    rw[e4]
    simp only[Qbq,vS]
    rw[Qhq (bp (by omega))]
    exact L
 obtain⟨r,t,rfl⟩:=N xs _ [] (λ_ h=>h) M (by simpa using hl)
 exact⟨_,by unfold LS qV;rw[H];simp only[Qbq];rw[t];rfl,q⟩
end
def BZ{a:cN}{S:aF}{f g:dF}{Q:(List D×(aF->Prop))->aF->Prop}(h:E f a S λp b=>E g a b λr S2=>(p.2.stays S2 p.1/\p.1.length<=r.1.length)/\Q (z_ p.1 r.1,λS=>p.2.stays S p.1/\r.2.stays S r.1) S2):E (Eb f g) a S Q:=by
 obtain⟨p,b,c,r,S2,e,d,q⟩:=h
 exact⟨_,S2,by unfold Eb;rw[c];simp only[Qbq];rw[e];simp only[Qbq];rw[Qhq d],q⟩
def lD(l:List (Key×D)):Prop:=∀p∈l,∃v:Int,p.2=.int v/\0<=v/\v<=9
def lD.merge{l m:List (Key×D)}(b:lD l)(a:lD m):lD (c7 l m):=λp c=>(nT c).elim (b p) (a p)
def lD.put{l:List (Key×D)}{k:Key}{v:Int}(h:lD l)(b:0<=v)(c:v<=9):lD (putD l k (.int v)):=λp a=>by
 rcases zH a with a|rfl
 ·exact h p a
 ·exact⟨v,rfl,b,c⟩
def numAt(l:List (Key×D))(x:Str):Int:=match um l (.inr x) with|some (.int v)=>v|_=>0
def pe{l:List (Key×D)}(h:lD l){x:Str}(g:(Sum.inr x:Key)∈l.map (·.1)):um l (.inr x)=some (.int (numAt l x))/\0<=numAt l x/\numAt l x<=9:=by
 obtain⟨d,b,f⟩:=wD g
 obtain⟨v,a,i,c⟩:=h _ f
 have a:d=.int v:=a
 subst a
 have e:numAt l x=v:=by unfold numAt;rw[b]
 rw[e]
 exact⟨b,i,c⟩
def Gf{ss:List Str}{vs:List Int}(h:∀v∈vs,0<=v/\v<=9):lD ((ss.map (Sum.inr:Str->Key)).zip (vs.map D.int)):=λp b=>by
 have a:p.2∈vs.map D.int:=(QeQ (show(p.1,p.2)∈_ from b)).2
 obtain⟨v,c,e⟩:=Qkq.mp a
 exact⟨v,e.symm,h v c⟩
def E5{ss:List Str}{ds:List D}(h:ss.length=ds.length):((ss.map (Sum.inr:Str->Key)).zip ds).map (·.1)=ss.map Sum.inr:=by
 rw[List.map_fst_zip]
 simpa using Nat.le_of_eq h
end DL
namespace W28
open PySem PySem.Spec L2 DL
def ed(ts:List (Str×Nat))(vs:List Int):List (Key×D):=c7 [] (((ts.map (·.1)).map Sum.inr).zip (vs.map D.int))
def D3(w:dD)(s:bB)(ts:List (Str×Nat))(vs:List Int):List (Key×D):=c7 (ed w.aq s.aq) (ed ts vs)
def wL(r:Rm)(rs:cT)(a:Int):List (Key×D):=putD (ed r.ar rs.vals) (.inr "given") (.int a)
def Di(r:Rm)(rs:cT):List (Key×D):=c7 [] ((r.aa.zip rs.aa).map λp=>(Sum.inr p.1.1,D.int (p.2.length:Nat)))
def ig{ts:List (Str×Nat)}{vs:List Int}(h:∀v∈vs,0<=v/\v<=9):lD (ed ts vs):=lD.merge (λp a=>by cases a) (Gf h)
def iu{ts:List (Str×Nat)}{vs:List Int}(hl:ts.length=vs.length){x:Str}(h:x∈ts.map (·.1)):(Sum.inr x:Key)∈(ed ts vs).map (·.1):=by
 refine gR (.inr ?_)
 rw[E5 (by simpa using hl)]
 exact Qkq.mpr ⟨x,h,rfl⟩
structure oA(S S':aF):Prop where
 len:S.length<=S'.length
 eq:∀j,j<S.length->S'[j]?=S[j]?
def oA.refl{S:aF}:oA S S:=⟨Qmq _,λ_ _=>rfl⟩
def oA.app{S a G:aF}(x:oA S a):oA S (a++G):=⟨by rw[lQa];have:=x.len;omega,λj b=>by rw[QHq (by have:=x.len;omega)];exact x.eq j b⟩
def oA.put{S a:aF}{r:Nat}{o:O}(x:oA S a)(c:S.length<=r):oA S (a.set r o):=⟨by simpa using x.len,λj b=>by rw[QKq (by omega)];exact x.eq j b⟩
def wy{S b:aF}{d:D}{Q:Res->aF->Prop}(x:oA S b)(hd:∀k,d≠.ref k)(hl:cb 0 d=true)(q:Q (.d d) S):Op (settle S d b) λp=>Q p.1 p.2:=by
 refine ip ⟨x.len,λk o c e=>.inl (by rw[←x.eq k c];exact e)⟩ ?_ hd (dk hl) q
 apply List.ext_getElem?
 intro j
 by_cases a:j<S.length
 ·rw[List.getElem?_take_of_lt a]
  exact x.eq j a
 ·rw[List.getElem?_eq_none (by rw[Qxq];omega),List.getElem?_eq_none (by omega)]
def h_:∀a:Str×Nat,∃r,wX a=.tup (.str a.1::r):=λa=>⟨_,rfl⟩
def C6:∀a:Str×Str,∃r,F0 a=.tup (.str a.1::r):=λa=>⟨_,rfl⟩
section
variable{S:aF}{Q:Res->aF->Prop}
theorem uJ:∀{m l:List (Key×D)},(c7 l m).length<=l.length+m.length
 | [],l=>Qmq _
 | q::m,l=>by
   have a:(c7 (putD l q.1 q.2) m).length<=(putD l q.1 q.2).length+m.length:=uJ
   have b:(putD l q.1 q.2).length<=l.length+1:=by unfold putD;split <;>simp
   show(c7 (putD l q.1 q.2) m).length<=_
   simp only[Qnq]
   omega
def uw{ts:List (Str×Nat)}{vs:List Int}:(ed ts vs).length<=ts.length:=by
 refine QAq uJ ?_
 simp only[QGq,List.length_zip,lQm]
 omega
def yi{w:dD}{s:bB}{h:Nat}{ts:List (Str×Nat)}{pr:List Rw}{vs:List Int}{fs:List cE}{f:cE}{t:Tr}(G:w.af[h]?=some (ts,pr))(p:s.af[h]?=some (vs,fs))(A:fs.getLast? =some f)(u:f.room= -1)
  (n:w.aq.length=s.aq.length) (o:ts.length=vs.length) (J:w.aq.length<=100) (M:ts.length<=100) (H:∀v∈s.aq,0<=v/\v<=9) (B:∀v∈vs,0<=v/\v<=9)
  (y:t.Ok (ts.map (·.1)++w.aq.map (·.1)) []) (hd:t.dep<=6) (q:Q (.d (.int (A9 (numAt (D3 w s ts vs)) (λ_=>0) t))) S):Fn dP [w.d,s.d,.int h,t.d] S Q:=by
 have a:lD (D3 w s ts vs):=lD.merge (ig H) (ig B)
 refine cg ?_
 unfold mF
 symm
 apply cf p A ?_
 apply ay (d:=.int f.room) rfl ?_
 refine eR ?_
 dsimp only
 rw[Qeq u,Qhq rfl]
 symm
 apply JA ?_
 apply ay rfl ?_
 apply fE (enc:=wX) (nm:=(·.1)) h_ (by omega) ?_
 refine ay rfl ?_
 refine cI (ds:=s.aq.map D.int) ?_
 refine⟨_,rfl,⟨trivial,by simp only[lQm];exact n⟩,?_⟩
 dsimp only
 rw[show c7 [] (((w.aq.map (·.1)).map (Sum.inr:Str->Key)).zip (s.aq.map D.int))=ed w.aq s.aq from rfl]
 apply bC (iZ (MT ?_))
 apply JA ?_
 apply ay rfl ?_
 refine ay (d:=oG (ts,pr)) (aY (by rw[gQm,G];rfl)) ?_
 symm
 apply ay rfl ?_
 apply fE (enc:=wX) (nm:=(·.1)) h_ (by omega) ?_
 apply ay rfl ?_
 refine ay (d:=A7 (vs,fs)) (aY (by rw[gQm,p];rfl)) ?_
 symm
 refine ay rfl ?_
 refine cI (ds:=vs.map D.int) ?_
 refine⟨_,rfl,⟨trivial,by simp only[lQm];exact o⟩,?_⟩
 dsimp only
 rw[show c7 [] (((ts.map (·.1)).map (Sum.inr:Str->Key)).zip (vs.map D.int))=ed ts vs from rfl]
 have e:(S++ [O.dct (ed w.aq s.aq)])[S.length]?=some (.dct (ed w.aq s.aq)):=aL
 have g:(S++ [O.dct (ed w.aq s.aq)]).length=S.length+1:=by simp
 have F:oA S (S++ [O.dct (ed w.aq s.aq)]):=oA.refl.app
 show∃k j I l m,D.ref S.length=.ref k/\D.ref (S++ [O.dct (ed w.aq s.aq)]).length=.ref j/\k≠j/\(S++ [O.dct (ed w.aq s.aq)])[k]?=some (.dct I)/\(S++ [O.dct (ed w.aq s.aq)]++ [O.dct (ed ts vs)])[k]?=some (.dct l)/\(S++ [O.dct (ed w.aq s.aq)]++ [O.dct (ed ts vs)])[j]?=some (.dct m)/\_
 refine⟨_,_,_,_,_,rfl,rfl,by omega,e,aM e,aL,?_,?_⟩
 ·have K:=uw (ts:=w.aq) (vs:=s.aq)
  have L:=uw (ts:=ts) (vs:=vs)
  exact nQl (bp (by omega))
 have i:((S++ [O.dct (ed w.aq s.aq)]++ [O.dct (ed ts vs)]).set S.length (.dct (c7 (ed w.aq s.aq) (ed ts vs))))[S.length]?=some (.dct (D3 w s ts vs)):=cM (aM e)
 have r:oA S ((S++ [O.dct (ed w.aq s.aq)]++ [O.dct (ed ts vs)]).set S.length (.dct (c7 (ed w.aq s.aq) (ed ts vs)))):=F.app.put (Qmq _)
 generalize ((S++ [O.dct (ed w.aq s.aq)]++ [O.dct (ed ts vs)]).set S.length (.dct (c7 (ed w.aq s.aq) (ed ts vs))))=S2 at i r⊢
 symm
 apply NP ?_
 refine gG (th:=numAt (D3 w s ts vs)) (wt:=λ_=>0) (ws:=ts.map (·.1)++w.aq.map (·.1)) (bs:= []) (aM i) aL (λx c=> ?_) (λb C=>by cases C) 6 t y hd ?_
 ·refine(pe a ?_).1
  refine gR ?_
  rcases mQa.mp c with c|c
  ·exact .inr (iu o c)
  ·exact .inl (iu n c)
 ·exact wy r.app (λk z=>(nomatch z)) rfl q
end
section
variable{S:aF}{Q:Res->aF->Prop}
theorem AC:∀(bs:List (Str×Str)) (ls:List (List (Int×Int))),z_ ((bs.map (·.1)).map D.str) (ls.map bV)=(bs.zip ls).map λp=>D.tup [.str p.1.1,bV p.2]
 | [],_=>rfl
 |_::_,[]=>rfl
 | b::bs,l::ls=>by
   have:=AC bs ls
   simp only[z_,QDq,List.zipWith_cons_cons,List.zip_cons_cons] at this⊢
   rw[this]
def zK(r:Rm)(rs:cT)(x:Str):Int:=numAt (Di r rs) x
def Gh{r:Rm}{rs:cT}(hl:r.aa.length=rs.aa.length){x:Str}(h:x∈r.aa.map (·.1)):um (Di r rs) (.inr x)=some (.int (zK r rs x)):=by
 have j:(Sum.inr x:Key)∈(Di r rs).map (·.1):=by
  refine gR (.inr ?_)
  rw[QPq]
  obtain⟨b,g,rfl⟩:=Qkq.mp h
  obtain⟨i,c,e⟩:=QbQ g
  refine Qkq.mpr ⟨(b,rs.aa[i]'(by omega)),?_,rfl⟩
  rw[←e]
  have:(r.aa.zip rs.aa)[i]?=some (r.aa[i],rs.aa[i]'(by omega)):=by
   rw[List.getElem?_zip_eq_some]
   exact⟨gQe c,gQe (by omega)⟩
  exact mQg this
 obtain⟨d,f,a⟩:=wD j
 have c:∃v:Int,d=.int v:=by
  rcases nT a with a|a
  ·cases a
  ·obtain⟨p,_,e⟩:=Qkq.mp a
   exact⟨_,(congrArg (·.2) e).symm⟩
 obtain⟨v,rfl⟩:=c
 unfold zK DL.numAt
 rw[f]
def vU{w:dD}{s:bB}{h i:Nat}{vs:List Int}{fs:List cE}{f:cE}{r:Rm}{rs:cT}{t:Tr}(G:s.af[h]?=some (vs,fs))(C:fs.getLast? =some f)(A:f.room=i)(y:w.ao[i]?=some r)(c:s.ao[i]?=some rs)
  (o:r.ar.length=rs.vals.length) (F:r.aa.length=rs.aa.length) (K:r.ar.length<=100) (M:r.aa.length<=100) (J:∀v∈rs.vals,0<=v/\v<=9) (m:0<=f.given/\f.given<=9)
  (B:t.Ok (r.ar.map (·.1)++fL) (r.aa.map (·.1))) (hd:t.dep<=6) (q:Q (.d (.int (A9 (numAt (wL r rs f.given)) (zK r rs) t))) S):Fn dP [w.d,s.d,.int h,t.d] S Q:=by
 have e:lD (wL r rs f.given):=(ig J).put m.1 m.2
 refine cg ?_
 unfold mF
 symm
 apply cf G C ?_
 apply ay (d:=.int f.room) rfl ?_
 refine eR ?_
 dsimp only
 rw[Qdq (show¬f.room= -1 by omega),Quq (by decide),A]
 apply cy ?_
 apply JA ?_
 apply ay rfl ?_
 refine ay (d:=r.d) (aY (by rw[gQm,y];rfl)) ?_
 symm
 apply ay rfl ?_
 apply fE (enc:=wX) (nm:=(·.1)) h_ (by omega) ?_
 apply ay rfl ?_
 refine ay (d:=rs.d) (aY (by rw[gQm,c];rfl)) ?_
 symm
 refine ay rfl ?_
 refine cI (ds:=rs.vals.map D.int) ?_
 refine⟨_,rfl,⟨trivial,by simp only[lQm];exact o⟩,?_⟩
 dsimp only
 rw[show c7 [] (((r.ar.map (·.1)).map (Sum.inr:Str->Key)).zip (rs.vals.map D.int))=ed r.ar rs.vals from rfl]
 have I:oA S (S++ [O.dct (ed r.ar rs.vals)]):=oA.refl.app
 apply bC (NA ?_)
 apply ay (d:=.int f.given) rfl ?_
 refine⟨_,_,_,rfl,rfl,aL,bp (by have:=uw (ts:=r.ar) (vs:=rs.vals);omega),?_⟩
 have n:((S++ [O.dct (ed r.ar rs.vals)]).set S.length (.dct (putD (ed r.ar rs.vals) (.inr "given") (.int f.given))))[S.length]?=some (.dct (wL r rs f.given)):=cM aL
 have u:oA S ((S++ [O.dct (ed r.ar rs.vals)]).set S.length (.dct (putD (ed r.ar rs.vals) (.inr "given") (.int f.given)))):=I.put (Qmq _)
 generalize ((S++ [O.dct (ed r.ar rs.vals)]).set S.length (.dct (putD (ed r.ar rs.vals) (.inr "given") (.int f.given))))=S2 at n u⊢
 apply bC (Nw (α:=(Str×Str)×List (Int×Int)) (λg=>∃a b,g= [a,b]) (λp=>D.tup [.str p.1.1,bV p.2]) (λp=>p.1.1) (λp=>.int (p.2.length:Nat)) ⟨none,none,rfl⟩ (BZ ?_))
 apply ay rfl ?_
 refine ay (d:=r.d) (aY (by rw[gQm,y];rfl)) ?_
 symm
 apply ay rfl ?_
 apply fE (enc:=F0) (nm:=(·.1)) C6 (by omega) ?_
 apply ay rfl ?_
 refine ay (d:=rs.d) (aY (by rw[gQm,c];rfl)) ?_
 symm
 refine ay rfl ?_
 refine cI (ds:=rs.aa.map bV) ?_
 refine⟨⟨trivial,by simp only[lQm];omega⟩,r.aa.zip rs.aa,AC _ _,⟨trivial,trivial⟩,by rw[List.length_zip];omega,λp L g l=> ?_,?_⟩
 ·obtain⟨a,b,rfl⟩:=l
  refine fm rfl (aC (a_ (aC (a_ (bH ?_)))))
  apply⟨rfl,⟨_,_,rfl⟩,?_⟩
  apply⟨rfl,rfl,?_⟩
  refine cI (ds:=p.2.map pairD) ?_
  exact⟨by simp,rfl⟩
 symm
 refine gG (th:=numAt (wL r rs f.given)) (wt:=zK r rs) (ws:=r.ar.map (·.1)++fL) (bs:=r.aa.map (·.1)) (kws:=Di r rs) (aM n) aL (λx j=> ?_) (λb H=>Gh F H) 6 t B hd ?_
 ·refine(pe e ?_).1
  refine mD ?_
  rcases mQa.mp j with j|j
  ·exact .inr (iu o j)
  ·left
   rw[Qfq.mp j]
 ·exact wy u.app (λk z=>(nomatch z)) rfl q
end
end W28
namespace DL
open PySem PySem.Spec L2
def IJ{b:cN}{S:aF}{a:Bool}{f:bE}{g:dF}{Q:D->aF->Prop}(h:E f b S λx c=>E g b c λp S2=>∃v vs,yu x=some v/\iU p.1=some vs/\Q (.bl (if a then !GI v vs else GI v vs)) S2):E (Hj a f g) b S Q:=by
 obtain⟨x,c,i,p,S2,j,v,vs,e,d,q⟩:=h
 exact⟨_,S2,by unfold Hj;rw[i];simp only[Qbq];rw[j];simp only[Qbq];rw[e,d];rfl,q⟩
def Hd{x:Str}{ss:List Str}:GI (.str x) (ss.map V.str)=decide (x∈ss):=by
 induction ss with
 |nil=>rfl
 | cons a ss d=>
   show(sA (.str a) (.str x)||GI (.str x) (ss.map V.str))=_
   rw[d]
   simp only[sA,Qsq]
   by_cases c:a=x
   · subst c;simp
   · have b:¬x=a:=λz=>c z.symm
     simp[c,b]
end DL
namespace W28
open PySem PySem.Spec L2 DL
section
variable{S:aF}{Q:Res->aF->Prop}
def fe(ns:List Str)(vs:List Int)(x:Str)(v:Int):List Int:=vs.set ((pK (.str x) (ns.map V.str)).getD 0) v
def pN{α:Type}{enc:α->D}{nm:α->Str}{xs:List α}{x:Str}(he:∀a,∃r,enc a=.tup (.str (nm a)::r))(hl:xs.length<=1000)(h:x∈xs.map nm)(q:((pK (.str x) ((xs.map nm).map V.str)).getD 0)<xs.length->Q (.d (.int ((pK (.str x) ((xs.map nm).map V.str)).getD 0:Nat))) S):Fn dg [.tup (xs.map enc),.str x] S Q:=by
 refine cg ?_
 unfold rg
 obtain⟨j,e,g⟩:=xu h
 have i:j<xs.length:=by have:=(gQs.mp g).1;simpa using this
 rw[e] at q
 refine i9 ?_
 have c:E (gL (dj ee (au (aw 0) ax))) ([D.tup (xs.map enc),D.str x].map some++List.replicate (2- [D.tup (xs.map enc),D.str x].length) none) S λp b=>p=((xs.map nm).map D.str,.fr)/\b=S:=by
  symm
  exact fE he hl ⟨rfl,rfl⟩
 obtain⟨p,b,f,rfl,rfl⟩:=c
 refine⟨.int j,b,?_,cJ (λk z=>(nomatch z)) rfl (q i)⟩
 unfold J5
 rw[f]
 simp only[Qbq]
 rw[Qhq (show Tag.fr.isL=true from rfl)]
 show((aw 1 _ b).bind _)=_
 rw[show aw 1 ([D.tup (xs.map enc),D.str x].map some++List.replicate (2- [D.tup (xs.map enc),D.str x].length) none) b=some (.str x,b) from rfl]
 simp only[Qbq]
 rw[Qhq (show Tag.stays b _ .fr from trivial)]
 show(yu (.str x)).bind _=_
 simp only[yu,Qbq]
 rw[nz]
 simp only[Qbq]
 rw[e]
 rfl
def Ar{w:dD}{s:bB}{h i:Nat}{vs:List Int}{fs:List cE}{f:cE}{r:Rm}{rs:cT}{x:Str}{v:Int}(g:s.af[h]?=some (vs,fs))(c:fs.getLast? =some f)(b:f.room=i)(k:w.ao[i]?=some r)(a:s.ao[i]?=some rs)
  (m:r.ar.length=rs.vals.length) (l:r.ar.length<=100) (o:s.ao.length<=100) (j:x∈r.ar.map (·.1))
  (q:Q (.d ({s with ao:=s.ao.set i {rs with vals:=fe (r.ar.map (·.1)) rs.vals x v}}:bB).d) S):Fn ff [w.d,s.d,.int h,.str x,.int v] S Q:=by
 refine cg ?_
 unfold j8
 symm
 apply cf g c ?_
 apply ay (d:=.int f.room) rfl ?_
 refine oQ ?_
 dsimp only
 rw[Qdq (show¬f.room= -1 by omega),b]
 show if (true=true) then _ else _
 rw[Qhq rfl]
 symm
 apply ay rfl ?_
 refine ay (d:=r.d) (aY (by rw[gQm,k];rfl)) ?_
 symm
 apply ay rfl ?_
 apply pN (enc:=wX) (nm:=(·.1)) h_ (by omega) j λn=> ?_
 apply ay rfl ?_
 refine ay (d:=rs.d) (aY (by rw[gQm,a];rfl)) ?_
 symm
 apply ay rfl ?_
 refine dU (xs:=rs.vals.map D.int) (by rw[lQm];omega) (by rw[lQm];omega) (bc λ_ _=>rfl) rfl ?_
 symm
 refine⟨by show 1<=_;decide,?_⟩
 apply iY ?_
 apply ay rfl ?_
 refine ay (d:=rs.d) (aY (by rw[gQm,a];rfl)) ?_
 apply cD ?_
 refine⟨_,rfl,cC ⟨_,rfl,?_⟩⟩
 refine et (by show 5<=_;decide) ?_
 symm
 have e:({rs with vals:=fe (r.ar.map (·.1)) rs.vals x v}:cT).d=.tup ([.tup ((rs.vals.map D.int).set ((pK (.str x) ((r.ar.map (·.1)).map V.str)).getD 0) (.int v))]++gI [bJ rs.vals,.int rs.within,bJ rs.row,bJ rs.ag,.tup (rs.aa.map bV)] (some 1) none):=by
  show D.tup [bJ (fe _ _ _ _),_,_,_,_]=_
  unfold fe bJ
  rw[map_set]
  rfl
 rw[←e]
 refine di (gQs.mp a).1 (by omega) ?_
 exact cJ (aX _) (bB.low _) q
end
section
variable{S:aF}{Q:Res->aF->Prop}
def qf(w:dD)(s:bB)(h:Nat)(ts:List (Str×Nat))(vs:List Int)(fs:List cE)(x:Str)(v:Int):bB:=
 if x∈w.aq.map (·.1) then{s with aq:=fe (w.aq.map (·.1)) s.aq x v} else{s with af:=s.af.set h (fe (ts.map (·.1)) vs x v,fs)}
def CO{w:dD}{s:bB}{h:Nat}{ts:List (Str×Nat)}{pr:List Rw}{vs:List Int}{fs:List cE}{f:cE}{x:Str}{v:Int}(l:w.af[h]?=some (ts,pr))(a:s.af[h]?=some (vs,fs))(g:fs.getLast? =some f)(e:f.room= -1)
  (r:w.aq.length=s.aq.length) (t:ts.length=vs.length) (o:w.aq.length<=100) (y:ts.length<=100) (u:s.af.length<=100) (j:x∈ts.map (·.1)++w.aq.map (·.1))
  (q:Q (.d (qf w s h ts vs fs x v).d) S):Fn ff [w.d,s.d,.int h,.str x,.int v] S Q:=by
 refine cg ?_
 unfold j8
 symm
 apply cf a g ?_
 apply ay (d:=.int f.room) rfl ?_
 refine oQ ?_
 dsimp only
 rw[Qeq e]
 refine aV (λc=>by cases c) (λ_=>cy ?_)
 apply bC (dZ (b_ (IJ ?_)))
 apply ay rfl ?_
 apply fE (enc:=wX) (nm:=(·.1)) h_ (by omega) ?_
 refine⟨_,_,rfl,nz _,?_⟩
 unfold qf at q
 show if GI (.str x) ((w.aq.map (·.1)).map V.str)=true then _ else _
 rw[Hd]
 by_cases c:x∈w.aq.map (·.1)
 ·rw[Qhq c] at q
  rw[Qeq c,Qhq rfl]
  symm
  apply ay rfl ?_
  apply ay rfl ?_
  apply pN (enc:=wX) (nm:=(·.1)) h_ (by omega) c λm=> ?_
  refine dU (xs:=s.aq.map D.int) (by rw[lQm];omega) (by rw[lQm];omega) (bc λ_ _=>rfl) rfl ?_
  symm
  apply ay rfl ?_
  apply ay rfl ?_
  apply ay rfl ?_
  refine⟨by show 4<=_;decide,?_⟩
  rw[←map_set]
  exact cJ (d:=({s with aq:=fe (w.aq.map (·.1)) s.aq x v}:bB).d) (aX _) (bB.low _) q
 ·rw[Quq c] at q
  rw[Qdq c,Quq (by decide)]
  refine cy ?_
  have b:x∈ts.map (·.1):=(mQa.mp j).resolve_right c
  symm
  apply ay rfl ?_
  refine ay (d:=A7 (vs,fs)) (aY (by rw[gQm,a];rfl)) ?_
  apply fm rfl (aC (a_ (aC (a_ (bH ?_)))))
  apply ay rfl ?_
  refine ay (d:=oG (ts,pr)) (aY (by rw[gQm,l];rfl)) ?_
  symm
  apply ay rfl ?_
  apply pN (enc:=wX) (nm:=(·.1)) h_ (by omega) b λm=> ?_
  refine dU (xs:=vs.map D.int) (by rw[lQm];omega) (by rw[lQm];omega) (bc λ_ _=>rfl) rfl ?_
  symm
  rw[←map_set]
  rw[show D.tup ((vs.set ((pK (.str x) ((ts.map (·.1)).map V.str)).getD 0) v).map D.int)=bJ (fe (ts.map (·.1)) vs x v) from rfl]
  generalize fe (ts.map (·.1)) vs x v=nv at q⊢
  have i:h<s.af.length:=(gQs.mp a).1
  have k:s.af.length<=900:=by omega
  have n:Op (settle S ({s with af:=s.af.set h (nv,fs)}:bB).d S) λp=>Q p.1 p.2:=cJ (aX _) (bB.low _) q
  exact hX i k n
end
section
variable{S:aF}{Q:Res->aF->Prop}
def eW(ns:List Str)(x:Str):Nat:=(pK (.str x) (ns.map V.str)).getD 0
def g9{ns:List Str}{x:Str}(h:x∈ns):eW ns x<ns.length/\ns[eW ns x]?=some x:=by
 obtain⟨j,b,a⟩:=xu h
 unfold eW
 rw[b]
 exact⟨(gQs.mp a).1,a⟩
def jK{α:Type}{enc:α->D}{nm:α->Str}{xs:List α}{x:Str}(he:∀a,∃r,enc a=.tup (.str (nm a)::r))(hl:xs.length<=1000)(b:x∈xs.map nm)(q:Q (.d (.int (eW (xs.map nm) x:Nat))) S):Fn dg [.tup (xs.map enc),.str x] S Q:=pN he hl b λ_=>q
def nI{w:dD}{s:bB}{h i:Nat}{vs:List Int}{fs:List cE}{f:cE}{r:Rm}{x:Str}(e:s.af[h]?=some (vs,fs))(g:fs.getLast? =some f)(a:f.room=i)(c:w.ao[i]?=some r)(j:r.aa.length<=100)(b:x∈r.aa.map (·.1))
  (q:Q (.d (.tup [.int i,.int (eW (r.aa.map (·.1)) x:Nat)])) S):Fn jv [w.d,s.d,.int h,.str x] S Q:=by
 refine cg ?_
 unfold uY
 symm
 apply cf e g ?_
 refine ay (d:=.int f.room) rfl ?_
 rw[a]
 symm
 apply ay rfl ?_
 refine ay (d:=r.d) (aY (by rw[gQm,c];rfl)) ?_
 symm
 apply ay rfl ?_
 apply jK (enc:=F0) (nm:=(·.1)) C6 (by omega) b ?_
 refine⟨by show 2<=_;decide,?_⟩
 exact cJ (λk z=>(nomatch z)) rfl q
def ka{s:bB}{i b:Nat}{rs:cT}{l:List (Int×Int)}(a:s.ao[i]?=some rs)(j:b<rs.aa.length)(h:rs.aa.length<=100)(k:s.ao.length<=100)
  (q:Q (.d ({s with ao:=s.ao.set i {rs with aa:=rs.aa.set b l}}:bB).d) S):Fn fu [s.d,.int i,.int b,bV l] S Q:=by
 refine cg ?_
 unfold nc
 symm
 apply ay rfl ?_
 refine ay (d:=rs.d) (aY (by rw[gQm,a];rfl)) ?_
 symm
 apply iY ?_
 apply cC (cD ?_)
 apply⟨_,rfl,_,rfl,?_⟩
 apply ay rfl ?_
 refine dU (xs:=rs.aa.map bV) (by rw[lQm];omega) (by rw[lQm];omega) (bc λl _=>t7 l) (t7 l) ?_
 symm
 refine⟨by show 1<=_;decide,?_⟩
 refine et (by show 5<=_;decide) ?_
 symm
 rw[←map_set]
 generalize f:rs.aa.set b l=nb at q⊢
 have e:({rs with aa:=nb}:cT).d=.tup (gI [bJ rs.vals,.int rs.within,bJ rs.row,bJ rs.ag,.tup (rs.aa.map bV)] none (some 4)++ [.tup (nb.map bV)]):=rfl
 rw[←e]
 have c:i<s.ao.length:=(gQs.mp a).1
 have hl:s.ao.length<=900:=by omega
 have g:Op (settle S ({s with ao:=s.ao.set i {rs with aa:=nb}}:bB).d S) λp=>Q p.1 p.2:=cJ (aX _) (bB.low _) q
 exact di c hl g
def eG(p:Int×List Int)(h:Int):Int×List Int:=if 0<p.1 then(p.1-1,p.2) else(p.1,p.2++ [h])
def dM(p:Int×List Int):Int×List Int:=match p.2 with
 |_::l=>(p.1,l)
 | []=>(if 9<p.1+1 then 9 else p.1+1,[])
def Ax{w:dD}{s:bB}{h:Int}{x:Str}{p:Int×List Int}(g:x∈w.ak.map (·.1))(b:s.ak[eW (w.ak.map (·.1)) x]?=some p)(i:w.ak.length<=100)(k:s.ak.length<=100)(l:p.2.length<=900)
  (q:Q (.d ({s with ak:=s.ak.set (eW (w.ak.map (·.1)) x) (eG p h)}:bB).d) S):Fn t4 [w.d,s.d,.int h,.str x] S Q:=by
 refine cg ?_
 unfold BJ
 symm
 apply ay rfl ?_
 refine jK (enc:=wX) (nm:=(·.1)) h_ (by omega) g ?_
 generalize eW (w.ak.map (·.1)) x=j at b q⊢
 have f:j<s.ak.length:=(gQs.mp b).1
 have hl:s.ak.length<=900:=by omega
 symm
 apply ay rfl ?_
 refine ay (d:=vO p) (aY (by rw[gQm,b];rfl)) ?_
 refine fm rfl (aC (a_ (aC (a_ (bH ?_)))))
 have a:Op (settle S ({s with ak:=s.ak.set j (eG p h)}:bB).d S) λp=>Q p.1 p.2:=cJ (aX _) (bB.low _) q
 unfold eG at a
 symm
 by_cases c:0<p.1
 ·rw[Qhq c] at a
  rw[Qeq c,Qhq rfl]
  symm
  refine⟨by show 2<=_;decide,?_⟩
  symm
  exact ic (p:=(p.1-1,p.2)) f hl a
 ·rw[Quq c] at a
  rw[Qdq c,Quq (by decide)]
  apply cy ?_
  refine⟨by show 1<=_;decide,?_⟩
  refine et (by simp only[lQm,Qnq,QGq];exact nQl (bp (by omega))) ?_
  symm
  refine⟨by show 2<=_;decide,?_⟩
  symm
  have e:D.tup [.int p.1,.tup (p.2.map D.int++ [.int h])]=vO (p.1,p.2++ [h]):=by simp[vO,bJ]
  rw[e]
  exact ic f hl a
end
section
variable{S:aF}{Q:Res->aF->Prop}
def mW{w:dD}{s:bB}{x:Str}{p:Int×List Int}(i:x∈w.ak.map (·.1))(b:s.ak[eW (w.ak.map (·.1)) x]?=some p)(k:w.ak.length<=100)(m:s.ak.length<=100)
  (q:Q (.d ({s with ak:=s.ak.set (eW (w.ak.map (·.1)) x) (dM p)}:bB).d) S):Fn gM [w.d,s.d,.str x] S Q:=by
 refine cg ?_
 unfold lH
 symm
 apply ay rfl ?_
 refine jK (enc:=wX) (nm:=(·.1)) h_ (by omega) i ?_
 generalize eW (w.ak.map (·.1)) x=j at b q⊢
 have g:j<s.ak.length:=(gQs.mp b).1
 have hl:s.ak.length<=900:=by omega
 symm
 apply ay rfl ?_
 refine ay (d:=vO p) (aY (by rw[gQm,b];rfl)) ?_
 refine fm rfl (aC (a_ (aC (a_ (bH ?_)))))
 have h:Op (settle S ({s with ak:=s.ak.set j (dM p)}:bB).d S) λp=>Q p.1 p.2:=cJ (aX _) (bB.low _) q
 obtain⟨v,f⟩:=p
 symm
 refine yT ?_
 cases f with
 | cons a l=>
   apply aV (λ_=> ?_) (λc=>by cases c)
   apply iY ?_
   apply cD ?_
   apply⟨_,rfl,cC ⟨_,rfl,?_⟩⟩
   refine⟨by show 2<=_;decide,?_⟩
   symm
   have e:D.tup (gI ((a::l).map D.int) (some 1) none)=bJ l:=by
     rw[show(some (1:Int))=some ((1:Nat):Int) from rfl,gH (by simp)]
     rfl
   rw[e]
   exact ic (p:=(v,l)) g hl h
 | nil=>
   apply aV (λc=>by cases c) (λ_=>cy ?_)
   apply FY ?_
   refine⟨by show 2<=_;decide,?_⟩
   symm
   exact ic (p:=(if 9<v+1 then 9 else v+1,[])) g hl h
def w_{b sd hd a:D}{s:bB}(q:Q (.d s.d) S):Fn sU [b,s.d,hd,a] S Q:=by
 refine cg ?_
 unfold yW
 symm
 exact cJ (aX _) (bB.low _) q
def zC{c:D}{s:bB}{h n:Nat}{vs:List Int}{fs:List cE}{f:cE}(b:s.af[h]?=some (vs,fs))(a:fs.getLast? =some f)(g:fs.length<=900)(hl:s.af.length<=900)(q:Q (.d ({s with af:=s.af.set h (vs,fs.dropLast++ [{f with row:=n}])}:bB).d) S):Fn yD [c,s.d,.int h,(Rw.go n).d] S Q:=by
 refine cg ?_
 unfold Bu
 symm
 apply ay (d:=.int n) rfl ?_
 have e:Op (settle S ({s with af:=s.af.set h (vs,fs.dropLast++ [{f with row:=n}])}:bB).d S) λp=>Q p.1 p.2:=cJ (aX _) (bB.low _) q
 exact qE b a g hl e
end
section
variable{S:aF}{Q:Res->aF->Prop}
def uB{w:dD}{s:bB}{h:Int}{x:Str}{p:Int×List Int}(a:x∈w.ak.map (·.1))(c:s.ak[eW (w.ak.map (·.1)) x]?=some p)(b:w.ak.length<=100)(f:s.ak.length<=100)(g:p.2.length<=900)
  (q:Q (.d ({s with ak:=s.ak.set (eW (w.ak.map (·.1)) x) (eG p h)}:bB).d) S):Fn oD [w.d,s.d,.int h,(Rw.take x).d] S Q:=by
 refine cg ?_
 unfold uo
 symm
 apply ay (d:=.str x) rfl ?_
 have e:Op (settle S ({s with ak:=s.ak.set (eW (w.ak.map (·.1)) x) (eG p h)}:bB).d S) λp=>Q p.1 p.2:=cJ (aX _) (bB.low _) q
 exact Ax a c b f g e
def t6{w:dD}{s:bB}{hd:D}{x:Str}{p:Int×List Int}(a:x∈w.ak.map (·.1))(c:s.ak[eW (w.ak.map (·.1)) x]?=some p)(b:w.ak.length<=100)(f:s.ak.length<=100)
  (q:Q (.d ({s with ak:=s.ak.set (eW (w.ak.map (·.1)) x) (dM p)}:bB).d) S):Fn oX [w.d,s.d,hd,(Rw.give x).d] S Q:=by
 refine cg ?_
 unfold u4
 symm
 apply ay (d:=.str x) rfl ?_
 have e:Op (settle S ({s with ak:=s.ak.set (eW (w.ak.map (·.1)) x) (dM p)}:bB).d S) λp=>Q p.1 p.2:=cJ (aX _) (bB.low _) q
 exact mW a c b f e
end
section
variable{S:aF}{Q:Res->aF->Prop}
def BK(w:dD)(s:bB)(h:Nat)(t:Tr)(v:Int):Prop:=∀(S:aF) (Q:Res->aF->Prop),Q (.d (.int v)) S->Fn dP [w.d,s.d,.int h,t.d] S Q
def Puts(w:dD)(s:bB)(h:Nat)(x:Str)(v:Int)(a:bB):Prop:=∀(S:aF) (Q:Res->aF->Prop),Q (.d a.d) S->Fn ff [w.d,s.d,.int h,.str x,.int v] S Q
def uZ{w:dD}{s:bB}{h:Int}{x y:Str}{p a:Int×List Int}(f:x∈w.ak.map (·.1))(i:y∈w.ak.map (·.1))(g:s.ak[eW (w.ak.map (·.1)) x]?=some p)(c:w.ak.length<=100)(e:s.ak.length<=100)(k:a.2.length<=900)
  (b:(s.ak.set (eW (w.ak.map (·.1)) x) (dM p))[eW (w.ak.map (·.1)) y]?=some a)
  (q:Q (.d ({s with ak:=(s.ak.set (eW (w.ak.map (·.1)) x) (dM p)).set (eW (w.ak.map (·.1)) y) (eG a h)}:bB).d) S):Fn pO [w.d,s.d,.int h,(Rw.pass x y).d] S Q:=by
 refine cg ?_
 unfold uv
 symm
 apply ay (d:=.str x) rfl ?_
 apply mW f g c e ?_
 apply ay (d:=.str y) rfl ?_
 have j:Op (settle S ({s with ak:=(s.ak.set (eW (w.ak.map (·.1)) x) (dM p)).set (eW (w.ak.map (·.1)) y) (eG a h)}:bB).d S) λp=>Q p.1 p.2:=cJ (aX _) (bB.low _) q
 exact Ax (s:={s with ak:=s.ak.set (eW (w.ak.map (·.1)) x) (dM p)}) i b c (by simpa using e) k j
def wU{w:dD}{s a:bB}{h:Nat}{x:Str}{t:Tr}{v:Int}(b:BK w s h t v)(c:Puts w s h x v a)(q:Q (.d a.d) S):Fn sZ [w.d,s.d,.int h,(Rw.put x t).d] S Q:=by
 refine cg ?_
 unfold xh
 symm
 apply ay (d:=.str x) rfl ?_
 apply ay (d:=t.d) rfl ?_
 apply b _ _ ?_
 refine c _ _ ?_
 exact cJ (aX _) (bB.low _) q
def pH{w:dD}{s:bB}{h n:Nat}{t:Tr}{v:Int}{vs:List Int}{fs:List cE}{f:cE}(a:BK w s h t v)(b:s.af[h]?=some (vs,fs))(g:fs.getLast? =some f)(e:fs.length<=900)(hl:s.af.length<=900)
  (q:Q (.d (if v=0 then({s with af:=s.af.set h (vs,fs.dropLast++ [{f with row:=n}])}:bB) else s).d) S):Fn jW [w.d,s.d,.int h,(Rw.unl t n).d] S Q:=by
 refine cg ?_
 unfold nX
 symm
 apply ay (d:=t.d) rfl ?_
 apply a _ _ ?_
 refine eR ?_
 dsimp only
 by_cases c:v=0
 ·rw[Qhq c] at q
  rw[Qeq c,Qhq rfl]
  symm
  apply ay (d:=.int n) rfl ?_
  have i:Op (settle S ({s with af:=s.af.set h (vs,fs.dropLast++ [{f with row:=n}])}:bB).d S) λp=>Q p.1 p.2:=cJ (aX _) (bB.low _) q
  exact qE b g e hl i
 ·rw[Quq c] at q
  rw[Qdq c,Quq (by decide)]
  apply cy ?_
  exact cJ (aX _) (bB.low _) q
end
section
variable{S:aF}{Q:Res->aF->Prop}
def ub{w:dD}{s:bB}{h:Nat}{t:Tr}{v:Int}{vs:List Int}{fs:List cE}{f:cE}(g:BK w s h t v)(c:s.af[h]?=some (vs,fs))(e:fs.getLast? =some f)(i:fs.length<=900)(hl:s.af.length<=900)
  (q:Q (.d ({s with af:=s.af.set h (vs,fs.dropLast++ [{f with told:=v}])}:bB).d) S):Fn pP [w.d,s.d,.int h,(Rw.tell t).d] S Q:=by
 refine cg ?_
 unfold uS
 symm
 apply ay (d:=t.d) rfl ?_
 apply g _ _ ?_
 apply iY ?_
 refine cf c e ?_
 apply cC (cD ?_)
 apply⟨_,rfl,_,rfl,?_⟩
 refine⟨by show 1<=_;decide,?_⟩
 refine et (by show 5<=_;decide) ?_
 symm
 have j:0<fs.length:=by
  cases fs with
  |nil=>cases e
  |cons a b=>simp
 have k:Op (settle S ({s with af:=s.af.set h (vs,fs.dropLast++ [{f with told:=v}])}:bB).d S) λp=>Q p.1 p.2:=cJ (aX _) (bB.low _) q
 exact iE (f:={f with told:=v}) c j i hl k
def wN{w:dD}{s:bB}{h i:Nat}{vs:List Int}{fs:List cE}{f:cE}{r:Rm}{rs:cT}{x:Str}(k:s.af[h]?=some (vs,fs))(j:fs.getLast? =some f)(g:f.room=i)(n:w.ao[i]?=some r)(a:s.ao[i]?=some rs)(t:r.aa.length<=100)(u:r.aa.length=rs.aa.length)(m:s.ao.length<=100)(e:x∈r.aa.map (·.1))
  (q:Q (.d ({s with ao:=s.ao.set i {rs with aa:=rs.aa.set (eW (r.aa.map (·.1)) x) []}}:bB).d) S):Fn tE [w.d,s.d,.int h,(Rw.all x).d] S Q:=by
 have c:=(g9 e).1
 rw[lQm] at c
 refine cg ?_
 unfold yJ
 symm
 apply ay (d:=.str x) rfl ?_
 refine nI k j g n t e ?_
 refine fm rfl (aC (a_ (aC (a_ (bH ?_)))))
 generalize eW (r.aa.map (·.1)) x=b at c q⊢
 symm
 apply⟨by decide,?_⟩
 have o:Op (settle S ({s with ao:=s.ao.set i {rs with aa:=rs.aa.set b []}}:bB).d S) λp=>Q p.1 p.2:=cJ (aX _) (bB.low _) q
 exact ka (l:= []) a (by omega) (by omega) m o
end
section
variable{S:aF}{Q:Res->aF->Prop}
def J_:∀a:Rm,∃r,a.d=.tup (.str a.name::r):=λa=>⟨_,rfl⟩
def GF:∀a:Str×List Rw,∃r,iW a=.tup (.str a.1::r):=λa=>⟨_,rfl⟩
def zp{w:dD}{s:bB}{h:Nat}{g:Option Str}{a c:Str}{t:Tr}{v:Int}{vs:List Int}{fs:List cE}{r:Rm}{rs:cT}(m:BK w s h t v)(k:s.af[h]?=some (vs,fs))(f:a∈w.ao.map (·.name))(l:w.ao[eW (w.ao.map (·.name)) a]?=some r)(b:s.ao[eW (w.ao.map (·.name)) a]?=some rs)(j:c∈r.ae.map (·.1))
  (y:w.ao.length<=100) (C:r.ae.length<=100) (z:s.ao.length<=100) (o:rs.row.length<=900) (A:fs.length<=900) (B:s.af.length<=100)
  (q:Q (.d ({s with af:=s.af.set h (vs,fs++ [⟨(eW (w.ao.map (·.name)) a:Nat),(eW (r.ae.map (·.1)) c:Nat),0,v,0⟩]),ao:=s.ao.set (eW (w.ao.map (·.name)) a) (g_ rs h)}:bB).d) S):Fn x_ [w.d,s.d,.int h,(Rw.do_ g a c t).d] S Q:=by
 refine cg ?_
 unfold B2
 symm
 apply ay rfl ?_
 apply ay (d:=.str a) rfl ?_
 refine jK (enc:=Rm.d) (nm:=(·.name)) J_ (by omega) f ?_
 generalize eW (w.ao.map (·.name)) a=i at l b q⊢
 symm
 apply ay rfl ?_
 refine ay (d:=r.d) (aY (by rw[gQm,l];rfl)) ?_
 symm
 apply ay rfl ?_
 apply ay (d:=.str c) rfl ?_
 refine jK (enc:=iW) (nm:=(·.1)) GF (by omega) j ?_
 generalize eW (r.ae.map (·.1)) c=dd at q⊢
 symm
 apply ay (d:=t.d) rfl ?_
 apply m _ _ ?_
 refine⟨by show 5<=_;decide,?_⟩
 symm
 apply ay rfl ?_
 refine ay (d:=A7 (vs,fs)) (aY (by rw[gQm,k];rfl)) ?_
 apply fm rfl (aC (a_ (aC (a_ (bH ?_)))))
 refine⟨by show 1<=_;decide,?_⟩
 refine et (by simp only[lQm,Qnq,QGq];exact nQl (bp (by omega))) ?_
 symm
 have e:fs.map cE.d++ [D.tup [.int i,.int dd,.int 0,.int v,.int 0]]=(fs++ [(⟨i,dd,0,v,0⟩:cE)]).map cE.d:=by rw[Qzq];rfl
 rw[e]
 generalize n:fs++ [(⟨i,dd,0,v,0⟩:cE)]=nf at q⊢
 have u:h<s.af.length:=(gQs.mp k).1
 apply hX (vs:=vs) (fs:=nf) u (by omega) ?_
 have x:Op (settle S ({s with af:=s.af.set h (vs,nf),ao:=s.ao.set i (g_ rs h)}:bB).d S) λp=>Q p.1 p.2:=cJ (aX _) (bB.low _) q
 exact uU (s:={s with af:=s.af.set h (vs,nf)}) b (by show s.ao.length<=900;omega) o x
end
section
variable{S:aF}{Q:Res->aF->Prop}
def pZ(free:Bool)(rs:cT)(b:Nat)(h:Int):cT:=match rs.aa[b]? with
 |some (p::l)=>if free then{rs with aa:=rs.aa.set b l} else{rs with aa:=rs.aa.set b l,within:=p.2,ag:=rs.ag++ [h]}
 |_=>rs
def t5{w:dD}{s:bB}{h i:Nat}{vs:List Int}{fs:List cE}{f:cE}{r:Rm}{rs:cT}{x:Str}(C:s.af[h]?=some (vs,fs))(A:fs.getLast? =some f)(z:f.room=i)(y:w.ao[i]?=some r)(k:s.ao[i]?=some rs)(J:r.aa.length<=100)(L:r.aa.length=rs.aa.length)(G:s.ao.length<=100)(K:rs.ag.length<=900)(u:x∈r.aa.map (·.1))
  (q:Q (.d ({s with ao:=s.ao.set i (pZ (decide (r.ah="when free")) rs (eW (r.aa.map (·.1)) x) h)}:bB).d) S):Fn p7 [w.d,s.d,.int h,(Rw.call x).d] S Q:=by
 have t:=(g9 u).1
 rw[lQm] at t
 have o:i<s.ao.length:=(gQs.mp k).1
 refine cg ?_
 unfold uF
 symm
 apply ay (d:=.str x) rfl ?_
 refine nI C A z y J u ?_
 refine fm rfl (aC (a_ (aC (a_ (bH ?_)))))
 generalize eW (r.aa.map (·.1)) x=b at t q⊢
 have v:b<rs.aa.length:=by omega
 obtain⟨m,a⟩:∃l,rs.aa[b]?=some l:=⟨_,gQe v⟩
 have g:Op (settle S ({s with ao:=s.ao.set i (pZ (decide (r.ah="when free")) rs b h)}:bB).d S) λp=>Q p.1 p.2:=cJ (aX _) (bB.low _) q
 unfold pZ at g
 rw[a] at g
 symm
 apply ay rfl ?_
 refine ay (d:=rs.d) (aY (by rw[gQm,k];rfl)) ?_
 symm
 apply ay rfl ?_
 refine ay (d:=bV m) (aY (by rw[gQm,a];rfl)) ?_
 symm
 refine yT ?_
 cases m with
 | nil=>
   apply aV (λ_=> ?_) (λc=>by cases c)
   have e:s.ao.set i rs=s.ao:=by
     apply List.ext_getElem?
     intro j
     rw[List.getElem?_set]
     split
     · rename_i c
       subst c
       rw[k]
       first|done|simp[o]
     · rfl
   have F:({s with ao:=s.ao.set i rs}:bB)=s:=by rw[e]
   have n:Op (settle S ({s with ao:=s.ao.set i rs}:bB).d S) λp=>Q p.1 p.2:=g
   rw[F] at n
   exact n
 | cons p l=>
   apply aV (λc=>by cases c) (λ_=>cy ?_)
   apply iY ?_
   apply cD ?_
   apply⟨_,rfl,cC ⟨_,rfl,?_⟩⟩
   have e:D.tup (gI ((p::l).map pairD) (some 1) none)=bV l:=by
     rw[show(some (1:Int))=some ((1:Nat):Int) from rfl,gH (by simp)]
     rfl
   rw[e]
   refine ka k v (by omega) G ?_
   dsimp only at g
   generalize I:rs.aa.set b l=nb at g⊢
   symm
   apply ay rfl ?_
   refine ay (d:=r.d) (aY (by rw[gQm,y];rfl)) ?_
   symm
   apply ay (d:=.str r.ah) rfl ?_
   refine ji ?_
   dsimp only
   by_cases c:r.ah="when free"
   · rw[Qeq c] at g⊢
     rw[Qhq rfl] at g
     rw[Qhq rfl]
     symm
     exact g
   · rw[Qdq c] at g⊢
     rw[Quq (by decide)] at g
     rw[Quq (by decide)]
     apply cy ?_
     refine ay rfl ?_
     have B:((s.ao.set i {rs with aa:=nb}).map cT.d)[i]?=some ({rs with aa:=nb}:cT).d:=by rw[gQm,Qyq o];rfl
     symm
     refine ay (d:=({rs with aa:=nb}:cT).d) (aY B) ?_
     apply fm rfl (aC (a_ (aC (a_ (aC (a_ (aC (a_ (aC (a_ (bH ?_)))))))))))
     apply ay (d:=pairD p) Gy ?_
     apply ay (d:=.int p.2) rfl ?_
     refine⟨by show 1<=_;decide,?_⟩
     refine et (by simp only[lQm,Qnq,QGq];exact nQl (bp (by omega))) ?_
     symm
     refine⟨by show 5<=_;decide,?_⟩
     symm
     have H:D.tup [bJ rs.vals,.int p.2,bJ rs.row,.tup (rs.ag.map D.int++ [.int h]),.tup (nb.map bV)]=({rs with aa:=nb,within:=p.2,ag:=rs.ag++ [(h:Int)]}:cT).d:=by simp[cT.d,bJ]
     rw[H]
     have n:Op (settle S ({s with ao:=(s.ao.set i {rs with aa:=nb}).set i {rs with aa:=nb,within:=p.2,ag:=rs.ag++ [(h:Int)]}}:bB).d S) λp=>Q p.1 p.2:=by rw[List.set_set];exact g
     exact di (s:={s with ao:=s.ao.set i {rs with aa:=nb}}) (by simpa using o) (by simp;omega) n
end
end W28
namespace DL
open PySem PySem.Spec L2
def ki{α:Type}{v:cN}{S:aF}{js:List (Option Nat)}{i:vw}{g:mI}{t:kA}{o:bE}{Q:List D->aF->Prop}(P:cN->Prop)(enc G:α->D)(c:α->Bool)(R:P (p6 js v)) (h:E i v S λp f=>∃xs:List α,p.1=xs.map enc/\p.2 f/\xs.length<=1000∧
   (∀x∈xs,∀a,P a->Tg g (enc x) a f λb S2=>S2=f/\P b/\E t b f λk z=>z=f/\k=c x/\(c x=true->E o b f λy B=>y=G x/\B=f))/\Q ((xs.filter c).map G) f):E (cp js i g t o) v S Q:=by
 refine lV (h.mono λp f I=> ?_)
 obtain⟨xs,A,J,hl,L,q⟩:=I
 refine⟨λn a s j=>s=f/\j=((xs.take n).filter c).map G/\P a,⟨rfl,rfl,R⟩,λn a s j h=>by rw[h.1];exact J,λn d a s j r h=> ?_,λa s j h=> ?_⟩
 ·obtain⟨rfl,rfl,h3⟩:=h
  have r:p.1[n]?=some d:=r
  rw[A,gQm] at r
  obtain⟨x,m,rfl⟩:=oQm.mp r
  obtain⟨b,S2,F,rfl,h4,h5⟩:=L x (mQg m) a h3
  refine⟨b,S2,F,?_⟩
  refine h5.mono λk z u=> ?_
  obtain⟨K,M,C⟩:=u
  subst K M
  have U:=(gQs.mp m).1
  have w:((xs.take (n+1)).filter c).map G=((xs.take n).filter c).map G++if c x=true then [G x] else []:=by
   rw[QYq,m]
   cases l:c x <;>simp[l]
  by_cases l:c x=true
  ·rw[Qhq l]
   refine(C l).mono λy B u=> ?_
   obtain⟨H,N⟩:=u
   subst H N
   refine⟨?_,rfl,?_,h4⟩
   ·rw[lQm]
    have:=List.length_filter_le c (xs.take n)
    rw[Qxq] at this
    exact bp (by omega)
   ·rw[w,Qhq l]
  ·rw[Quq l]
   refine⟨rfl,?_,h4⟩
   rw[w,Quq l,List.append_nil]
 ·obtain⟨rfl,rfl,_⟩:=h
  have e:p.1.length=xs.length:=by rw[A,lQm]
  show Q (((xs.take p.1.length).filter c).map G) _
  rw[e,QEq]
  exact q
end DL
namespace W28
open PySem PySem.Spec L2 DL
section
variable{S:aF}{Q:Res->aF->Prop}
def kB(l:List (Int×Int))(t h:Int):List (Int×Int):=l.take (l.filter λp=>decide (p.1<=t)).length++ [(t,h)]++l.drop (l.filter λp=>decide (p.1<=t)).length
def vo{w:dD}{s:bB}{h i:Nat}{vs:List Int}{fs:List cE}{f:cE}{r:Rm}{rs:cT}{x u:Str}{t:Tr}{v:Int}{g:List (Int×Int)}(U:s.af[h]?=some (vs,fs))(N:fs.getLast? =some f)(M:f.room=i)(K:w.ao[i]?=some r)(m:s.ao[i]?=some rs)(Z:r.aa.length<=100)(l2:r.aa.length=rs.aa.length)(W:s.ao.length<=100)(J:x∈r.aa.map (·.1))
  (y:r.aa[eW (r.aa.map (·.1)) x]?=some (x,u)) (k:rs.aa[eW (r.aa.map (·.1)) x]?=some g) (b4:g.length<=900) (I:BK w s h t v)
  (q:Q (.d ({s with ao:=s.ao.set i (cu {rs with aa:=rs.aa.set (eW (r.aa.map (·.1)) x) (kB g (if u="turns" then v else 0) h)})}:bB).d) S):Fn oE [w.d,s.d,.int h,(Rw.wait x t).d] S Q:=by
 have C:=(g9 J).1
 rw[lQm] at C
 have R:i<s.ao.length:=(gQs.mp m).1
 refine cg ?_
 unfold ua
 symm
 apply ay (d:=.str x) rfl ?_
 refine nI U N M K Z J ?_
 refine fm rfl (aC (a_ (aC (a_ (bH ?_)))))
 generalize eW (r.aa.map (·.1)) x=b at C q y k⊢
 have Y:b<rs.aa.length:=by omega
 symm
 apply ay rfl ?_
 refine ay (d:=r.d) (aY (by rw[gQm,K];rfl)) ?_
 symm
 apply ay rfl ?_
 refine ay (d:=F0 (x,u)) (aY (by rw[gQm,y];rfl)) ?_
 symm
 apply ay (d:=.str u) rfl ?_
 refine ji ?_
 dsimp only
 have A:∀j:Int,j=(if u="turns" then v else 0)->T (aH (bg 7 (aW jr (aW jr (aW jr (aW jr (aw 1) (cF (.int 0))) (aw 4)) (cF (.int 4))) (aw 5)))
   (aH (bg 8 (hV (gL (cp [none,none,some 6] (j2 (a9 (aw 7))) (lJ (nG 2 (aR (cn 0) (aR (cn 1) eJ)))) (aI (aW Lf (aw 0) (aw 2))) (aw 0)))))
   (aH (bg 9 (aA fu (au (aw 1) (au (aw 4) (au (aw 5) (au (aW bU (aW bU (oY (aw 7) qd (oV (aw 8))) (a8 (au (a8 (au (aw 6) (au (aw 2) ax))) ax))) (oY (aw 7) (oV (aw 8)) qd)) ax))))))
   (cH (aA qy (au (aw 9) (au (aw 4) ax)))))))
   [some w.d,some s.d,some (.int h),some (Rw.wait x t).d,some (.int i),some (.int b),some (.int j),none,none,none] S (λo=>match o with
   |.nx _ B=>Op (settle S .non B) λp=>Q p.1 p.2|.rt d B=>Op (settle S d B) λp=>Q p.1 p.2|.rl l B=>Op (eB S l B) λp=>Q p.1 p.2|_=>False):=by
  intro j H
  rw[←H] at q
  symm
  apply ay rfl ?_
  refine ay (d:=rs.d) (aY (by rw[gQm,m];rfl)) ?_
  symm
  apply ay rfl ?_
  refine ay (d:=bV g) (aY (by rw[gQm,k];rfl)) ?_
  symm
  apply ki (α:=Int×Int) (λz=>∃a b,z= [a,b,some (.int j)]) pairD (λp=>.int p.1) (λp=>decide (p.1<=j)) ⟨none,none,rfl⟩ ?_
  refine cI (ds:=g.map pairD) ?_
  refine⟨g,rfl,trivial,by omega,λp C z G=> ?_,?_⟩
  ·obtain⟨a,b,rfl⟩:=G
   refine fm rfl (aC (a_ (aC (a_ (bH ?_)))))
   apply⟨rfl,⟨_,_,rfl⟩,?_⟩
   apply⟨rfl,rfl,λ_=> ?_⟩
   exact⟨rfl,rfl⟩
  have P:((g.filter λp=>decide (p.1<=j)).map λp=>D.int p.1).length=(g.filter λp=>decide (p.1<=j)).length:=lQm ..
  have F:=List.length_filter_le (λp=>decide (p.1<=j)) g
  unfold kB at q
  symm
  rw[P]
  generalize (g.filter λp=>decide (p.1<=j)).length=n at q F⊢
  apply iY ?_
  apply cC (cD ?_)
  refine⟨_,rfl,g.map pairD,rfl,?_⟩
  rw[BF (by rw[lQm];exact F)]
  symm
  refine⟨by show 2<=_;decide,?_⟩
  symm
  refine⟨by show 1<=_;decide,?_⟩
  refine et (by simp only[lQm,Qxq,Qnq,QGq];exact nQl (bp (by omega))) ?_
  apply iY ?_
  apply cD ?_
  refine⟨_,rfl,cC ⟨g.map pairD,rfl,?_⟩⟩
  rw[gH (by rw[lQm];exact F)]
  refine et (by simp only[lQa,lQm,Qxq,List.length_drop,Qnq,QGq];exact nQl (bp (by omega))) ?_
  symm
  have e:D.tup ((g.map pairD).take n++ [D.tup [.int j,.int h]]++(g.map pairD).drop n)=bV (g.take n++ [(j,(h:Int))]++g.drop n):=by
   simp only[bV,Qzq,List.map_take,List.map_drop]
   rfl
  rw[e]
  generalize g.take n++ [(j,(h:Int))]++g.drop n=nl at q⊢
  apply ka m Y (by omega) W ?_
  have L:Op (settle S ({s with ao:=s.ao.set i (cu {rs with aa:=rs.aa.set b nl})}:bB).d S) λp=>Q p.1 p.2:=cJ (aX _) (bB.low _) q
  generalize a0:({rs with aa:=rs.aa.set b nl}:cT)=nr at L⊢
  have X:Op (settle S ({s with ao:=(s.ao.set i nr).set i (cu nr)}:bB).d S) λp=>Q p.1 p.2:=by rw[List.set_set];exact L
  exact zW (s:={s with ao:=s.ao.set i nr}) (Qyq R) (by simp;omega) X
 by_cases c:u="turns"
 ·rw[Qeq c,Qhq rfl]
  symm
  apply ay (d:=t.d) rfl ?_
  refine I _ _ ?_
  exact A v (by rw[Qhq c])
 ·rw[Qdq c,Quq (by decide)]
  refine cy ?_
  exact A 0 (by rw[Quq c])
end
end W28
namespace DL
open PySem PySem.Spec L2
section
variable{Γ:cN}{S:aF}
def NQ{a:List (Str×Str)}{g:bE}{Q:D->aF->Prop}(h:E g Γ S λy b=>∃x nm,y=.str x/\a.lookup x=some nm/\Q (.fn nm) b):E (Nc a g) Γ S Q:=by
 obtain⟨y,b,c,x,nm,rfl,e2,q⟩:=h
 exact⟨_,b,by unfold Nc;rw[c];simp only[Qbq];rw[e2];rfl,q⟩
def Ia{i:Nat}{T:List (Str×dG)}{g:fW}{x:Str}{F:dG}{Q:D->aF->Prop}(b:Γ[i]?=some (some (.fn x)))(a:T.lookup x=some F)(h:E (aA F g) Γ S Q):E (uD i T g) Γ S Q:=by
 obtain⟨y,c,d,q⟩:=h
 exact⟨_,c,by unfold uD;rw[b];show(T.lookup x).bind _=_;rw[a];exact d,q⟩
def Lw{a:Bool}{x:D}{Q:D->Prop}(q:Q (.bl (if a then !isNone x else isNone x))):Op (GX a S x .non) Q:=⟨_,rfl,q⟩
end
def wz{α:Type}{xs:List α}{a b:α}:jU (xs++ [a,b]) (-2)=some a:=by
 unfold jU GU
 rw[Quq (by omega),Qhq (by simp;omega)]
 simp only[Qbq]
 rw[show((-2:Int)+((xs++ [a,b]).length:Int)).toNat=xs.length by simp;omega]
 simp
end DL
namespace W28
open PySem PySem.Spec L2 DL
section
variable{S:aF}{Q:Res->aF->Prop}
def Oy:Rw->dG
 |.put _ _=>sZ
 |.unl _ _=>jW
 |.go _=>yD
 |.do_ _ _ _ _=>x_
 |.wait _ _=>oE
 |.call _=>p7
 |.all _=>tE
 |.tell _=>pP
 |.take _=>oD
 |.give _=>oX
 |.pass _ _=>pO
 |.say _=>sU
def Rw.kind:Rw->Str
 |.put _ _=>"put"
 |.unl _ _=>"unless"
 |.go _=>"go"
 |.do_ _ _ _ _=>"do"
 |.wait _ _=>"wait"
 |.call _=>"call"
 |.all _=>"all"
 |.tell _=>"tell"
 |.take _=>"take"
 |.give _=>"give"
 |.pass _ _=>"pass"
 |.say _=>"say"
def Rw.d_kind(r:Rw):∃l,r.d=.tup (.str r.kind::l):=by cases r <;>exact⟨_,rfl⟩
def G9(r:Rw):∃nm,mw.lookup r.kind=some nm/\uC.lookup nm=some (Oy r):=by
 cases r
 ·exact⟨"by_put",rfl,rfl⟩
 ·exact⟨"by_unless",rfl,rfl⟩
 ·exact⟨"by_go",rfl,rfl⟩
 ·exact⟨"by_do",rfl,rfl⟩
 ·exact⟨"by_wait",rfl,rfl⟩
 ·exact⟨"by_call",rfl,rfl⟩
 ·exact⟨"by_all",rfl,rfl⟩
 ·exact⟨"by_tell",rfl,rfl⟩
 ·exact⟨"by_take",rfl,rfl⟩
 ·exact⟨"by_give",rfl,rfl⟩
 ·exact⟨"by_pass",rfl,rfl⟩
 ·exact⟨"by_say",rfl,rfl⟩
def HX(w:dD)(s:bB)(h:Nat)(r:Rw)(a:bB):Prop:=∀(S:aF) (Q:Res->aF->Prop),Q (.d a.d) S->Fn (Oy r) [w.d,s.d,.int h,r.d] S Q
def A1{w:dD}{s a:bB}{h:Nat}{r:Rw}(hd:HX w s h r a)(q:Q (.d a.d) S):Fn jH [w.d,s.d,.int h,r.d] S Q:=by
 obtain⟨nm,b,c⟩:=G9 r
 obtain⟨l,hl⟩:=r.d_kind
 refine cg ?_
 unfold wZ
 apply bC (lC (NQ ?_))
 rw[hl]
 refine ay (d:=.str r.kind) Gy ?_
 rw[←hl]
 refine⟨_,nm,rfl,b,?_⟩
 apply i9 (Ia (x:=nm) rfl c ?_)
 refine hd _ _ ?_
 exact cJ (aX _) (bB.low _) q
def i_{w:dD}{s o:bB}{h i:Nat}{vs:List Int}{e:List cE}{b f:cE}{rs:cT}{pr:List Rw}{g:Option Str}{u r:Str}{t:Tr}(p:s.af[h]?=some (vs,e++ [b,f]))(v:f.room=i)(m:s.ao[i]?=some rs)(A:s.ao.length<=900)(y:s.af.length<=900)
  (z:progOf w h b=some pr) (C:1<=b.row) (k:pr[(b.row-1).toNat]?=some (.do_ g u r t))
  (j:∀a:bB,a={s with ao:=s.ao.set i (cu rs),af:=s.af.set h (vs,e++ [b])}->match g with|none=>o=a|some x=>Puts w a h x f.told o)
  (q:Q (.d o.d) S):Fn jN [w.d,s.d,.int h] S Q:=by
 have B:h<s.af.length:=(gQs.mp p).1
 refine cg ?_
 unfold qN
 symm
 apply ay rfl ?_
 refine ay (d:=A7 (vs,e++ [b,f])) (aY (by rw[gQm,p];rfl)) ?_
 refine fm rfl (aC (a_ (aC (a_ (bH ?_)))))
 have l:(e++ [b,f]).map cE.d=e.map cE.d++ [b.d,f.d]:=by simp
 dsimp only
 rw[l]
 symm
 apply rZ ?_
 refine⟨1,rfl,?_⟩
 refine ay (d:=f.d) (Aw (by simp)) ?_
 refine fm rfl (aC (a_ (aC (a_ (aC (a_ (aC (a_ (aC (a_ (bH ?_)))))))))))
 rw[v]
 symm
 apply zW m A ?_
 apply iY ?_
 apply cC (cD (rZ ?_))
 refine⟨1,rfl,_,rfl,_,rfl,?_⟩
 rw[zu (by simp)]
 have n:D.tup ((e.map cE.d++ [b.d,f.d]).dropLast)=.tup ((e++ [b]).map cE.d):=by
  rw[show e.map cE.d++ [b.d,f.d]=(e.map cE.d++ [b.d])++ [f.d] by simp,List.dropLast_concat]
  simp
 rw[n]
 symm
 refine hX (s:={s with ao:=s.ao.set i (cu rs)}) B y ?_
 have j:=j _ rfl
 dsimp only at j⊢
 generalize ({s with ao:=s.ao.set i (cu rs),af:=s.af.set h (vs,e++ [b])}:bB)=a at j⊢
 symm
 apply rZ ?_
 refine⟨2,rfl,?_⟩
 apply ay (d:=b.d) wz ?_
 apply gB z ?_
 apply rZ ?_
 refine⟨2,rfl,?_⟩
 apply ay (d:=b.d) wz ?_
 apply ay (d:=.int b.row) rfl ?_
 refine ay (d:=(Rw.do_ g u r t).d) (mE (by omega) (by rw[gQm,k];rfl)) ?_
 symm
 apply ay (d:=HN g) rfl ?_
 refine Lw ?_
 cases g with
 | none=>
   dsimp only at j
   subst j
   apply aV (λ_=> ?_) (λc=>by cases c)
   exact cJ (aX _) (bB.low _) q
 | some x=>
   apply aV (λc=>by cases c) (λ_=>cy ?_)
   apply ay (d:=.str x) rfl ?_
   refine j _ _ ?_
   exact cJ (aX _) (bB.low _) q
end
section
variable{S:aF}{Q:Res->aF->Prop}
def NX(h:Nat):Option Int->D
 |none=>.non
 |some v=>.tup [.int h,.int v]
def Iw(h:Nat)(e:Option Int):cb 0 (NX h e)=true:=by cases e <;>rfl
def GS(s:bB)(h:Nat)(e:Option Int):D:=.tup [s.d,NX h e]
def sX(s:bB)(h:Nat)(e:Option Int):cb 0 (GS s h e)=true:=by
 simp only[GS,cb,bS,Iw,bB.low,Bool.and_true]
def pM(w:dD)(s:bB)(h:Nat)(a:bB)(e:Option Int):Prop:=∀(S:aF) (Q:Res->aF->Prop),Q (.d (GS a h e)) S->Fn o_ [w.d,s.d,.int h] S Q
def wg{w:dD}{s:bB}{h i:Nat}{vs:List Int}{fs:List cE}{f:cE}{rs:cT}(g:s.af[h]?=some (vs,fs))(c:fs.getLast? =some f)(b:f.room=i)(a:s.ao[i]?=some rs)(j:rs.within≠h)(l:s.ao.length<=900)(e:rs.row.length<=900):
  pM w s h {s with ao:=s.ao.set i (g_ rs h)} none:=by
 intro S Q q
 refine cg ?_
 unfold lY
 symm
 apply cf g c ?_
 apply ay (d:=.int f.room) rfl ?_
 refine oQ ?_
 dsimp only
 rw[Qdq (show¬f.room= -1 by omega),b]
 show if (true=true) then _ else _
 rw[Qhq rfl]
 symm
 apply ay rfl ?_
 refine ay (d:=rs.d) (aY (by rw[gQm,a];rfl)) ?_
 symm
 apply ay (d:=.int rs.within) rfl ?_
 refine oQ ?_
 dsimp only
 rw[Qdq j]
 show if (true=true) then _ else _
 rw[Qhq rfl]
 symm
 apply uU a l e ?_
 refine⟨by show 2<=_;decide,?_⟩
 exact cJ (d:=GS _ h none) (λk z=>(nomatch z)) (sX _ _ _) q
def Here(s:bB)(h:Nat)(f:cE):Prop:=f.room= -1\/∃(i:Nat) (a:cT),f.room=i/\s.ao[i]?=some a/\a.within=h
def wK{w:dD}{s:bB}{h:Nat}{f:cE}{a b c d:Option D}{Q:Bool->aF->Prop}(k:Here s h f)(q:Q false S):E (g7 (aI (aW (fP true) (aw 4) (cF (.int (-1))))) (aI (aW (fP true) (aW jr (aW jr (aW jr (aw 1) (cF (.int 0))) (aw 4)) (cF (.int 1))) (aw 2)))) [some w.d,some s.d,some (.int h),some f.d,some (.int f.room),a,b,c] S Q:=by
 rcases k with e|⟨i,j,e,g,l⟩
 ·symm
  refine oQ ?_
  dsimp only
  rw[Qeq e]
  show if (false=true) then _ else _
  rw[Quq (by decide)]
  exact q
 ·symm
  refine oQ ?_
  dsimp only
  rw[Qdq (show¬f.room= -1 by omega),e]
  show if (true=true) then _ else _
  rw[Qhq rfl]
  symm
  apply ay rfl ?_
  refine ay (d:=j.d) (aY (by rw[gQm,g];rfl)) ?_
  symm
  apply ay (d:=.int j.within) rfl ?_
  refine oQ ?_
  dsimp only
  rw[Qeq l]
  exact q
def pY{w:dD}{s b:bB}{h:Nat}{vs:List Int}{fs:List cE}{f:cE}{pr:List Rw}(i:s.af[h]?=some (vs,fs))(e:fs.getLast? =some f)(j:Here s h f)(g:progOf w h f=some pr)(a:f.row=pr.length)
  (he:∀(S:aF) (Q:Res->aF->Prop),Q (.d b.d) S->Fn jN [w.d,s.d,.int h] S Q):pM w s h b none:=by
 intro S Q q
 refine cg ?_
 unfold lY
 symm
 apply cf i e ?_
 refine ay (d:=.int f.room) rfl ?_
 refine bC (dZ (wK (d:=none) j ?_))
 apply aV (λc=>by cases c) (λ_=>cy ?_)
 apply gB g ?_
 apply ay (d:=.int f.row) rfl ?_
 refine eR ?_
 dsimp only
 rw[lQm,Qeq a,Qhq rfl]
 symm
 apply he _ _ ?_
 refine⟨by show 2<=_;decide,?_⟩
 exact cJ (d:=GS _ h none) (λk z=>(nomatch z)) (sX _ _ _) q
def FK(w:dD)(s:bB)(h:Nat)(r:Rw)(e:Option Int):Prop:=match r with
 |.say t=>∃v,e=some v/\BK w s h t v
 |_=>e=none
def uu{w:dD}{s m:bB}{h:Nat}{vs:List Int}{fs:List cE}{f:cE}{pr:List Rw}{r:Rw}{e:Option Int}(n:s.af[h]?=some (vs,fs))(j:fs.getLast? =some f)(y:Here s h f)(x:progOf w h f=some pr)(A:0<=f.row)(b:pr[f.row.toNat]?=some r)(u:fs.length<=900)(C:s.af.length<=900)
  (a:FK w s h r e) (hd:HX w {s with af:=s.af.set h (vs,fs.dropLast++ [{f with row:=f.row+1}])} h r m):pM w s h m e:=by
 intro S Q q
 have B:=(gQs.mp b).1
 refine cg ?_
 unfold lY
 symm
 apply cf n j ?_
 refine ay (d:=.int f.room) rfl ?_
 refine bC (dZ (wK (d:=none) y ?_))
 apply aV (λc=>by cases c) (λ_=>cy ?_)
 apply gB x ?_
 apply ay (d:=.int f.row) rfl ?_
 refine eR ?_
 dsimp only
 rw[lQm,Qdq (show¬f.row=(pr.length:Int) by omega),Quq (by decide)]
 apply cy ?_
 refine ay (d:=.int f.row) rfl ?_
 refine ay (d:=r.d) (mE A (by rw[gQm,b];rfl)) ?_
 symm
 obtain⟨l,hl⟩:=r.d_kind
 have g:T (cH (a8 (au (aA jH (au (aw 0) (au (aA kI (au (aw 1) (au (aw 2) (au (aW bU (aW jr (aw 3) (cF (.int 2))) (cF (.int 1))) ax)))) (au (aw 2) (au (aw 6) ax))))) (au (aw 7) ax))))
   [some w.d,some s.d,some (.int h),some f.d,some (.int f.room),some (.tup (pr.map Rw.d)),some r.d,some (NX h e)] S (λo=>match o with
   |.nx _ i=>Op (settle S .non i) λp=>Q p.1 p.2|.rt d i=>Op (settle S d i) λp=>Q p.1 p.2|.rl l i=>Op (eB S l i) λp=>Q p.1 p.2|_=>False):=by
  symm
  apply ay (d:=.int f.row) rfl ?_
  apply qE n j u C ?_
  apply A1 hd ?_
  refine⟨by show 2<=_;decide,?_⟩
  exact cJ (d:=GS _ h e) (λk z=>(nomatch z)) (sX _ _ _) q
 cases r with
 | say t=>
   obtain⟨v,rfl,hv⟩:=a
   apply ay (d:=.str "say") rfl ?_
   refine ji ?_
   dsimp only
   rw[Qeq rfl,Qhq rfl]
   symm
   apply ay (d:=t.d) rfl ?_
   apply hv _ _ ?_
   refine⟨by show 2<=_;decide,?_⟩
   exact g
 | _=>
   have a:e=none:=a
   subst a
   apply ay rfl ?_
   refine ji ?_
   dsimp only
   refine aV (λc=>absurd (QZq c) (by decide +kernel)) (λ_=>cy ?_)
   exact g
end
end W28
namespace DL
open PySem PySem.Spec L2
section
variable{Γ:cN}{S:aF}
def Ge{f:bE}{g:dF}{Q:D->aF->Prop}(h:E f Γ S λx b=>∃k a,x=.ref k/\b[k]?=some (.lst a)/\E g Γ b λp S2=>∃ds,S2[k]?=some (.lst ds)/\(p.2.isL=false/\ds.length+p.1.length<=sizeLine)/\Q .non (S2.set k (.lst (ds++p.1)))):E (w6 f g) Γ S Q:=by
 obtain⟨x,b,c,k,a,rfl,h1,p,S2,e2,ds,h2,h3,q⟩:=h
 exact⟨_,_,by unfold w6;rw[c];simp only[Qbq,e2,h1,h2];rw[Qhq h3],q⟩
end
def BH{S a:aF}{k:Nat}{ds:List D}{Q:Res×aF->Prop}(b:pX S a)(d:S.length<=k)(c:a[k]?=some (.lst ds))(hl:bS S.length ds=true)(q:Q (.l ds,a.take S.length)):Op (settle S (.ref k) a) Q:=by
 refine⟨_,?_,q⟩
 unfold settle
 rw[Qhq b]
 show(if k<S.length then _ else _)=_
 rw[Quq (by omega),c]
 show(if bS S.length ds=true then _ else _)=_
 rw[Qhq hl]
def xG{n:Nat}(h:n<=100000):n<=sizeLine:=QAq h (by decide)
theorem kd:∀ss:List Int,iU (ss.map D.int)=some (ss.map V.int)
 | []=>rfl
 |s::ss=>by simp only[QDq,iU,yu,Qbq];rw[kd ss];rfl
def xF{x:Int}{ss:List Int}:GI (.int x) (ss.map V.int)=decide (x∈ss):=by
 induction ss with
 |nil=>rfl
 | cons a ss d=>
   show(sA (.int a) (.int x)||GI (.int x) (ss.map V.int))=_
   rw[d]
   simp only[sA,Qsq]
   by_cases c:a=x
   · subst c;simp
   · have b:¬x=a:=λz=>c z.symm
     simp[c,b]
end DL
namespace W28
open PySem PySem.Spec L2 DL
section
variable{S:aF}{Q:Res->aF->Prop}
def AK{S a:aF}(x:oA S a):a.take S.length=S:=by
 apply List.ext_getElem?
 intro j
 by_cases b:j<S.length
 ·rw[List.getElem?_take_of_lt b]
  exact x.eq j b
 ·rw[List.getElem?_eq_none (by rw[Qxq];omega),List.getElem?_eq_none (by omega)]
def J3{S a:aF}{ds:List D}{Q:Res->aF->Prop}(x:oA S a)(hl:bS 0 ds=true)(q:Q (.l ds) S):Op (eB S ds a) λp=>Q p.1 p.2:=
 nJ ⟨x.len,λk o b e=>.inl (by rw[←x.eq k b];exact e)⟩ (AK x) (jB hl) q
def J0{S a:aF}{k:Nat}{ds:List D}{Q:Res->aF->Prop}(x:oA S a)(b:S.length<=k)(c:a[k]?=some (.lst ds))(hl:bS 0 ds=true)(q:Q (.l ds) S):Op (settle S (.ref k) a) λp=>Q p.1 p.2:=
 BH ⟨x.len,λk o b e=>.inl (by rw[←x.eq k b];exact e)⟩ b c (jB hl) (by rw[AK x];exact q)
def AY{l:List (Int×Int)}(hl:l.length<=1000)(q:Q (.l ((l.map (·.2)).map D.int)) S):Fn my [bV l] S Q:=by
 refine cg ?_
 unfold qp
 symm
 apply uO (α:=Int×Int) (λc=>∃a b,c= [a,b]) pairD (λp=>.int p.2) ⟨none,none,rfl⟩ ?_
 refine cI (ds:=l.map pairD) ?_
 refine⟨l,rfl,trivial,hl,λp f c d=> ?_,?_⟩
 ·obtain⟨a,b,rfl⟩:=d
  refine fm rfl (aC (a_ (aC (a_ (bH ?_)))))
  apply⟨rfl,⟨_,_,rfl⟩,?_⟩
  exact⟨rfl,rfl⟩
 ·have e:l.map (λp=>D.int p.2)=(l.map (·.2)).map D.int:=by rw[QPq];rfl
  rw[e]
  exact FM (bc λ_ _=>rfl) q
def aU(r:cT):List Int:=r.row++r.ag++r.aa.flatMap λl=>l.map (·.2)
def held(s:bB):List Int:=s.ak.flatMap (·.2)++s.ao.flatMap aU
theorem pS{α d:Type}{f:α->List d}{n:Nat}:∀{l:List α},(∀a∈l,(f a).length<=n)->(l.flatMap f).length<=n*l.length
 | [],_=>by simp
 | a::l,h=>by
   have g:=h a (QBq ..)
   have e:=pS (f:=f) (l:=l) λb c=>h b (Qpq _ c)
   rw[QSq,lQa,Qnq,Nat.mul_add]
   omega
def qv{α b:Type}{f:α->List b}{l:List α}{n:Nat}{a:α}(h:l[n]?=some a):(l.take (n+1)).flatMap f=(l.take n).flatMap f++f a:=by
 rw[QYq,h]
 simp
def qi{s:bB}{n:Nat}(N:n<=100)(b1:s.ak.length<=100)(b2:s.ao.length<=20)(P:∀p∈s.ak,p.2.length<=n)(H:∀r∈s.ao,r.row.length<=n/\r.ag.length<=n/\r.aa.length<=10/\∀l∈r.aa,l.length<=n)
  (q:Q (.l ((held s).map D.int)) S):Fn eE [s.d] S Q:=by
 have X:∀o:List D,oA S (S++ [.lst o]):=λo=>oA.refl.app
 have B:∀r∈s.ao,∀j:Nat,((r.aa.take j).flatMap λl=>l.map (·.2)).length<=1000:=λr B j=>by
  obtain⟨_,_,R,L⟩:=H r B
  have G:=pS (f:=λl:List (Int×Int)=>l.map (·.2)) (n:=n) (l:=r.aa.take j) λl hl=>by rw[lQm];exact L l (List.mem_of_mem_take hl)
  have C:(r.aa.take j).length<=10:=by rw[Qxq];omega
  have Z:n*(r.aa.take j).length<=100*10:=Nat.mul_le_mul N C
  omega
 have K:∀r∈s.ao,(aU r).length<=1200:=λr h=>by
  have I:=B r h r.aa.length
  obtain⟨Y,R,_⟩:=H r h
  rw[QEq] at I
  simp only[aU,lQa]
  omega
 have w:∀j:Nat,((s.ak.take j).flatMap (·.2)).length<=10000:=λj=>by
  have G:=pS (f:=λp:Int×List Int=>p.2) (n:=n) (l:=s.ak.take j) λl hl=>P l (List.mem_of_mem_take hl)
  have C:(s.ak.take j).length<=100:=by rw[Qxq];omega
  have Z:n*(s.ak.take j).length<=100*100:=Nat.mul_le_mul N C
  omega
 have J:∀j:Nat,((s.ao.take j).flatMap aU).length<=24000:=λj=>by
  have G:=pS (f:=aU) (n:=1200) (l:=s.ao.take j) λl hl=>K l (List.mem_of_mem_take hl)
  have C:(s.ao.take j).length<=20:=by rw[Qxq];omega
  omega
 refine cg ?_
 unfold iG
 symm
 refine⟨by decide,?_⟩
 apply bC (hU (oF ?_))
 refine ay rfl ?_
 refine cI (ds:=s.ak.map vO) ?_
 refine⟨λj k u=>(∃a b c d e f g,k= [some s.d,some (.ref S.length),a,b,c,d,e,f,g])/\u=S++ [.lst (((s.ak.take j).flatMap (·.2)).map D.int)],⟨⟨_,_,_,_,_,_,_,rfl⟩,rfl⟩,λ_ _ _ _=>trivial,?_,?_⟩
 ·rintro j d k u t ⟨⟨a,b,c,F,e,f,g,rfl⟩,rfl⟩
  have t:(s.ak.map vO)[j]?=some d:=t
  rw[gQm] at t
  obtain⟨p,M,rfl⟩:=oQm.mp t
  refine fm rfl (aC (a_ (aC (a_ (bH ?_)))))
  apply iZ (Ge ?_)
  apply⟨_,_,rfl,aL,?_⟩
  refine cI (ds:=p.2.map D.int) ?_
  refine⟨_,aL,⟨rfl,?_⟩,⟨_,_,_,_,_,_,_,rfl⟩,?_⟩
  ·have:=w j
   have:=P p (mQg M)
   simp only[lQm]
   exact xG (by omega)
  ·rw[qv M,Qzq]
   simp
 rintro k u ⟨⟨a,b,c,F,e,f,g,rfl⟩,rfl⟩
 have hl:(s.ak.map vO).length=s.ak.length:=lQm ..
 rw[hl,QEq]
 apply bC (hU (oF ?_))
 refine ay rfl ?_
 refine cI (ds:=s.ao.map cT.d) ?_
 refine⟨λj k u=>(∃a b c d e f g,k= [some s.d,some (.ref S.length),a,b,c,d,e,f,g])/\u=S++ [.lst ((s.ak.flatMap (·.2)++(s.ao.take j).flatMap aU).map D.int)],⟨⟨_,_,_,_,_,_,_,rfl⟩,by simp⟩,λ_ _ _ _=>trivial,?_,?_⟩
 ·rintro j d k u t ⟨⟨a,b,c,F,e,f,g,rfl⟩,rfl⟩
  have t:(s.ao.map cT.d)[j]?=some d:=t
  rw[gQm] at t
  obtain⟨r,A,rfl⟩:=oQm.mp t
  have v:=mQg A
  obtain⟨Y,R,L,G⟩:=H r v
  have x:(s.ak.flatMap (·.2)++(s.ao.take j).flatMap aU).length<=34000:=by
   have:=w s.ak.length
   rw[QEq] at this
   have:=J j
   rw[lQa]
   omega
  generalize z:s.ak.flatMap (·.2)++(s.ao.take j).flatMap aU=o at x⊢
  refine fm rfl (aC (a_ (aC (a_ (aC (a_ (aC (a_ (aC (a_ (bH ?_)))))))))))
  apply bC (iZ (Ge ?_))
  apply⟨_,_,rfl,aL,?_⟩
  refine et (i:=r.row.map D.int) (j:=r.ag.map D.int) (by simp only[lQm];exact xG (by omega)) ?_
  refine cI ?_
  refine⟨_,aL,⟨rfl,?_⟩,?_⟩
  ·simp only[lQa,lQm]
   exact xG (by omega)
  dsimp only
  have W:(S++ [O.lst (o.map D.int)]).set S.length (.lst (o.map D.int++(r.row.map D.int++r.ag.map D.int)))=S++ [.lst ((o++(r.row++r.ag)).map D.int)]:=by simp
  rw[W]
  apply hU (oF ?_)
  refine⟨λj k u=>(∃a b c d e f g,k= [some s.d,some (.ref S.length),a,b,c,d,e,f,g])/\u=S++ [.lst ((o++(r.row++r.ag)++(r.aa.take j).flatMap λl=>l.map (·.2)).map D.int)],⟨⟨_,_,_,_,_,_,_,rfl⟩,by simp⟩,λ_ _ _ _=>trivial,?_,?_⟩
  ·rintro m d k u t ⟨⟨a,b,c,F,e,f,g,rfl⟩,rfl⟩
   have t:(r.aa.map bV)[m]?=some d:=t
   rw[gQm] at t
   obtain⟨l,y,rfl⟩:=oQm.mp t
   have U:=G l (mQg y)
   refine a_ ?_
   apply iZ (Fk ?_)
   apply⟨_,_,rfl,aL,?_⟩
   apply AY (by omega) ?_
   refine⟨_,aL,⟨rfl,?_⟩,⟨_,_,_,_,_,_,_,rfl⟩,?_⟩
   ·have:=B r v m
    simp only[lQa,lQm]
    exact xG (by omega)
   ·rw[qv y,←Qvq,Qzq]
    simp
  ·rintro k u ⟨I,rfl⟩
   refine⟨I,?_⟩
   have hl:(r.aa.map bV).length=r.aa.length:=lQm ..
   rw[hl,QEq,qv A]
   subst z
   simp only[aU,Qvq]
 ·rintro k u ⟨⟨a,b,c,F,e,f,g,rfl⟩,rfl⟩
  have hl:(s.ao.map cT.d).length=s.ao.length:=lQm ..
  rw[hl,QEq]
  symm
  exact J0 (X _) (Qmq _) aL (bc λ_ _=>rfl) q
end
section
variable{S:aF}{Q:Res->aF->Prop}
def CC(s:bB)(h:Nat):Option cE:=(s.af[h]?).bind λp=>p.2.getLast?
def vD(w:dD)(s:bB)(h:Nat):Bool:=match CC s h with
 |some f=>decide (f.room= -1)&&decide (f.row=(((progOf w h f).getD []).length:Int))
 |none=>false
def qC{w:dD}{s:bB}{h:Nat}{vs:List Int}{fs:List cE}{f:cE}{pr:List Rw}(b:s.af[h]?=some (vs,fs))(e:fs.getLast? =some f)(a:progOf w h f=some pr)(q:Q (.d (.bl (vD w s h))) S):Fn fH [w.d,s.d,.int h] S Q:=by
 have g:vD w s h=(decide (f.room= -1)&&decide (f.row=(pr.length:Int))):=by
  unfold vD CC
  rw[b]
  show(match fs.getLast? with|some f=>_|none=>_)=_
  rw[e]
  simp only[a,Option.getD_some]
 rw[g] at q
 refine cg ?_
 unfold iQ
 symm
 apply cf b e ?_
 apply Fe ?_
 apply ay (d:=.int f.room) rfl ?_
 refine eR ?_
 refine⟨_,rfl,?_⟩
 by_cases c:f.room= -1
 ·rw[Qeq c] at q⊢
  rw[Qhq rfl]
  symm
  apply ay (d:=.int f.row) rfl ?_
  apply gB a ?_
  refine eR ?_
  rw[lQm]
  exact cJ (λk z=>(nomatch z)) rfl q
 ·rw[Qdq c] at q⊢
  rw[Quq (by decide)]
  exact cJ (λk z=>(nomatch z)) rfl q
def oM(w:dD)(s:bB):List Nat:=(List.range s.af.length).filter λh=> !decide ((h:Int)∈held s)&& !vD w s h
def mJ(h:Nat):D:=.int h
def Jz(w:dD)(s:bB):Prop:=∀(S:aF) (Q:Res->aF->Prop),Q (.l ((oM w s).map mJ)) S->Fn iq [w.d,s.d] S Q
def Ai{w:dD}{s:bB}(m:∀(S:aF) (Q:Res->aF->Prop),Q (.l ((held s).map D.int)) S->Fn eE [s.d] S Q)(j:∀h<s.af.length,∃vs fs f pr,s.af[h]?=some (vs,fs)/\fs.getLast? =some f/\progOf w h f=some pr)(p:s.af.length<=100):Jz w s:=by
 intro S Q q
 refine cg ?_
 unfold qQ
 symm
 apply m _ _ ?_
 apply ki (α:=Nat) (λb=>∃a,b= [a,some w.d,some s.d,some (.ref S.length)]) (λ(i:Nat)=>D.int (0+(i:Int))) mJ (λh=> !decide ((h:Int)∈held s)&& !vD w s h) ⟨none,rfl⟩ ?_
 apply ay rfl ?_
 refine⟨_,rfl,?_,?_⟩
 ·simp only[lQm]
  omega
 refine⟨List.range s.af.length,?_,trivial,by simp;omega,λh o b e=> ?_,?_⟩
 ·simp only[ia,lQm]
  rfl
 ·obtain⟨a,rfl⟩:=e
  obtain⟨vs,fs,f,pr,g,k,n⟩:=j h (List.mem_range.mp o)
  refine a_ ⟨rfl,⟨_,rfl⟩,?_⟩
  rw[Int.zero_add]
  apply mf (b_ (IJ ?_))
  refine bG (ds:=(held s).map D.int) aL ?_
  refine⟨_,_,rfl,kd _,?_⟩
  rw[xF]
  by_cases c:(h:Int)∈held s
  ·rw[Qeq c]
   refine aV (λc=>by cases c) (λ_=> ?_)
   exact⟨rfl,rfl,λc=>by cases c⟩
  ·rw[Qdq c]
   apply aV (λ_=> ?_) (λc=>by cases c)
   refine qC g k n ?_
   dsimp only
   refine nk ?_
   apply⟨rfl,rfl,λ_=> ?_⟩
   exact⟨rfl,rfl⟩
 ·refine J3 (oA.refl.app) (bc λ_ _=>rfl) q
def BP{w:dD}{s b:bB}{h:Nat}{e:Option Int}(f:Jz w s)(g:h∈oM w s)(a:pM w s h b e)(q:Q (.d (GS b h e)) S):Fn oN [w.d,s.d,.int h] S Q:=by
 refine cg ?_
 unfold vt
 apply bC (dZ (b_ (IJ ?_)))
 refine f _ _ ?_
 dsimp only
 have i:(oM w s).map mJ=((oM w s).map λh:Nat=>(h:Int)).map D.int:=by rw[QPq];rfl
 refine⟨_,_,rfl,by rw[i];exact kd _,?_⟩
 rw[xF,Qeq (Qkq.mpr ⟨h,g,rfl⟩)]
 apply aV (λc=>by cases c) (λ_=>cy ?_)
 refine a _ _ ?_
 exact cJ (λk z=>(nomatch z)) (sX _ _ _) q
end
structure jS(n:Nat)(r:Rm)(rs:cT):Prop where
 lv:r.ar.length=rs.vals.length
 lb:r.aa.length=rs.aa.length
 vv:∀v∈rs.vals,0<=v/\v<=9
 br:rs.row.length<=n
 bl:rs.ag.length<=n
 bb:∀l∈rs.aa,l.length<=n
structure Gq(w:dD)(h:Nat)(f:cE):Prop where
 pr:∃pr,progOf w h f=some pr/\0<=f.row/\f.row<=pr.length
 gv:0<=f.given/\f.given<=9
 tv:0<=f.told/\f.told<=9
def Ni(w:dD)(h:Nat)(f:cE):Prop:=∃a g c b t,progOf w h f=some a/\1<=f.row/\a[(f.row-1).toNat]?=some (.do_ g c b t)
def jf:List cE->Prop
 | []=>False
 |f0::tl=>f0.room= -1/\∀f∈tl,f.room≠-1
structure jw(w:dD)(n h:Nat)(ts:List (Str×Nat))(vs:List Int)(fs:List cE):Prop where
 lv:ts.length=vs.length
 vv:∀v∈vs,0<=v/\v<=9
 lf:fs.length<=n
 fr:∀f∈fs,Gq w h f
 hd:jf fs
 ch:∀f∈fs.dropLast,Ni w h f
structure cR(w:dD)(n:Nat)(s:bB):Prop where
 lr:w.ao.length=s.ao.length
 rm:∀(i:Nat) (r:Rm) (rs:cT),w.ao[i]?=some r->s.ao[i]?=some rs->jS n r rs
 lp:w.ak.length=s.ak.length
 ps:∀p∈s.ak,p.2.length<=n
 ls:w.aq.length=s.aq.length
 sv:∀v∈s.aq,0<=v/\v<=9
 lh:w.af.length=s.af.length
 hd:∀(h:Nat) (ts:List (Str×Nat)) (pr:List Rw) (vs:List Int) (fs:List cE),w.af[h]?=some (ts,pr)->s.af[h]?=some (vs,fs)->jw w n h ts vs fs
def jS.mono{n m:Nat}{r:Rm}{rs:cT}(h:jS n r rs)(l:n<=m):jS m r rs:=⟨h.lv,h.lb,h.vv,QAq h.br l,QAq h.bl l,λx a=>QAq (h.bb x a) l⟩
def jw.mono{w:dD}{n m h:Nat}{ts:List (Str×Nat)}{vs:List Int}{fs:List cE}(x:jw w n h ts vs fs)(l:n<=m):jw w m h ts vs fs:=⟨x.lv,x.vv,QAq x.lf l,x.fr,x.hd,x.ch⟩
def cR.mono{w:dD}{n m:Nat}{s:bB}(x:cR w n s)(l:n<=m):cR w m s:=⟨x.lr,λi r g b a=>(x.rm i r g b a).mono l,x.lp,λp f=>QAq (x.ps p f) l,x.ls,x.sv,x.lh,λh e d j c b a=>(x.hd h e d j c b a).mono l⟩
def get_set{α:Type}{l:List α}{i j:Nat}{a b:α}(h:(l.set i a)[j]?=some b):(j=i/\b=a)\/(j≠i/\l[j]?=some b):=by
 rw[List.getElem?_set] at h
 split at h
 ·rename_i c
  split at h
  ·cases h;exact .inl ⟨c.symm,rfl⟩
  ·cases h
 ·rename_i c
  exact .inr ⟨λz=>c z.symm,h⟩
def cR.room{w:dD}{n i:Nat}{s:bB}{r:Rm}{nr:cT}(x:cR w n s)(e:w.ao[i]?=some r)(d:jS n r nr):cR w n {s with ao:=s.ao.set i nr} where
 lr:=by simpa using x.lr
 rm:=λj f c b a=>by
  rcases get_set a with⟨rfl,rfl⟩|⟨_,a⟩
  ·rw[e] at b;cases b;exact d
  ·exact x.rm j f c b a
 lp:=x.lp
 ps:=x.ps
 ls:=x.ls
 sv:=x.sv
 lh:=x.lh
 hd:=x.hd
def cR.pass{w:dD}{n i:Nat}{s:bB}{p:Int×List Int}(x:cR w n s)(b:p.2.length<=n):cR w n {s with ak:=s.ak.set i p} where
 lr:=x.lr
 rm:=x.rm
 lp:=by simpa using x.lp
 ps:=λq a=>by
  rcases QTq a with a|rfl
  ·exact x.ps q a
  ·exact b
 ls:=x.ls
 sv:=x.sv
 lh:=x.lh
 hd:=x.hd
def cR.share{w:dD}{n:Nat}{s:bB}{vs:List Int}(x:cR w n s)(hl:vs.length=s.aq.length)(a:∀v∈vs,0<=v/\v<=9):cR w n {s with aq:=vs}:=⟨x.lr,x.rm,x.lp,x.ps,by rw[x.ls,←hl],a,x.lh,x.hd⟩
def cR.hand{w:dD}{n h:Nat}{s:bB}{ts:List (Str×Nat)}{pr:List Rw}{vs:List Int}{fs:List cE}(x:cR w n s)(k:w.af[h]?=some (ts,pr))(i:jw w n h ts vs fs):cR w n {s with af:=s.af.set h (vs,fs)} where
 lr:=x.lr
 rm:=x.rm
 lp:=x.lp
 ps:=x.ps
 ls:=x.ls
 sv:=x.sv
 lh:=by simpa using x.lh
 hd:=λj f c g a b d=>by
  rcases get_set d with⟨rfl,e⟩|⟨_,d⟩
  ·rw[k] at b;cases b;cases e;exact i
  ·exact x.hd j f c g a b d
def fY{α:Type}{l:List α}{a:α}(h:l.getLast? =some a):l=l.dropLast++ [a]:=by
 cases l with
 |nil=>cases h
 | cons x y=>
   have b:x::y≠[]:=by simp
   rw[List.getLast?_eq_some_getLast b] at h
   cases h
   exact(List.dropLast_concat_getLast b).symm
def jf.last{fs:List cE}{f f':cE}:∀{c:List cE},jf (c++ [f])->f'.room=f.room->jf (c++ [f'])
 | [],h,e=>⟨by rw[e];exact h.1,λ_ z=>by cases z⟩
 | a::l,h,e=>⟨h.1,λx b=>by
   rcases mQa.mp b with b|b
   · exact h.2 x (mQa.mpr (.inl b))
   · rw[Qfq.mp b,e];exact h.2 f (mQa.mpr (.inr (Qfq.mpr rfl)))⟩
def jf.push{f':cE}:∀{fs:List cE},jf fs->f'.room≠-1->jf (fs++ [f'])
 | [],h,_=>h.elim
 | a::l,h,e=>⟨h.1,λx b=>by
   rcases mQa.mp b with b|b
   · exact h.2 x b
   · rw[Qfq.mp b];exact e⟩
def jf.pop{c f:cE}:∀{d:List cE},jf (d++ [c,f])->jf (d++ [c])
 | [],h=>⟨h.1,λ_ z=>by cases z⟩
 | a::l,h=>⟨h.1,λx b=>h.2 x (by
   rcases mQa.mp b with b|b
   · exact mQa.mpr (.inl b)
   · exact mQa.mpr (.inr (by rw[Qfq.mp b];simp)))⟩
def jf.two{f:cE}:∀{b:List cE},jf (b++ [f])->f.room≠-1->∃d c,b=d++ [c]
 | [],h,e=>absurd h.1 e
 |a::l,h,e=>⟨(a::l).dropLast,(a::l).getLast (by simp),(List.dropLast_concat_getLast (by simp)).symm⟩
section
variable{w:dD}{n h:Nat}{ts:List (Str×Nat)}{vs:List Int}{fs:List cE}{f f' f2:cE}
def jw.setLast(x:jw w n h ts vs fs)(d:fs.getLast? =some f)(e:f'.room=f.room)(i:Gq w h f'):jw w n h ts vs (fs.dropLast++ [f']):=by
 have c:=fY d
 have b:=x.hd
 rw[c] at b
 refine⟨x.lv,x.vv,?_,λg a=> ?_,jf.last (fs:=fs) b e,λg a=> ?_⟩
 ·have:=congrArg List.length c
  have:=x.lf
  simp only[lQa,Qnq,QGq] at *
  omega
 ·rcases mQa.mp a with a|a
  ·exact x.fr g (List.dropLast_subset _ a)
  ·rw[Qfq.mp a];exact i
 ·rw[List.dropLast_concat] at a
  exact x.ch g a
def jw.push(x:jw w n h ts vs fs)(b:fs.getLast? =some f)(d:Ni w h f)(e:f'.room≠-1)(i:Gq w h f'):jw w (n+1) h ts vs (fs++ [f']):=by
 refine⟨x.lv,x.vv,?_,λg a=> ?_,x.hd.push e,λg a=> ?_⟩
 ·have:=x.lf
  simp only[lQa,Qnq,QGq]
  omega
 ·rcases mQa.mp a with a|a
  ·exact x.fr g a
  ·rw[Qfq.mp a];exact i
 ·rw[List.dropLast_concat,fY b] at a
  rcases mQa.mp a with a|a
  ·exact x.ch g a
  ·rw[Qfq.mp a];exact d
def jw.pop{b:List cE}(x:jw w n h ts vs (b++ [f2,f])):jw w n h ts vs (b++ [f2])/\Ni w h f2:=by
 have e:(b++ [f2,f]).dropLast=b++ [f2]:=by rw[show b++ [f2,f]=(b++ [f2])++ [f] by simp,List.dropLast_concat]
 have c:=x.ch
 rw[e] at c
 refine⟨⟨x.lv,x.vv,?_,λg a=>x.fr g ?_,x.hd.pop,λg a=>c g ?_⟩,c f2 (by simp)⟩
 ·have:=x.lf
  simp only[lQa,Qnq,QGq] at *
  omega
 ·rcases mQa.mp a with a|a
  ·exact mQa.mpr (.inl a)
  ·exact mQa.mpr (.inr (by rw[Qfq.mp a];simp))
 ·rw[List.dropLast_concat] at a
  exact mQa.mpr (.inl a)
def jw.vals{a:List Int}(x:jw w n h ts vs fs)(hl:a.length=vs.length)(b:∀v∈a,0<=v/\v<=9):jw w n h ts a fs:=⟨by rw[x.lv,hl],b,x.lf,x.fr,x.hd,x.ch⟩
def jw.last(x:jw w n h ts vs fs):∃f,fs.getLast? =some f/\Gq w h f:=by
 have:=x.hd
 cases fs with
 |nil=>exact this.elim
 | cons a l=>
   refine⟨_,List.getLast?_eq_some_getLast (by simp),x.fr _ (List.getLast_mem (by simp))⟩
end
def j9{w:dD}{h:Nat}{f:cE}{pr:List Rw}(a:progOf w h f=some pr):(f.room= -1/\∃ts,w.af[h]?=some (ts,pr))\/∃(i j:Nat) (r:Rm) (d:Str),f.room=i/\f.deed=j/\w.ao[i]?=some r/\r.ae[j]?=some (d,pr):=by
 unfold progOf at a
 split at a
 ·rename_i c
  obtain⟨⟨ts,g⟩,e,b⟩:=oQm.mp a
  cases b
  exact .inl ⟨c,ts,e⟩
 ·split at a
  ·rename_i c
   obtain⟨r,e,b⟩:=av a
   obtain⟨⟨d,g⟩,k,l⟩:=oQm.mp b
   cases l
   exact .inr ⟨f.room.toNat,f.deed.toNat,r,d,by omega,by omega,e,k⟩
  ·cases a
def wG{w:dD}{h i j:Nat}{f:cE}{r:Rm}{b:Str}{pr:List Rw}(c:f.room=i)(a:f.deed=j)(d:w.ao[i]?=some r)(e:r.ae[j]?=some (b,pr)):progOf w h f=some pr:=by
 unfold progOf
 rw[Quq (by omega),Qhq ⟨by omega,by omega⟩,c,a]
 show(w.ao[i]?).bind _=_
 rw[d]
 show(r.ae[j]?).map _=_
 rw[e]
 rfl
def B5(w:dD)(h:Nat)(f:cE):Option Sc:=if f.room= -1 then(w.af[h]?).map λp=>⟨true,p.1.map (·.1)++w.aq.map (·.1),p.1.map (·.1)++w.aq.map (·.1),[],bP w.ao,w.ak.map (·.1)⟩
 else(w.ao[f.room.toNat]?).map λr=>⟨false,r.ar.map (·.1)++fL,r.ar.map (·.1),r.aa.map (·.1),bP w.ao,[]⟩
def wM{w:dD}{h:Nat}{f:cE}{pr:List Rw}(o:gF w)(e:progOf w h f=some pr):∃sc,B5 w h f=some sc/\ui sc pr:=by
 unfold B5
 rcases j9 e with⟨c,k,a⟩|⟨i,j,r,l,a,g,b,d⟩
 ·rw[Qhq c,a]
  exact⟨_,rfl,(o.hd _ (mQg a)).pr⟩
 ·rw[Quq (by omega),a]
  refine⟨_,by rw[show((i:Int)).toNat=i by omega,b];rfl,((o.rm _ (mQg b)).pr _ (mQg d)).1⟩
def Ey{w:dD}(o:gF w):cR w 1 (bL w) where
 lr:=by simp[bL]
 rm:=λi r n c d=>by
  simp only[bL,gQm,c,Option.map_some,Option.some.injEq] at d
  subst d
  have e:=o.rm r (mQg c)
  refine⟨by simp[c_,fh],by simp[c_],λv b=> ?_,by simp[c_],by simp[c_],λl hl=> ?_⟩
  ·simp only[c_,fh,Qkq] at b
   obtain⟨p,a,rfl⟩:=b
   have:=e.tv p a
   omega
  ·simp only[c_,Qkq] at hl
   obtain⟨p,a,rfl⟩:=hl
   simp
 lp:=by simp[bL]
 ps:=λp a=>by
  simp only[bL,Qkq] at a
  obtain⟨p,a,rfl⟩:=a
  simp
 ls:=by simp[bL,fh]
 sv:=λv b=>by
  simp only[bL,fh,Qkq] at b
  obtain⟨p,a,rfl⟩:=b
  have:=o.sv p a
  omega
 lh:=by simp[bL]
 hd:=λh q j m k c d=>by
  simp only[bL,gQm,c,Option.map_some,Option.some.injEq] at d
  cases d
  have e:=o.hd _ (mQg c)
  refine⟨by simp[fh],λv b=> ?_,by simp,λf g=> ?_,⟨rfl,λ_ z=>by cases z⟩,λf g=>by cases g⟩
  ·simp only[fh,Qkq] at b
   obtain⟨p,a,rfl⟩:=b
   have:=e.tv p a
   omega
  ·rw[Qfq.mp g]
   refine⟨⟨j,?_,by decide,?_⟩,by decide,by decide⟩
   ·unfold progOf
    rw[Qhq (show Gp.room= -1 from rfl),c]
    rfl
   ·show(0:Int)<=_
    omega
def u7(h:Int)(a b:List Int):Prop:=b=a\/b=a.drop 1\/b=a++ [h]\/b=a.drop 1++ [h]
def kj(h:Int)(a b:List (Int×Int)):Prop:=b=a\/b=a.drop 1\/b= []\/∃t,b=kB a t h
structure sP(m:Str)(h:Int)(r r':cT):Prop where
 rw:u7 h r.row r'.row
 lt:u7 h r.ag r'.ag
 lb:r.aa.length=r'.aa.length
 bl:∀(b:Nat) (l l':List (Int×Int)),r.aa[b]?=some l->r'.aa[b]?=some l'->kj h l l'
 w1:r.within≠h->r'.within≠r.within->r.within<0/\r'.within=h
 w2:r.within=h->r'.within≠h->((∀x∈r'.ag,x∈r.ag)/\(r.ag++r.row++ [-1])[0]?=some r'.within)\/(∃b p l,r.aa[b]?=some (p::l)/\r'.aa=r.aa.set b l/\r'.ag=r.ag++ [h]/\r'.within=p.2)
 gn:∀x∈r.row++r.ag,x∉r'.row++r'.ag->r'.within=x
section
variable{m:Str}{h:Nat}{r:cT}
def iy{l c:List (Int×Int)}{b:Nat}(d:r.aa[b]?=some l)(a:r.aa[b]?=some c):kj h l c:=by
 rw[d] at a
 cases a
 exact .inl rfl
def sP.refl:sP m h r r:=⟨.inl rfl,.inl rfl,rfl,λb l g d a=>iy d a,λ_ z=>absurd rfl z,λe z=>absurd e z,λx c f=>absurd c f⟩
def sP.come:sP m h r (g_ r h):=by
 unfold g_
 split
 ·rename_i c
  exact⟨.inl rfl,.inl rfl,rfl,λb l i f d=>iy f d,λ_ _=>⟨by omega,rfl⟩,λ_ z=>absurd rfl z,λx a g=>absurd a g⟩
 ·refine⟨.inr (.inr (.inl rfl)),.inl rfl,rfl,λb l i f d=>iy f d,λ_ z=>absurd rfl z,λe z=>absurd e z,λx a g=>absurd ?_ g⟩
  show x∈(r.row++ [(h:Int)])++r.ag
  rcases mQa.mp a with a|a
  ·exact mQa.mpr (.inl (mQa.mpr (.inl a)))
  ·exact mQa.mpr (.inr a)
def sP.leave{f:List (List (Int×Int))}(k:r.within=h)(g:r.aa.length=f.length)(j:∀(b:Nat) (l n:List (Int×Int)),r.aa[b]?=some l->f[b]?=some n->kj h l n):sP m h r (cu {r with aa:=f}):=by
 obtain⟨o,e,i,p,aa⟩:=r
 cases p with
 | cons a l=>
   refine⟨.inl rfl,.inr (.inl rfl),g,j,λz=>absurd k z,λ_ _=>.inl ⟨λx c=>Qpq _ c,rfl⟩,λx c d=> ?_⟩
   rcases mQa.mp c with c|c
   · exact absurd (mQa.mpr (.inl c)) d
   · rcases Qsq.mp c with rfl|c
     · rfl
     · exact absurd (mQa.mpr (.inr c)) d
 | nil=>
   cases i with
   | cons a l=>
     refine⟨.inr (.inl rfl),.inl rfl,g,j,λz=>absurd k z,λ_ _=>.inl ⟨λx c=>c,rfl⟩,λx c d=> ?_⟩
     rcases mQa.mp c with c|c
     · rcases Qsq.mp c with rfl|c
       · rfl
       · exact absurd (mQa.mpr (.inl c)) d
     · cases c
   |nil=>exact⟨.inl rfl,.inl rfl,g,j,λz=>absurd k z,λ_ _=>.inl ⟨λx c=>c,rfl⟩,λx c d=>by simp at c⟩
def uh{b:Nat}{nl:List (Int×Int)}(f:∀l,r.aa[b]?=some l->kj h l nl):∀(c:Nat) (l d:List (Int×Int)),r.aa[c]?=some l->(r.aa.set b nl)[c]?=some d->kj h l d:=λc l d e a=>by
 rcases get_set a with⟨rfl,rfl⟩|⟨_,a⟩
 ·exact f l e
 ·exact iy e a
def sP.line{b:Nat}{nl:List (Int×Int)}(c:∀l,r.aa[b]?=some l->kj h l nl):sP m h r {r with aa:=r.aa.set b nl}:=⟨.inl rfl,.inl rfl,by simp,uh c,λ_ z=>absurd rfl z,λe z=>absurd e z,λx a d=>absurd a d⟩
def FN{l:List (Int×Int)}{t:Int}(a:(h:Int)∉l.map (·.2)):kj h l (kB l t h):=.inr (.inr (.inr ⟨t,rfl⟩))
def sP.wait{b:Nat}{l:List (Int×Int)}{t:Int}(d:r.within=h)(hl:r.aa[b]?=some l)(c:(h:Int)∉aU r):sP m h r (cu {r with aa:=r.aa.set b (kB l t h)}):=by
 refine sP.leave d (by simp) (uh λe a=> ?_)
 rw[hl] at a
 cases a
 refine FN λz=>c ?_
 exact mQa.mpr (.inr (QOq.mpr ⟨l,mQg hl,z⟩))
def sP.call{b:Nat}{fr:Bool}(j:r.within=h)(k:fr=false->m="at once"):sP m h r (pZ fr r b h):=by
 unfold pZ
 split
 ·rename_i p l e
  have g:∀f,r.aa[b]?=some f->kj (h:Int) f l:=λf a=>by
   rw[e] at a
   cases a
   exact .inr (.inl rfl)
  split
  ·exact sP.line g
  ·rename_i c
   refine⟨.inl rfl,.inr (.inr (.inl rfl)),by simp,uh g,λz=>absurd j z,λ_ _=>.inr ⟨b,p,l,e,rfl,rfl,rfl⟩,λx d i=>absurd ?_ i⟩
   show x∈r.row++(r.ag++ [(h:Int)])
   rcases mQa.mp d with d|d
   ·exact mQa.mpr (.inl d)
   ·exact mQa.mpr (.inr (mQa.mpr (.inl d)))
 ·exact sP.refl
end
structure Rl(w:dD)(s:bB)(h:Nat)(s':bB):Prop where
 rm:∀(i:Nat) (r:cT) (rm:Rm),s.ao[i]?=some r->w.ao[i]?=some rm->∃r',s'.ao[i]?=some r'/\sP rm.ah h r r'
 ps:∀(i:Nat) (p:Int×List Int),s.ak[i]?=some p->∃p',s'.ak[i]?=some p'/\u7 h p.2 p'.2
 hd:∀g:Nat,g≠h->s'.af[g]?=s.af[g]?
structure LH(s:bB)(h:Nat)(s':bB):Prop where
 rm:∀(i:Nat) (r:cT),s.ao[i]?=some r->∃us,s'.ao[i]?=some {r with vals:=us}
 ps:s'.ak=s.ak
 hd:∀g:Nat,g≠h->s'.af[g]?=s.af[g]?
section
variable{w:dD}{s s' s2:bB}{h:Nat}
def Rl.refl:Rl w s h s:=⟨λi r b a _=>⟨r,a,.refl⟩,λi p a=>⟨p,a,.inl rfl⟩,λ_ _=>rfl⟩
def Rl.hand{p:List Int×List cE}(x:Rl w s h s'):Rl w s h {s' with af:=s'.af.set h p}:=⟨x.rm,x.ps,λg a=>by
 show(s'.af.set h p)[g]?=_
 rw[QKq (Ne.symm a)]
 exact x.hd g a⟩
def Rl.from{p:List Int×List cE}(x:Rl w {s with af:=s.af.set h p} h s'):Rl w s h s':=⟨x.rm,x.ps,λg a=>by
 rw[x.hd g a]
 show(s.af.set h p)[g]?=_
 rw[QKq (Ne.symm a)]⟩
def Rl.mild(x:Rl w s h s')(y:LH s' h s2):Rl w s h s2:=by
 refine⟨λi r f a d=> ?_,λi p a=> ?_,λg b=>(y.hd g b).trans (x.hd g b)⟩
 ·obtain⟨c,e,z⟩:=x.rm i r f a d
  obtain⟨k,j⟩:=y.rm i c e
  exact⟨_,j,z.rw,z.lt,z.lb,z.bl,z.w1,z.w2,z.gn⟩
 ·rw[y.ps]
  exact x.ps i p a
def Rl.room{i:Nat}{r nr:cT}(b:s.ao[i]?=some r)(e:∀rm,w.ao[i]?=some rm->sP rm.ah h r nr):Rl w s h {s with ao:=s.ao.set i nr}:=by
 refine⟨λj f rm a d=> ?_,λj p a=>⟨p,a,.inl rfl⟩,λ_ _=>rfl⟩
 by_cases c:j=i
 ·subst c
  rw[b] at a
  cases a
  exact⟨nr,Qyq (gQs.mp b).1,e rm d⟩
 ·exact⟨f,by show(s.ao.set i nr)[j]?=_;rw[QKq (Ne.symm c)];exact a,.refl⟩
def AS{p:Int×List Int}:(dM p).2=p.2.drop 1:=by
 obtain⟨v,l⟩:=p
 cases l <;>rfl
def zm{p:Int×List Int}:(eG p h).2=p.2\/(eG p h).2=p.2++ [(h:Int)]:=by
 unfold eG
 split
 ·exact .inl rfl
 ·exact .inr rfl
def Hy{p:Int×List Int}:u7 h p.2 (eG p h).2:=by
 rcases zm (h:=h) (p:=p) with z|z
 ·exact .inl z
 ·exact .inr (.inr (.inl z))
def Rl.pass{i:Nat}{p np:Int×List Int}(b:s.ak[i]?=some p)(d:u7 h p.2 np.2):Rl w s h {s with ak:=s.ak.set i np}:=by
 refine⟨λi r e a _=>⟨r,a,.refl⟩,λj q a=> ?_,λ_ _=>rfl⟩
 by_cases c:j=i
 ·subst c
  rw[b] at a
  cases a
  exact⟨np,Qyq (gQs.mp b).1,d⟩
 ·exact⟨q,by show(s.ak.set i np)[j]?=_;rw[QKq (Ne.symm c)];exact a,.inl rfl⟩
def Rl.two{i j:Nat}{p l:Int×List Int}(m:s.ak[i]?=some p)(d:(s.ak.set i (dM p))[j]?=some l):Rl w s h {s with ak:=(s.ak.set i (dM p)).set j (eG l h)}:=by
 refine⟨λi r n f _=>⟨r,f,.refl⟩,λk q f=> ?_,λ_ _=>rfl⟩
 have b:∃e,(s.ak.set i (dM p))[k]?=some e/\(e.2=q.2\/e.2=q.2.drop 1):=by
  by_cases c:k=i
  ·subst c
   rw[m] at f
   cases f
   exact⟨_,Qyq (gQs.mp m).1,.inr AS⟩
  ·exact⟨q,by rw[QKq (Ne.symm c)];exact f,.inl rfl⟩
 obtain⟨e,g,a⟩:=b
 by_cases c:k=j
 ·subst c
  have d:=QdQ (g.symm.trans d)
  subst d
  refine⟨_,Qyq (gQs.mp g).1,?_⟩
  rcases zm (h:=h) (p:=e) with z|z <;>rw[z] <;>rcases a with a|a <;>rw[a]
  ·exact .inl rfl
  ·exact .inr (.inl rfl)
  ·exact .inr (.inr (.inl rfl))
  ·exact .inr (.inr (.inr rfl))
 ·refine⟨e,by show((s.ak.set i (dM p)).set j _)[k]?=_;rw[QKq (Ne.symm c)];exact g,?_⟩
  rcases a with a|a <;>rw[a]
  ·exact .inl rfl
  ·exact .inr (.inl rfl)
end
section
variable{w:dD}{n h:Nat}{s:bB}{vs:List Int}{fs:List cE}{f:cE}{sc:Sc}
def cR.whand(x:cR w n s)(a:s.af[h]?=some (vs,fs)):∃ts pr,w.af[h]?=some (ts,pr)/\jw w n h ts vs fs:=by
 have hl:h<w.af.length:=by rw[x.lh];exact(gQs.mp a).1
 exact⟨_,_,gQe hl,x.hd h _ _ vs fs (gQe hl) a⟩
def cR.wroom{i:Nat}{r:Rm}(x:cR w n s)(a:w.ao[i]?=some r):∃rs,s.ao[i]?=some rs/\jS n r rs:=by
 have hl:i<s.ao.length:=by rw[←x.lr];exact(gQs.mp a).1
 exact⟨_,gQe hl,x.rm i r _ a (gQe hl)⟩
def fK{t:Sc}(a:B5 w h f=some t):(f.room= -1/\∃ts pr,w.af[h]?=some (ts,pr)/\t=⟨true,ts.map (·.1)++w.aq.map (·.1),ts.map (·.1)++w.aq.map (·.1),[],bP w.ao,w.ak.map (·.1)⟩)∨
  (f.room≠-1/\∃r,w.ao[f.room.toNat]?=some r/\t=⟨false,r.ar.map (·.1)++fL,r.ar.map (·.1),r.aa.map (·.1),bP w.ao,[]⟩):=by
 unfold B5 at a
 split at a
 ·rename_i c
  obtain⟨⟨ts,pr⟩,d,b⟩:=oQm.mp a
  exact .inl ⟨c,ts,pr,d,b.symm⟩
 ·rename_i c
  obtain⟨r,d,b⟩:=oQm.mp a
  exact .inr ⟨c,r,d,b.symm⟩
def ik(x:Gq w h f)(c:f.room≠-1):f.room=(f.room.toNat:Int):=by
 obtain⟨d,b,_⟩:=x.pr
 rcases j9 b with⟨a,_⟩|⟨i,_,_,_,e,_⟩
 ·exact absurd a c
 ·omega
def eZ{t:Tr}(o:gF w)(x:cR w n s)(p:s.af[h]?=some (vs,fs))(l:fs.getLast? =some f)(m:B5 w h f=some sc)(ht:FG sc t):∃v,(0<=v/\v<=9)/\BK w s h t v:=by
 obtain⟨A,I,z,g⟩:=x.whand p
 have C:=o.hd _ (mQg z)
 have j:=g.fr f (QcQ l)
 have J:=o.l3
 have H:=C.l1
 have B:=x.ls
 rcases fK m with⟨c,F,G,i,rfl⟩|⟨c,r,hr,rfl⟩
 ·rw[z] at i
  cases i
  have a:lD (D3 w s A vs):=lD.merge (ig x.sv) (ig g.vv)
  refine⟨A9 (numAt (D3 w s A vs)) (λ_=>0) t,?_,λS Q q=>yi z p l c B g.lv (by omega) (by dsimp only at H;omega) x.sv g.vv ht.1 (by have:=ht.2;omega) q⟩
  refine mv (ws:=A.map (·.1)++w.aq.map (·.1)) (bs:= []) (λy b=> ?_) ht.1
  refine(pe a (gR ?_)).2
  rcases mQa.mp b with b|b
  ·exact .inr (iu g.lv b)
  ·exact .inl (iu B b)
 ·obtain⟨u,k,e⟩:=x.wroom hr
  have d:=o.rm r (mQg hr)
  have K:=d.l1
  have L:=d.l2
  have a:lD (wL r u f.given):=(ig e.vv).put j.gv.1 j.gv.2
  refine⟨A9 (numAt (wL r u f.given)) (zK r u) t,?_,λS Q q=>vU p l (ik j c) hr k e.lv e.lb (by omega) (by omega) e.vv j.gv ht.1 (by have:=ht.2;omega) q⟩
  refine mv (ws:=r.ar.map (·.1)++fL) (bs:=r.aa.map (·.1)) (λy b=> ?_) ht.1
  refine(pe a (mD ?_)).2
  rcases mQa.mp b with b|b
  ·exact .inr (iu e.lv b)
  ·left
   rw[Qfq.mp b]
def gk{ns:List Str}{y:Str}{v:Int}{a:List Int}(d:∀v∈a,0<=v/\v<=9)(c:0<=v/\v<=9):(fe ns a y v).length=a.length/\∀u∈fe ns a y v,0<=u/\u<=9:=by
 unfold fe
 refine⟨by simp,λz b=> ?_⟩
 rcases QTq b with b|rfl
 ·exact d z b
 ·exact c
def EG{i j:Nat}{rs d:cT}{g:List Int}(a:s.ao[i]?=some rs)(e:s.ao[j]?=some d):∃b,(s.ao.set i {rs with vals:=g})[j]?=some {d with vals:=b}:=by
 by_cases c:j=i
 ·subst c
  rw[a] at e
  cases e
  exact⟨g,Qyq (gQs.mp a).1⟩
 ·exact⟨d.vals,by rw[QKq (Ne.symm c)];exact e⟩
def CA{y:Str}{v:Int}(o:gF w)(x:cR w n s)(B:s.af[h]?=some (vs,fs))(t:fs.getLast? =some f)(A:B5 w h f=some sc)(F:y∈sc.ps)(C:0<=v/\v<=9):∃z,Puts w s h y v z/\cR w n z/\LH s h z:=by
 obtain⟨G,R,p,m⟩:=x.whand B
 have H:=o.hd _ (mQg p)
 have I:=m.fr f (QcQ t)
 have U:=o.l1
 have Y:=o.l3
 have L:=H.l1
 have b7:=o.l4
 have P:=x.lr
 have W:=x.lh
 rcases fK A with⟨c,J,K,l,rfl⟩|⟨c,r,a,rfl⟩
 ·rw[p] at l
  cases l
  refine⟨qf w s h G vs fs y v,λS Q q=>CO p B t c x.ls m.lv (by omega) (by dsimp only at L;omega) (by omega) F q,?_⟩
  unfold qf
  split
  ·obtain⟨k,e⟩:=gk (ns:=w.aq.map (·.1)) (y:=y) x.sv C
   exact⟨x.share k e,λi r a=>⟨r.vals,a⟩,rfl,λ_ _=>rfl⟩
  ·obtain⟨k,e⟩:=gk (ns:=G.map (·.1)) (y:=y) m.vv C
   exact⟨x.hand p (m.vals k e),λi r a=>⟨r.vals,a⟩,rfl,λg M=>QKq (Ne.symm M)⟩
 ·obtain⟨X,d,b⟩:=x.wroom a
  have u:=o.rm r (mQg a)
  have Z:=u.l1
  refine⟨_,λS Q q=>Ar B t (ik I c) a d b.lv (by omega) (by omega) F q,?_⟩
  obtain⟨k,e⟩:=gk (ns:=r.ar.map (·.1)) (y:=y) b.vv C
  refine⟨x.room a ⟨by rw[b.lv,←k],b.lb,e,b.br,b.bl,b.bb⟩,λj r' N=> ?_,rfl,λ_ _=>rfl⟩
  exact EG d N
def cR.goes{m:Int}{pr:List Rw}(x:cR w n s)(k:s.af[h]?=some (vs,fs))(c:fs.getLast? =some f)(j:progOf w h f=some pr)(d:0<=m)(g:m<=pr.length):cR w n {s with af:=s.af.set h (vs,fs.dropLast++ [{f with row:=m}])}:=by
 obtain⟨l,e,i,a⟩:=x.whand k
 have b:=a.fr f (QcQ c)
 exact x.hand i (a.setLast c rfl ⟨⟨pr,j,d,g⟩,b.gv,b.tv⟩)
def cR.tells{v:Int}(x:cR w n s)(g:s.af[h]?=some (vs,fs))(c:fs.getLast? =some f)(e:0<=v/\v<=9):cR w n {s with af:=s.af.set h (vs,fs.dropLast++ [{f with told:=v}])}:=by
 obtain⟨j,d,i,b⟩:=x.whand g
 have a:=b.fr f (QcQ c)
 exact x.hand i (b.setLast c rfl ⟨a.pr,a.gv,e⟩)
def jS.come{r:Rm}{rs:cT}{k:Int}(x:jS n r rs):jS (n+1) r (g_ rs k):=by
 unfold g_
 have:=x.br
 split
 ·exact⟨x.lv,x.lb,x.vv,by show rs.row.length<=_;omega,Nat.le_succ_of_le x.bl,λl hl=>Nat.le_succ_of_le (x.bb l hl)⟩
 ·exact⟨x.lv,x.lb,x.vv,by simp;omega,Nat.le_succ_of_le x.bl,λl hl=>Nat.le_succ_of_le (x.bb l hl)⟩
def jS.leave{r:Rm}{rs:cT}(x:jS n r rs):jS n r (cu rs):=by
 obtain⟨g,b,c,i,j⟩:=rs
 have e:=x.br
 have d:=x.bl
 unfold cu
 dsimp only at e d⊢
 cases i with
 |cons a l=>exact⟨x.lv,x.lb,x.vv,x.br,by simp at d;show l.length<=n;omega,x.bb⟩
 | nil=>
   cases c with
   |cons a l=>exact⟨x.lv,x.lb,x.vv,by simp at e;show l.length<=n;omega,x.bl,x.bb⟩
   |nil=>exact⟨x.lv,x.lb,x.vv,x.br,x.bl,x.bb⟩
def jS.line{r:Rm}{rs:cT}{b:Nat}{l:List (Int×Int)}(x:jS n r rs)(hl:l.length<=n):jS n r {rs with aa:=rs.aa.set b l}:=⟨x.lv,by simp;exact x.lb,x.vv,x.br,x.bl,λk a=>by
 rcases QTq a with a|rfl
 ·exact x.bb k a
 ·exact hl⟩
def jS.call{r:Rm}{rs:cT}{b:Nat}{k:Int}{fr:Bool}(x:jS n r rs):jS (n+1) r (pZ fr rs b k):=by
 unfold pZ
 split
 ·rename_i p l e
  have hl:=x.bb _ (mQg e)
  have y:=(x.mono (Nat.le_succ n)).line (b:=b) (l:=l) (by simp at hl;omega)
  have z:=x.bl
  split
  ·exact y
  ·exact⟨y.lv,y.lb,y.vv,y.br,by simp;omega,y.bb⟩
 ·exact x.mono (Nat.le_succ n)
def AX{l:List (Int×Int)}{a b:Int}:(kB l a b).length=l.length+1:=by
 unfold kB
 have:=List.length_filter_le (λp:Int×Int=>decide (p.1<=a)) l
 simp only[lQa,Qxq,List.length_drop,Qnq,QGq]
 omega
def CZ{a d:Str}(o:gF w)(j:(a,d)∈bP w.ao):a∈w.ao.map (·.name)/\∃r,w.ao[eW (w.ao.map (·.name)) a]?=some r/\d∈r.ae.map (·.1):=by
 unfold bP at j
 obtain⟨r,c,l⟩:=QOq.mp j
 obtain⟨p,m,e⟩:=Qkq.mp l
 cases e
 have b:r.name∈w.ao.map (·.name):=Qkq.mpr ⟨r,c,rfl⟩
 refine⟨b,r,?_,Qkq.mpr ⟨p,m,rfl⟩⟩
 obtain⟨t,k⟩:=g9 b
 obtain⟨i,g,e⟩:=QbQ c
 have q:(w.ao.map (·.name))[i]?=some r.name:=by rw[gQm,gQe g,e];rfl
 rw[lT o.nd k q,gQe g,e]
def Hv{i:Nat}{rs:cT}{y:Int}(a:s.ao[i]?=some rs)(b:y∈aU rs):y∈held s:=mQa.mpr (.inr (QOq.mpr ⟨rs,mQg a,b⟩))
def Dl{r:Rw}{pr:List Rw}(o:gF w)(x:cR w n s)(hn:n<=100)(G:s.af[h]?=some (vs,fs))(C:fs.getLast? =some f)(W:progOf w h f=some pr)(h1:1<=f.row)(R:pr[(f.row-1).toNat]?=some r)(Z:(h:Int)∉held s)(a5:∀(i:Nat) (rs:cT),f.room=i->s.ao[i]?=some rs->rs.within=h):∃s',HX w s h r s'/\cR w (n+1) s'/\Rl w s h s':=by
 obtain⟨sc,A,c2⟩:=wM o W
 have b:=c2 r (mQg R)
 obtain⟨ts,U,hw,hi⟩:=x.whand G
 have fi:=hi.fr f (QcQ C)
 have b1:=o.l1
 have b2:=o.l2
 have b3:=o.l3
 have b4:=o.l4
 have lr:=x.lr
 have lp:=x.lp
 have lh:=x.lh
 have lf:=hi.lf
 have P:=x.mono (Nat.le_succ n)
 have B:sc.own=false->∃(i:Nat) (r:Rm) (rs:cT),f.room=i/\w.ao[i]?=some r/\s.ao[i]?=some rs/\jS n r rs/\xJ (bP w.ao) r/\sc.bs=r.aa.map (·.1):=λho=>by
  rcases fK A with⟨c,a4,U,a6,rfl⟩|⟨c,r,I,rfl⟩
  ·cases ho
  ·obtain⟨rs,d,J⟩:=x.wroom I
   exact⟨_,r,rs,ik fi c,I,d,J,o.rm r (mQg I),rfl⟩
 have H:sc.own=true->sc.ts=w.ak.map (·.1):=λho=>by
  rcases fK A with⟨c,a4,U,a6,rfl⟩|⟨c,r,I,rfl⟩
  ·rfl
  ·cases ho
 have k:∀y,y∈w.ak.map (·.1)->∀ps:List (Int×List Int),w.ak.length=ps.length->∃p,ps[eW (w.ak.map (·.1)) y]?=some p:=λy u ps hl=>by
  have:=(g9 u).1
  rw[lQm] at this
  exact⟨_,gQe (by omega)⟩
 have N:∀p:Int×List Int,p.2.length<=n->(eG p h).2.length<=n+1:=λp W=>by
  unfold eG
  split
  ·show p.2.length<=_;omega
  ·simp;omega
 have M:∀p:Int×List Int,p.2.length<=n->(dM p).2.length<=n:=λp W=>by
  obtain⟨v,l⟩:=p
  unfold dM
  cases l with
  |nil=>simp
  |cons a l=>simp at W;show l.length<=n;omega
 cases r with
 | put y t=>
   obtain⟨v,X,I⟩:=eZ o x G C A b.2
   obtain⟨s',j,c1,b8⟩:=CA o x G C A b.1 X
   exact⟨s',λS Q q=>wU I j q,c1.mono (Nat.le_succ n),Rl.refl.mild b8⟩
 | unl t m=>
   obtain⟨v,X,I⟩:=eZ o x G C A b.1
   refine⟨_,λS Q q=>pH I G C (by omega) (by omega) q,?_⟩
   split
   · exact⟨P.goes G C W (by omega) (by have:=b.2;omega),Rl.refl.hand⟩
   · exact⟨P,.refl⟩
 |go m=>exact⟨_,λS Q q=>zC G C (by omega) (by omega) q,P.goes G C W (by omega) (by have:m<=pr.length:=b;omega),Rl.refl.hand⟩
 | do_ g rn dn t=>
   obtain⟨v,X,I⟩:=eZ o x G C A b.2.2
   have c0:sc.gs=bP w.ao:=by
     rcases fK A with⟨c,a4,U,a6,rfl⟩|⟨c,r,I,rfl⟩ <;>rfl
   have a0:=b.2.1
   rw[c0] at a0
   obtain⟨c3,r,e,a1⟩:=CZ o a0
   obtain⟨rs,d,J⟩:=x.wroom e
   have F:=o.rm r (mQg e)
   have b5:=F.l3
   have b6:=J.br
   refine⟨_,λS Q q=>zp I G c3 e d a1 (by omega) (by omega) (by omega) (by omega) (by omega) (by omega) q,?_⟩
   have c5:=g9 a1
   have a2:=c5.1
   rw[lQm] at a2
   obtain⟨⟨c6,b0⟩,c4⟩:∃p,r.ae[eW (r.ae.map (·.1)) dn]?=some p:=⟨_,gQe a2⟩
   have pf:progOf w h ⟨(eW (w.ao.map (·.name)) rn:Nat),(eW (r.ae.map (·.1)) dn:Nat),0,v,0⟩=some b0:=wG rfl rfl e c4
   have hh:=hi.push (f':=⟨(eW (w.ao.map (·.name)) rn:Nat),(eW (r.ae.map (·.1)) dn:Nat),0,v,0⟩) C ⟨pr,g,rn,dn,t,W,h1,R⟩ (by show((eW (w.ao.map (·.name)) rn:Nat):Int)≠-1;omega) ⟨⟨b0,pf,by show(0:Int)<=0;omega,by show(0:Int)<=_;omega⟩,X,by show(0:Int)<=0/\(0:Int)<=9;omega⟩
   exact⟨(P.hand hw hh).room e J.come,Rl.hand (Rl.room d λrm _=>sP.come)⟩
 | wait y t=>
   obtain⟨i,r,rs,K,e,d,J,F,L⟩:=B b.1
   obtain⟨v,X,I⟩:=eZ o x G C A b.2.2
   have u:=b.2.1
   rw[L] at u
   have b6:=F.l2
   have lb:=J.lb
   obtain⟨k1,k2⟩:=g9 u
   rw[lQm] at k1
   rw[gQm] at k2
   obtain⟨⟨y',so⟩,k3,k4⟩:=oQm.mp k2
   have k4:y'=y:=k4
   subst k4
   obtain⟨a7,hl⟩:∃l,rs.aa[eW (r.aa.map (·.1)) y']?=some l:=⟨_,gQe (by omega)⟩
   have ll:=J.bb a7 (mQg hl)
   refine⟨_,λS Q q=>vo G C K e d (by omega) lb (by omega) u k3 hl (by omega) I q,?_⟩
   exact⟨P.room e (((J.mono (Nat.le_succ n)).line (by rw[AX];omega)).leave),Rl.room d λrm _=>sP.wait (a5 i rs K d) hl λz=>Z (Hv d z)⟩
 | call y=>
   obtain⟨i,r,rs,K,e,d,J,F,L⟩:=B b.1
   have u:=b.2
   rw[L] at u
   have b6:=F.l2
   have b7:=J.bl
   refine⟨_,λS Q q=>t5 G C K e d (by omega) J.lb (by omega) (by omega) u q,?_⟩
   refine⟨P.room e J.call,Rl.room d λrm a3=>sP.call (a5 i rs K d) λz=> ?_⟩
   rw[e] at a3
   cases a3
   exact F.mn.resolve_right (QaQ z)
 | all y=>
   obtain⟨i,r,rs,K,e,d,J,F,L⟩:=B b.1
   have u:=b.2
   rw[L] at u
   have b6:=F.l2
   refine⟨_,λS Q q=>wN G C K e d (by omega) J.lb (by omega) u q,?_⟩
   exact⟨P.room e ((J.mono (Nat.le_succ n)).line (by simp)),Rl.room d λrm _=>sP.line λl _=>.inr (.inr (.inl rfl))⟩
 | tell t=>
   obtain⟨v,X,I⟩:=eZ o x G C A b.2
   exact⟨_,λS Q q=>ub I G C (by omega) (by omega) q,P.tells G C X,Rl.refl.hand⟩
 | take y=>
   have u:=b.2
   rw[H b.1] at u
   obtain⟨p,j⟩:=k y u s.ak lp
   have pl:=x.ps p (mQg j)
   exact⟨_,λS Q q=>uB u j (by omega) (by omega) (by omega) q,P.pass (N p pl),Rl.pass j Hy⟩
 | give y=>
   have u:=b.2
   rw[H b.1] at u
   obtain⟨p,j⟩:=k y u s.ak lp
   have pl:=x.ps p (mQg j)
   exact⟨_,λS Q q=>t6 u j (by omega) (by omega) q,P.pass (Nat.le_succ_of_le (M p pl)),Rl.pass j (by rw[AS];exact .inr (.inl rfl))⟩
 | pass y z=>
   have u:=b.2.1
   have hz:=b.2.2
   rw[H b.1] at u hz
   obtain⟨p,j⟩:=k y u s.ak lp
   have pl:=x.ps p (mQg j)
   have x2:cR w n _:=x.pass (i:=eW (w.ak.map (·.1)) y) (M p pl)
   obtain⟨p2,Y⟩:=k z hz (s.ak.set (eW (w.ak.map (·.1)) y) (dM p)) (by simpa using lp)
   have b9:=x2.ps p2 (mQg Y)
   refine⟨_,λS Q q=>uZ u hz j (by omega) (by omega) (by omega) Y q,(x2.mono (Nat.le_succ n)).pass (N p2 b9),Rl.two j Y⟩
 |say t=>exact⟨s,λS Q q=>w_ (sd:=.non) q,P,.refl⟩
end
section
variable{w:dD}{n h:Nat}{s:bB}{vs:List Int}{fs:List cE}{f:cE}{sc:Sc}
def cR.mays(o:gF w)(x:cR w n s)(t:n<=100):Jz w s:=by
 have z:=o.l1
 have G:=o.l2
 have B:=o.l4
 have v:=x.lr
 have C:=x.lp
 have A:=x.lh
 refine Ai (λS Q q=>qi t (by omega) (by omega) x.ps (λk g=> ?_) q) (λh u=> ?_) (by omega)
 ·obtain⟨i,d,e⟩:=QbQ g
  have b:s.ao[i]?=some k:=by rw[gQe d,e]
  have j:w.ao[i]?=some (w.ao[i]'(by omega)):=gQe (by omega)
  have a:=x.rm i _ k j b
  have:=(o.rm _ (mQg j)).l2
  have:=a.lb
  exact⟨a.br,a.bl,by omega,a.bb⟩
 ·obtain⟨⟨vs,fs⟩,b⟩:∃p,s.af[h]?=some p:=⟨_,gQe u⟩
  obtain⟨F,y,j,d⟩:=x.whand b
  obtain⟨f,m,l⟩:=d.last
  obtain⟨c,r,_⟩:=l.pr
  exact⟨vs,fs,f,c,b,m,r⟩
def Rw.isSay:Rw->Bool
 |.say _=>true
 |_=>false
def wO(w:dD)(h:Nat)(f:cE):Bool:=decide (f.room<0)&&match (w.af[h]?).bind λp=>p.2[f.row.toNat]? with
 |some r=>r.isSay
 |none=>false
def Hz(o:gF w)(x:cR w n s)(hn:n<=100)(hm:h∈oM w s)(p:s.af[h]?=some (vs,fs))(G:fs.getLast? =some f):∃I e,pM w s h I e/\cR w (n+1) I/\Rl w s h I/\e.isSome=wO w h f/\∀v,e=some v->0<=v/\v<=9:=by
 obtain⟨ts,a5,hw,hi⟩:=x.whand p
 have fi:=hi.fr f (QcQ G)
 obtain⟨pr,A,a0,b2⟩:=fi.pr
 have b1:=o.l1
 have b4:=o.l4
 have lr:=x.lr
 have lh:=x.lh
 have lf:=hi.lf
 have K:(h:Int)∉held s:=λz=>by
  have:=(List.mem_filter.mp hm).2
  rw[QCq,Qeq z] at this
  cases this.1
 have nb:¬(f.room= -1/\f.row=pr.length):=by
  rintro⟨c1,c2⟩
  have:=(List.mem_filter.mp hm).2
  rw[QCq] at this
  have hb:vD w s h=true:=by
   unfold vD CC
   rw[p]
   show(match fs.getLast? with|some f=>_|none=>_)=_
   rw[G]
   simp only[A,Option.getD_some,c1,c2,decide_true,Bool.and_true]
  rw[hb] at this
  exact absurd this.2 (by decide)
 by_cases c:f.room= -1
 ·
  have M:pr=a5:=by
   unfold progOf at A
   rw[Qhq c,hw] at A
   cases A;rfl
  subst M
  have R:f.row.toNat<pr.length:=by
   have:f.row≠pr.length:=λz=>nb ⟨c,z⟩
   omega
  have a:pr[f.row.toNat]?=some (pr[f.row.toNat]):=gQe R
  generalize pr[f.row.toNat]=r at a
  obtain⟨sc,P,N⟩:=wM o A
  have H:=N r (mQg a)
  have B:wO w h f=r.isSay:=by
   unfold wO
   rw[hw]
   show(decide (f.room<0)&&match pr[f.row.toNat]? with|some r=>r.isSay|none=>false)=_
   rw[a,Qeq (by omega)]
   rfl
  have a1:∃e,FK w s h r e/\e.isSome=wO w h f/\∀v,e=some v->0<=v/\v<=9:=by
   rw[B]
   cases r with
   | say t=>
     obtain⟨v,J,hr⟩:=eZ o x p G P H.2
     exact⟨some v,⟨v,rfl,hr⟩,rfl,λu hu=>by cases hu;exact J⟩
   |_=>exact⟨none,rfl,rfl,λu hu=>by cases hu⟩
  obtain⟨e,he,U,h2⟩:=a1
  have X:=x.goes p G A (m:=f.row+1) (by omega) (by omega)
  have hl:h<s.af.length:=(gQs.mp p).1
  obtain⟨I,W,F,L⟩:=Dl (f:={f with row:=f.row+1}) (r:=r) (pr:=pr) o X hn (Qyq hl) (by simp) A (by show 1<=f.row+1;omega) (by show pr[(f.row+1-1).toNat]?=_;rw[show f.row+1-1=f.row by omega];exact a) K (λi rs e=>by have e:f.room=i:=e;omega)
  exact⟨I,e,uu p G (.inl c) A a0 a (by omega) (by omega) he W,F,Rl.from L,U,h2⟩
 ·
  have B:wO w h f=false:=by
   unfold wO
   have:=ik fi c
   rw[Qdq (by omega)]
   rfl
  rcases j9 A with⟨c',_⟩|⟨i,j,r,dn,U,h2,h3,h4⟩
  ·exact absurd c' c
  obtain⟨rs,d,ri⟩:=x.wroom h3
  have br:=ri.br
  by_cases Z:rs.within=h
  ·have C:Here s h f:=.inr ⟨i,rs,U,d,Z⟩
   by_cases ce:f.row=pr.length
   ·
    have Y:=fY G
    have W:=hi.hd
    rw[Y] at W
    obtain⟨gs,f2,hg⟩:=W.two c
    have a7:fs=gs++ [f2,f]:=by rw[Y,hg];simp
    subst a7
    obtain⟨a6,a4⟩:=hi.pop
    obtain⟨b3,g,rn,b0,t,p1,p2,p3⟩:=a4
    have X:cR w n {s with ao:=s.ao.set i (cu rs),af:=s.af.set h (vs,gs++ [f2])}:=(x.hand hw a6).room h3 ri.leave
    obtain⟨sc,P,N⟩:=wM o p1
    have H:=N _ (mQg p3)
    have hl:h<s.af.length:=(gQs.mp p).1
    cases g with
    | none=>
      refine⟨_,none,pY p G C A ce λS Q q=>i_ p U d (by omega) (by omega) p1 p2 p3 (λ_ e=>e.symm) q,X.mono (Nat.le_succ n),Rl.hand (Rl.room d λrm _=>sP.leave Z rfl λb l l' k1 k2=>iy k1 k2),by rw[B];rfl,λv J=>by cases J⟩
    | some y=>
      obtain⟨I,M,F,a3⟩:=CA (y:=y) (v:=f.told) o X (Qyq hl) (by simp) P (H.1 y rfl) fi.tv
      refine⟨I,none,pY p G C A ce λS Q q=>i_ p U d (by omega) (by omega) p1 p2 p3 (λ_ e=>by rw[e];exact M) q,F.mono (Nat.le_succ n),Rl.mild (Rl.hand (Rl.room d λrm _=>sP.leave Z rfl λb l l' k1 k2=>iy k1 k2)) a3,by rw[B];rfl,λv J=>by cases J⟩
   ·
    have R:f.row.toNat<pr.length:=by omega
    have a:pr[f.row.toNat]?=some (pr[f.row.toNat]):=gQe R
    generalize pr[f.row.toNat]=r' at a
    have H:=((o.rm _ (mQg h3)).pr _ (mQg h4)).1 r' (mQg a)
    have he:FK w s h r' none:=by
     cases r' with
     |say t=>exact absurd H.1 (show¬(false=true) by decide)
     |_=>rfl
    have X:=x.goes p G A (m:=f.row+1) (by omega) (by omega)
    have hl:h<s.af.length:=(gQs.mp p).1
    obtain⟨I,W,F,L⟩:=Dl (f:={f with row:=f.row+1}) (r:=r') (pr:=pr) o X hn (Qyq hl) (by simp) A (by show 1<=f.row+1;omega) (by show pr[(f.row+1-1).toNat]?=_;rw[show f.row+1-1=f.row by omega];exact a) K (λi' a2 e k=>by
     have e:f.room=i':=e
     have:i'=i:=by omega
     subst this
     rw[show s.ao[i']?=some a2 from k] at d
     cases d
     exact Z)
    exact⟨I,none,uu p G C A a0 a (by omega) (by omega) he W,F,Rl.from L,by rw[B];rfl,λv J=>by cases J⟩
  ·
   exact⟨_,none,wg p G U d Z (by omega) (by omega),(x.mono (Nat.le_succ n)).room h3 ri.come,Rl.room d λrm _=>sP.come,by rw[B];rfl,λv J=>by cases J⟩
end
theorem jP{α c:Type}{f:α->List c}:∀{l:List α} {i:Nat} {a:α},l[i]?=some a->(l.flatMap f).Perm (f a++(l.eraseIdx i).flatMap f)
 | [],_,_,h=>by simp at h
 | x::l,0,a,h=>by
   simp at h
   subst h
   exact List.Perm.refl _
 | x::l,i+1,a,h=>by
   have b:=jP (f:=f) (l:=l) (i:=i) (by simpa using h)
   rw[QSq,List.eraseIdx_cons_succ,QSq]
   exact(List.Perm.append_left (f x) b).trans (by
     rw[←Qvq,←Qvq]
     exact QJq _ List.perm_append_comm)
theorem wH{α:Type}{b:α}:∀{l:List α} {i:Nat},(l.set i b).eraseIdx i=l.eraseIdx i
 | [],_=>rfl
 |_::_,0=>rfl
 | x::l,i+1=>by
   simp only[List.set_cons_succ,List.eraseIdx_cons_succ]
   rw[wH]
def jm{α c:Type}{f:α->List c}{l:List α}{i:Nat}{a b:α}(h:l[i]?=some a):((l.set i b).flatMap f).Perm (f b++(l.eraseIdx i).flatMap f):=by
 have:=jP (f:=f) (l:=l.set i b) (i:=i) (Qyq (gQs.mp h).1)
 rw[wH] at this
 exact this
structure Q2(w:dD)(N:Nat)(ps:List (Int×List Int))(rs:List cT)(fr:Nat->List Int):Prop where
 fo:∀g,g<N->(fr g).head? =some (-1)
 nd:(ps.flatMap (·.2)++rs.flatMap aU).Nodup
 hv:∀x∈ps.flatMap (·.2)++rs.flatMap aU,∃g:Nat,x=g/\g<N
 pv:∀p∈ps,(0<=p.1/\p.1<=9)/\(p.1=0\/p.2= [])
 pl:∀p∈ps,∀g:Nat,(g:Int)∈p.2->fr g= [-1]
 rl:∀(i:Nat) (r:cT),rs[i]?=some r->∀g:Nat,(g:Int)∈aU r->(fr g).getLast? =some (i:Int)
 r1:∀(i:Nat) (r:cT),rs[i]?=some r->r.within= -1->r.row= []/\r.ag= []
 r2:∀(i:Nat) (r:cT),rs[i]?=some r->r.within= -1\/∃g:Nat,r.within=g/\g<N/\(i:Int)∈fr g
 r3:∀(i:Nat) (r:cT) (rm:Rm),rs[i]?=some r->w.ao[i]?=some rm->rm.ah="when free" ->r.ag= []
 r4:∀(i:Nat) (r:cT) (rm:Rm),rs[i]?=some r->w.ao[i]?=some rm->∀(b:Nat) (l:List (Int×Int)) (nm so:Str),r.aa[b]?=some l->rm.aa[b]?=some (nm,so)->(l.map (·.1)).Pairwise (·<=·)/\(so="row" ->∀p∈l,p.1=0)
def hl(ps:List (Int×List Int))(rs:List cT):List Int:=ps.flatMap (·.2)++rs.flatMap aU
section
variable{w:dD}{N:Nat}{ps:List (Int×List Int)}{rs:List cT}{fr fr':Nat->List Int}{h:Nat}
def yn{i:Nat}{r nr:cT}(b:rs[i]?=some r):∃a,(hl ps rs).Perm (aU r++a)/\(hl ps (rs.set i nr)).Perm (aU nr++a):=by
 refine⟨ps.flatMap (·.2)++(rs.eraseIdx i).flatMap aU,?_,?_⟩
 ·exact(List.Perm.append_left _ (jP b)).trans (by rw[←Qvq,←Qvq];exact QJq _ List.perm_append_comm)
 ·exact(List.Perm.append_left _ (jm b)).trans (by rw[←Qvq,←Qvq];exact QJq _ List.perm_append_comm)
def y9{i:Nat}{p np:Int×List Int}(b:ps[i]?=some p):∃a,(hl ps rs).Perm (p.2++a)/\(hl (ps.set i np) rs).Perm (np.2++a):=by
 refine⟨(ps.eraseIdx i).flatMap (·.2)++rs.flatMap aU,?_,?_⟩
 ·rw[←Qvq];exact QJq _ (jP (f:=λp:Int×List Int=>p.2) b)
 ·rw[←Qvq];exact QJq _ (jm (f:=λp:Int×List Int=>p.2) b)
structure R2(w:dD)(N i:Nat)(fr:Nat->List Int)(r:cT):Prop where
 rl:∀g:Nat,(g:Int)∈aU r->(fr g).getLast? =some (i:Int)
 r1:r.within= -1->r.row= []/\r.ag= []
 r2:r.within= -1\/∃g:Nat,r.within=g/\g<N/\(i:Int)∈fr g
 r3:∀rm:Rm,w.ao[i]?=some rm->rm.ah="when free" ->r.ag= []
 r4:∀rm:Rm,w.ao[i]?=some rm->∀(b:Nat) (l:List (Int×Int)) (nm so:Str),r.aa[b]?=some l->rm.aa[b]?=some (nm,so)->(l.map (·.1)).Pairwise (·<=·)/\(so="row" ->∀p∈l,p.1=0)
def Q2.at(x:Q2 w N ps rs fr){i:Nat}{r:cT}(a:rs[i]?=some r):R2 w N i fr r:=⟨x.rl i r a,x.r1 i r a,x.r2 i r a,λb=>x.r3 i r b a,λb=>x.r4 i r b a⟩
def Q2.room(x:Q2 w N ps rs fr){i:Nat}{r nr:cT}(n:rs[i]?=some r)(g:R2 w N i fr nr)(l:∀a:List Int,(aU r++a).Nodup->(h:Int)∉aU r++a->(aU nr++a).Nodup)(f:∀y∈aU nr,y∈aU r\/y=(h:Int))(p:h<N)(o:(h:Int)∉hl ps rs):Q2 w N ps (rs.set i nr) fr:=by
 obtain⟨a,k,m⟩:=yn (ps:=ps) (nr:=nr) n
 refine⟨x.fo,m.nodup_iff.mpr (l a (k.nodup_iff.mp x.nd) λz=>o (k.mem_iff.mpr z)),λy d=> ?_,x.pv,x.pl,λj c b=> ?_,λj c b=> ?_,λj c b=> ?_,λj c e b=> ?_,λj c e b=> ?_⟩
 ·rcases mQa.mp (m.mem_iff.mp d) with d|d
  ·rcases f y d with d|rfl
   ·exact x.hv y (k.mem_iff.mpr (mQa.mpr (.inl d)))
   ·exact⟨h,rfl,p⟩
  ·exact x.hv y (k.mem_iff.mpr (mQa.mpr (.inr d)))
 all_goals rcases get_set b with⟨rfl,rfl⟩|⟨_,b⟩
 ·exact g.rl
 ·exact x.rl j c b
 ·exact g.r1
 ·exact x.r1 j c b
 ·exact g.r2
 ·exact x.r2 j c b
 ·exact g.r3 e
 ·exact x.r3 j c e b
 ·exact g.r4 e
 ·exact x.r4 j c e b
end
section
variable{w:dD}{N:Nat}{ps:List (Int×List Int)}{rs:List cT}{fr fr':Nat->List Int}{h:Nat}
def Q2.room0(x:Q2 w N ps rs fr){i:Nat}{r nr:cT}(n:rs[i]?=some r)(g:R2 w N i fr nr)(l:∀a:List Int,(aU r++a).Nodup->(aU nr++a).Nodup)(d:∀y∈aU nr,y∈aU r):Q2 w N ps (rs.set i nr) fr:=by
 obtain⟨a,k,m⟩:=yn (ps:=ps) (nr:=nr) n
 refine⟨x.fo,m.nodup_iff.mpr (l a (k.nodup_iff.mp x.nd)),λy f=> ?_,x.pv,x.pl,λj c b=> ?_,λj c b=> ?_,λj c b=> ?_,λj c e b=> ?_,λj c e b=> ?_⟩
 ·rcases mQa.mp (m.mem_iff.mp f) with f|f
  ·exact x.hv y (k.mem_iff.mpr (mQa.mpr (.inl (d y f))))
  ·exact x.hv y (k.mem_iff.mpr (mQa.mpr (.inr f)))
 all_goals rcases get_set b with⟨rfl,rfl⟩|⟨_,b⟩
 ·exact g.rl
 ·exact x.rl j c b
 ·exact g.r1
 ·exact x.r1 j c b
 ·exact g.r2
 ·exact x.r2 j c b
 ·exact g.r3 e
 ·exact x.r3 j c e b
 ·exact g.r4 e
 ·exact x.r4 j c e b
def yp{a b c:List Int}{k:Int}(p:b.Perm (k::a))(n:(a++c).Nodup)(d:k∉a++c):(b++c).Nodup:=by
 refine(QJq c p).nodup_iff.mpr ?_
 rw[List.cons_append]
 exact List.nodup_cons.mpr ⟨d,n⟩
def y3{a b c:List Int}{k:Int}(p:a.Perm (k::b))(n:(a++c).Nodup):(b++c).Nodup:=by
 have:=(QJq c p).nodup_iff.mp n
 rw[List.cons_append] at this
 exact(List.nodup_cons.mp this).2
def sT(x:Q2 w N ps rs fr){i:Nat}{r:cT}(a:rs[i]?=some r){y:Int}(b:y∈aU r):y∈hl ps rs:=mQa.mpr (.inr (QOq.mpr ⟨r,mQg a,b⟩))
def leave_held(r:cT):(∃a,(aU r).Perm (a::aU (cu r))/\(cu r).within=a)\/(aU (cu r)=aU r/\(cu r).within= -1/\r.row= []/\r.ag= []):=by
 obtain⟨d,c,b,e,f⟩:=r
 cases e with
 | cons a l=>
   refine .inl ⟨a,?_,rfl⟩
   show(b++(a::l)++_).Perm (a::(b++l++_))
   rw[Qvq,Qvq]
   exact List.perm_middle
 | nil=>
   cases b with
   |cons a l=>exact .inl ⟨a,List.Perm.refl _,rfl⟩
   |nil=>exact .inr ⟨rfl,rfl,rfl,rfl⟩
def uq{r:cT}(h:r.ag= []):(cu r).ag= []:=by
 obtain⟨c,a,b,e,d⟩:=r
 cases h
 cases b <;>rfl
def rK(r:cT):(cu r).aa=r.aa:=by
 obtain⟨d,b,c,e,f⟩:=r
 cases e with
 |cons a l=>rfl
 |nil=>cases c <;>rfl
def Q2.leave(x:Q2 w N ps rs fr){i:Nat}{r:cT}(o:rs[i]?=some r):Q2 w N ps (rs.set i (cu r)) fr:=by
 have f:=x.at o
 rcases leave_held r with⟨a,s,q⟩|⟨A,q,c,m⟩
 ·have G:a∈aU r:=s.mem_iff.mpr (QBq ..)
  have d:∀y∈aU (cu r),y∈aU r:=λy t=>s.mem_iff.mpr (Qpq _ t)
  obtain⟨g,rfl,hg⟩:=x.hv a (sT x o G)
  refine x.room0 o ⟨λu j=>f.rl u (d _ j),λz=>by rw[q] at z;omega,.inr ⟨g,q,hg,QcQ (f.rl g G)⟩,λe c m=>uq (f.r3 e c m),λe c b l nm C B v=>f.r4 e c b l nm C (by rw[←rK];exact B) v⟩ (λk n=>y3 s n) d
 ·refine x.room0 o ⟨λu j=>f.rl u (by rw[←A];exact j),λ_=> ?_,.inl q,λe c m=>uq (f.r3 e c m),λe c b l nm C B v=>f.r4 e c b l nm C (by rw[←rK];exact B) v⟩ (λk n=>by rw[A];exact n) (λy t=>by rw[←A];exact t)
  obtain⟨F,p,H,J,I⟩:=r
  cases c
  cases m
  exact⟨rfl,rfl⟩
def Q2.come(x:Q2 w N ps rs fr){i:Nat}{r:cT}(j:rs[i]?=some r)(m:h<N)(p:(h:Int)∉hl ps rs)(k:(fr h).getLast? =some (i:Int)):Q2 w N ps (rs.set i (g_ r h)) fr:=by
 have b:=x.at j
 unfold g_
 by_cases c:r.within= -1
 ·rw[Qhq c]
  refine x.room0 j ⟨b.rl,λz=>by have z:(h:Int)= -1:=z;omega,.inr ⟨h,rfl,m,QcQ k⟩,b.r3,b.r4⟩ (λd n=>n) (λy e=>e)
 ·rw[Quq c]
  have l:(aU {r with row:=r.row++ [(h:Int)]}).Perm ((h:Int)::aU r):=by
   show((r.row++ [(h:Int)])++r.ag++_).Perm ((h:Int)::(r.row++r.ag++_))
   rw[Qvq,Qvq,Qvq]
   exact List.perm_middle
  have a:∀y∈aU {r with row:=r.row++ [(h:Int)]},y∈aU r\/y=(h:Int):=λy e=>by
   rcases Qsq.mp (l.mem_iff.mp e) with rfl|e
   ·exact .inr rfl
   ·exact .inl e
  refine x.room j ⟨λg f=> ?_,λz=>absurd z c,b.r2,b.r3,b.r4⟩ (λd n o=>yp l n o) a m p
  rcases a _ f with f|f
  ·exact b.rl g f
  ·have:g=h:=by omega
   subst this
   exact k
def tJ{α:Type}{A B C:List α}:(A++(B++C)).Perm (B++(A++C)):=by
 rw[←Qvq,←Qvq]
 exact QJq _ List.perm_append_comm
def ou{r:cT}{b:Nat}{l nl:List (Int×Int)}(c:r.aa[b]?=some l):∃a,(aU r).Perm (l.map (·.2)++a)/\(aU {r with aa:=r.aa.set b nl}).Perm (nl.map (·.2)++a):=by
 refine⟨(r.row++r.ag)++(r.aa.eraseIdx b).flatMap λl=>l.map (·.2),?_,?_⟩
 ·exact(List.Perm.append_left (r.row++r.ag) (jP (f:=λl:List (Int×Int)=>l.map (·.2)) c)).trans tJ
 ·exact(List.Perm.append_left (r.row++r.ag) (jm (f:=λl:List (Int×Int)=>l.map (·.2)) (b:=nl) c)).trans tJ
def DT{l:List (Int×Int)}{t k:Int}:((kB l t k).map (·.2)).Perm (k::l.map (·.2)):=by
 unfold kB
 generalize (l.filter λp=>decide (p.1<=t)).length=n
 have e:l.map (·.2)=(l.take n).map (·.2)++(l.drop n).map (·.2):=by rw[←Qzq,List.take_append_drop]
 rw[e,Qvq,Qzq]
 exact List.perm_middle
theorem oh{t:Int}:∀{l:List (Int×Int)},(l.map (·.1)).Pairwise (·<=·)->(∀p∈l.take (l.filter λp=>decide (p.1<=t)).length,p.1<=t)/\∀p∈l.drop (l.filter λp=>decide (p.1<=t)).length,t<p.1
 | [],_=>⟨λp b=>by simp at b,λp b=>by simp at b⟩
 | a::l,hs=>by
   rw[QDq,List.pairwise_cons] at hs
   by_cases c:a.1<=t
   · rw[List.filter_cons_of_pos (by simpa using c),Qnq,List.take_succ_cons,List.drop_succ_cons]
     obtain⟨g,f⟩:=oh (t:=t) hs.2
     refine⟨λp b=> ?_,f⟩
     rcases Qsq.mp b with rfl|b
     · exact c
     · exact g p b
   · have e:∀p∈a::l,t<p.1:=λp b=>by
       rcases Qsq.mp b with rfl|b
       · omega
       · have:=hs.1 p.1 (Qkq.mpr ⟨p,b,rfl⟩)
         omega
     have d:((a::l).filter λp=>decide (p.1<=t))= []:=List.filter_eq_nil_iff.mpr λp b=>by
       have:=e p b
       simpa using this
     rw[d]
     exact⟨λp b=>by simp at b,λp b=>e p (by simpa using b)⟩
def Aj{l:List (Int×Int)}{t k:Int}(f:(l.map (·.1)).Pairwise (·<=·)):((kB l t k).map (·.1)).Pairwise (·<=·):=by
 obtain⟨g,d⟩:=oh (t:=t) f
 unfold kB
 generalize (l.filter λp=>decide (p.1<=t)).length=n at g d⊢
 rw[Qvq,Qzq,Qzq,List.pairwise_append]
 have i:((l.take n).map (·.1)).Pairwise (·<=·):=by rw[List.map_take];exact f.sublist (List.take_sublist ..)
 have j:((l.drop n).map (·.1)).Pairwise (·<=·):=by rw[List.map_drop];exact f.sublist (List.drop_sublist ..)
 refine⟨i,?_,λa r b c=> ?_⟩
 ·show(t::(l.drop n).map (·.1)).Pairwise (·<=·)
  rw[List.pairwise_cons]
  refine⟨λb c=> ?_,j⟩
  obtain⟨p,e,rfl⟩:=Qkq.mp c
  have:=d p e
  omega
 ·obtain⟨p,e,rfl⟩:=Qkq.mp r
  have m:=g p e
  rcases Qsq.mp (show b∈t::(l.drop n).map (·.1) from c) with rfl|c
  ·exact m
  ·obtain⟨q,o,rfl⟩:=Qkq.mp c
   have:=d q o
   omega
def FR{l:List (Int×Int)}{t k:Int}{p:Int×Int}(h:p∈kB l t k):p∈l\/p=(t,k):=by
 unfold kB at h
 rcases mQa.mp h with h|h
 ·rcases mQa.mp h with h|h
  ·exact .inl (List.mem_of_mem_take h)
  ·exact .inr (Qfq.mp h)
 ·exact .inl (List.mem_of_mem_drop h)
def Q2.wait(x:Q2 w N ps rs fr){i b:Nat}{r:cT}{rm:Rm}{l:List (Int×Int)}{t:Int}{nm v:Str}(o:rs[i]?=some r)(G:w.ao[i]?=some rm)(F:r.aa[b]?=some l)(B:rm.aa[b]?=some (nm,v))(ht:v="row" ->t=0)(P:h<N)(M:(h:Int)∉hl ps rs)(J:(fr h).getLast? =some (i:Int)):
  Q2 w N ps (rs.set i (cu {r with aa:=r.aa.set b (kB l t h)})) fr:=by
 have j:=x.at o
 obtain⟨a,Q,I⟩:=ou (nl:=kB l t h) F
 have k:(aU {r with aa:=r.aa.set b (kB l t h)}).Perm ((h:Int)::aU r):=by
  refine I.trans ((QJq a DT).trans ?_)
  rw[List.cons_append]
  exact List.Perm.cons _ Q.symm
 have c:∀y∈aU {r with aa:=r.aa.set b (kB l t h)},y∈aU r\/y=(h:Int):=λy s=>by
  rcases Qsq.mp (k.mem_iff.mp s) with rfl|s
  ·exact .inr rfl
  ·exact .inl s
 have R:Q2 w N ps (rs.set i {r with aa:=r.aa.set b (kB l t h)}) fr:=by
  refine x.room o ⟨λg m=> ?_,j.r1,j.r2,j.r3,λu d C S A q e f=> ?_⟩ (λa n L=>yp k n L) c P M
  ·rcases c _ m with m|m
   ·exact j.rl g m
   ·have:g=h:=by omega
    subst this
    exact J
  ·rcases get_set e with⟨rfl,rfl⟩|⟨_,e⟩
   ·rw[G] at d
    cases d
    rw[B] at f
    cases f
    obtain⟨H,K⟩:=j.r4 rm G C l nm v F B
    refine⟨Aj H,λz p k=> ?_⟩
    rcases FR k with k|rfl
    ·exact K z p k
    ·exact ht z
   ·exact j.r4 u d C S A q e f
 have:=R.leave (i:=i) (Qyq (gQs.mp o).1)
 rw[List.set_set] at this
 exact this
def Q2.all(x:Q2 w N ps rs fr){i b:Nat}{r:cT}{l:List (Int×Int)}(q:rs[i]?=some r)(F:r.aa[b]?=some l):Q2 w N ps (rs.set i {r with aa:=r.aa.set b []}) fr:=by
 have e:=x.at q
 obtain⟨t,v,s⟩:=ou (nl:= []) F
 have c:∀y∈aU {r with aa:=r.aa.set b []},y∈aU r:=λy B=>v.mem_iff.mpr (mQa.mpr (.inr (by simpa using s.mem_iff.mp B)))
 refine x.room0 q ⟨λg z=>e.rl g (c _ z),e.r1,e.r2,e.r3,λk f C G o j d m=> ?_⟩ (λa n=> ?_) c
 ·rcases get_set d with⟨rfl,rfl⟩|⟨_,d⟩
  ·exact⟨.nil,λ_ p A=>by cases A⟩
  ·exact e.r4 k f C G o j d m
 ·have u:=(QJq a v).nodup_iff.mp n
  refine(QJq a s).nodup_iff.mpr ?_
  rw[Qvq] at u
  exact(List.nodup_append.mp u).2.1
def Q2.call(x:Q2 w N ps rs fr){i b:Nat}{r:cT}{rm:Rm}{l:List (Int×Int)}(A:rs[i]?=some r)(hm:w.ao[i]?=some rm)(P:r.aa[b]?=some l)(Z:h<N)(Y:(h:Int)∉hl ps rs)(W:(fr h).getLast? =some (i:Int)):
  Q2 w N ps (rs.set i (pZ (decide (rm.ah="when free")) r b h)) fr:=by
 have t:=x.at A
 unfold pZ
 rw[P]
 cases l with
 | nil=>
   have e:rs.set i r=rs:=by
     apply List.ext_getElem?
     intro j
     rw[List.getElem?_set]
     split
     · rename_i c
       subst c
       rw[A]
       have:=(gQs.mp A).1
       simp[this]
     · rfl
   rw[e]
   exact x
 | cons p l=>
   obtain⟨u,p1,U⟩:=ou (nl:=l) P
   have L:(aU r).Perm (p.2::aU {r with aa:=r.aa.set b l}):=by
     refine p1.trans ?_
     rw[QDq,List.cons_append]
     exact List.Perm.cons _ U.symm
   have K:p.2∈aU r:=L.mem_iff.mpr (QBq ..)
   have a:∀y∈aU {r with aa:=r.aa.set b l},y∈aU r:=λy F=>L.mem_iff.mpr (Qpq _ F)
   have R:∀d:Rm,w.ao[i]?=some d->∀(I:Nat) (J:List (Int×Int)) (s f:Str),(r.aa.set b l)[I]?=some J->d.aa[I]?=some (s,f)->(J.map (·.1)).Pairwise (·<=·)/\(f="row" ->∀p∈J,p.1=0):=λd m I J s f v H=>by
     rcases get_set v with⟨rfl,rfl⟩|⟨_,v⟩
     · obtain⟨Q,X⟩:=t.r4 d m I _ s f P H
       rw[QDq,List.pairwise_cons] at Q
       exact⟨Q.2,λz q S=>X z q (Qpq _ S)⟩
     · exact t.r4 d m I J s f v H
   dsimp only
   by_cases c:rm.ah="when free"
   · rw[Qeq c,Qhq rfl]
     exact x.room0 A ⟨λg K=>t.rl g (a _ K),t.r1,t.r2,t.r3,R⟩ (λu n=>y3 L n) a
   · rw[Qdq c,Quq (by decide)]
     have G:(aU {r with aa:=r.aa.set b l,within:=p.2,ag:=r.ag++ [(h:Int)]}).Perm ((h:Int)::aU {r with aa:=r.aa.set b l}):=by
       show(r.row++(r.ag++ [(h:Int)])++_).Perm ((h:Int)::(r.row++r.ag++_))
       rw[←Qvq,Qvq]
       exact List.perm_middle
     have o:∀y∈aU {r with aa:=r.aa.set b l,within:=p.2,ag:=r.ag++ [(h:Int)]},y∈aU r\/y=(h:Int):=λy F=>by
       rcases Qsq.mp (G.mem_iff.mp F) with rfl|F
       · exact .inr rfl
       · exact .inl (a y F)
     obtain⟨g,C,M⟩:=x.hv p.2 (sT x A K)
     refine x.room A ⟨λk B=> ?_,λz=> ?_,.inr ⟨g,C,M,QcQ (t.rl g (by rw[←C];exact K))⟩,λd m z=> ?_,R⟩ (λu n B=> ?_) o Z Y
     · rcases o _ B with B|B
       · exact t.rl k B
       · have:k=h:=by omega
         subst this
         exact W
     · have z:p.2= -1:=z
       omega
     · rw[hm] at m
       cases m
       exact absurd z c
     · refine yp G (y3 L n) λz=>B ?_
       rcases mQa.mp z with z|z
       · exact mQa.mpr (.inl (a _ z))
       · exact mQa.mpr (.inr z)
end
section
variable{w:dD}{N:Nat}{ps:List (Int×List Int)}{rs:List cT}{fr fr':Nat->List Int}{h:Nat}
def Q2.take(x:Q2 w N ps rs fr){j:Nat}{p:Int×List Int}(r:ps[j]?=some p)(B:h<N)(v:(h:Int)∉hl ps rs)(u:fr h= [-1]):Q2 w N (ps.set j (eG p h)) rs fr:=by
 obtain⟨⟨C,A⟩,o⟩:=x.pv p (mQg r)
 obtain⟨t,m,s⟩:=y9 (rs:=rs) (np:=eG p h) r
 have l:(eG p h).2=p.2\/(eG p h).2=p.2++ [(h:Int)]:=by
  unfold eG
  split
  ·exact .inl rfl
  ·exact .inr rfl
 have d:∀y∈(eG p h).2,y∈p.2\/y=(h:Int):=λy b=>by
  rcases l with e|e
  ·rw[e] at b;exact .inl b
  ·rw[e] at b
   rcases mQa.mp b with b|b
   ·exact .inl b
   ·exact .inr (Qfq.mp b)
 refine⟨x.fo,s.nodup_iff.mpr ?_,λy b=> ?_,λq f=> ?_,λq f g i=> ?_,x.rl,x.r1,x.r2,x.r3,x.r4⟩
 ·have n:=m.nodup_iff.mp x.nd
  rcases l with e|e
  ·rw[e];exact n
  ·rw[e]
   exact yp (a:=p.2) (k:=(h:Int)) (by rw[←List.append_nil p.2];simpa using List.perm_middle (l₁:=p.2) (a:=(h:Int)) (l₂:= [])) n λz=>v (m.mem_iff.mpr z)
 ·rcases mQa.mp (s.mem_iff.mp b) with b|b
  ·rcases d y b with b|rfl
   ·exact x.hv y (m.mem_iff.mpr (mQa.mpr (.inl b)))
   ·exact⟨h,rfl,B⟩
  ·exact x.hv y (m.mem_iff.mpr (mQa.mpr (.inr b)))
 ·rcases QTq f with f|rfl
  ·exact x.pv q f
  ·unfold eG
   split
   ·rename_i c
    refine⟨⟨by show 0<=p.1-1;omega,by show p.1-1<=9;omega⟩,.inr ?_⟩
    rcases o with o|o
    ·omega
    ·exact o
   ·rename_i c
    exact⟨⟨C,A⟩,.inl (by show p.1=0;omega)⟩
 ·rcases QTq f with f|rfl
  ·exact x.pl q f g i
  ·rcases d _ i with i|i
   ·exact x.pl p (mQg r) g i
   ·have:g=h:=by omega
    subst this
    exact u
def Q2.give(x:Q2 w N ps rs fr){j:Nat}{p:Int×List Int}(i:ps[j]?=some p):Q2 w N (ps.set j (dM p)) rs fr:=by
 obtain⟨⟨o,u⟩,e⟩:=x.pv p (mQg i)
 obtain⟨s,m,r⟩:=y9 (rs:=rs) (np:=dM p) i
 have f:=x.pl p (mQg i)
 obtain⟨v,l⟩:=p
 have c:∀y∈(dM (v,l)).2,y∈l:=λy b=>by
  unfold dM at b
  cases l with
  |nil=>cases b
  |cons a l=>exact Qpq _ b
 refine⟨x.fo,r.nodup_iff.mpr ?_,λy b=> ?_,λq d=> ?_,λq d g t=> ?_,x.rl,x.r1,x.r2,x.r3,x.r4⟩
 ·have n:=m.nodup_iff.mp x.nd
  unfold dM
  cases l with
  |nil=>exact n
  |cons a l=>exact y3 (k:=a) (List.Perm.refl _) n
 ·rcases mQa.mp (r.mem_iff.mp b) with b|b
  ·exact x.hv y (m.mem_iff.mpr (mQa.mpr (.inl (c y b))))
  ·exact x.hv y (m.mem_iff.mpr (mQa.mpr (.inr b)))
 ·rcases QTq d with d|rfl
  ·exact x.pv q d
  ·unfold dM
   cases l with
   | nil=>
     refine⟨?_,.inr rfl⟩
     show 0<=(if 9<v+1 then 9 else v+1)/\(if 9<v+1 then 9 else v+1)<=9
     have o:0<=v:=o
     split <;>omega
   | cons a l=>
     refine⟨⟨o,u⟩,.inl ?_⟩
     rcases e with e|e
     · exact e
     · cases e
 ·rcases QTq d with d|rfl
  ·exact x.pl q d g t
  ·exact f g (c _ t)
def Q2.frames(x:Q2 w N ps rs fr)(b:∀g,g≠h->fr' g=fr g)(k:(h:Int)∉hl ps rs)(n:∀(i:Nat) (r:cT),rs[i]?=some r->r.within=(h:Int)->(i:Int)∈fr' h)(l:(fr' h).head? =some (-1)):Q2 w N ps rs fr':=by
 have f:∀g:Nat,(g:Int)∈hl ps rs->fr' g=fr g:=λg a=>b g λz=>k (by rw[←z];exact a)
 refine⟨λg a=> ?_,x.nd,x.hv,x.pv,λp j g a=> ?_,λi r d g a=> ?_,x.r1,λi r d=> ?_,x.r3,x.r4⟩
 ·by_cases c:g=h
  ·subst c
   exact l
  ·rw[b g c]
   exact x.fo g a
 ·rw[f g (mQa.mpr (.inl (QOq.mpr ⟨p,j,a⟩)))]
  exact x.pl p j g a
 ·rw[f g (sT x d a)]
  exact x.rl i r d g a
 ·rcases x.r2 i r d with z|⟨g,e,a,m⟩
  ·exact .inl z
  ·refine .inr ⟨g,e,a,?_⟩
   by_cases c:g=h
   ·subst c
    exact n i r d e
   ·rw[b g c]
    exact m
end
def rc(f:cE):Int:=if f.room= -1 then(if f.deed= -1/\f.given=0/\f.told=0 then -1 else -2) else f.room
def mz{f:cE}(h:f.room≠-1):rc f=f.room:=Quq h
def xD(s:bB)(g:Nat):List Int:=((s.af[g]?).map λp=>p.2.map rc).getD []
def rN(w:dD)(s:bB):Prop:=Q2 w s.af.length s.ak s.ao (xD s)
section
variable{w:dD}{n h:Nat}{s:bB}{vs:List Int}{fs:List cE}{f:cE}
def lI(a:s.af[h]?=some (vs,fs)):xD s h=fs.map rc:=by
 unfold xD
 rw[a]
 rfl
def yg{p:List Int×List cE}{g:Nat}(a:g≠h):xD {s with af:=s.af.set h p} g=xD s g:=by
 unfold xD
 rw[QKq (Ne.symm a)]
def yU{p:List Int×List cE}(hl:h<s.af.length):xD {s with af:=s.af.set h p} h=p.2.map rc:=by
 unfold xD
 rw[Qyq hl]
 rfl
def rN.quiet(x:rN w s){b:List Int}{a:List cE}(d:s.af[h]?=some (vs,fs))(e:a.map rc=fs.map rc):rN w {s with af:=s.af.set h (b,a)}:=by
 have hl:=(gQs.mp d).1
 have i:xD {s with af:=s.af.set h (b,a)}=xD s:=by
  funext g
  by_cases c:g=h
  ·subst c
   rw[yU hl,lI d]
   exact e
  ·exact yg c
 unfold rN
 rw[i]
 show Q2 w (s.af.set h (b,a)).length s.ak s.ao (xD s)
 rw[List.length_set]
 exact x
def rN.share(x:rN w s){a:List Int}:rN w {s with aq:=a}:=x
def rN.vals(x:rN w s){i:Nat}{r:cT}{d:List Int}(b:s.ao[i]?=some r):rN w {s with ao:=s.ao.set i {r with vals:=d}}:=by
 have a:=Q2.at x b
 exact Q2.room0 x b ⟨a.rl,a.r1,a.r2,a.r3,a.r4⟩ (λc n=>n) (λy e=>e)
def rN.begun(o:gF w):rN w (bL w):=by
 have j:∀(i:Nat) (r:cT),(bL w).ao[i]?=some r->∃c,w.ao[i]?=some c/\r=c_ c:=λi r j=>by
  simp only[bL,gQm] at j
  obtain⟨c,A,B⟩:=oQm.mp j
  exact⟨c,A,B.symm⟩
 have y:∀c:Rm,∀l∈(c_ c).aa,l= []:=λc l hl=>by
  simp only[c_,Qkq] at hl
  obtain⟨_,_,e⟩:=hl
  exact e.symm
 have u:∀c:Rm,aU (c_ c)= []:=λc=>by
  unfold aU
  have:(c_ c).aa.flatMap (λl=>l.map (·.2))= []:=List.flatMap_eq_nil_iff.mpr λl hl=>by rw[y c l hl];rfl
  rw[this]
  rfl
 have C:hl (bL w).ak (bL w).ao= []:=by
  unfold hl
  rw[List.append_eq_nil_iff,List.flatMap_eq_nil_iff,List.flatMap_eq_nil_iff]
  refine⟨λp d=> ?_,λr a=> ?_⟩
  ·simp only[bL,Qkq] at d
   obtain⟨q,_,rfl⟩:=d
   rfl
  ·simp only[bL,Qkq] at a
   obtain⟨q,_,rfl⟩:=a
   exact u q
 have t:(bL w).ak.flatMap (·.2)++(bL w).ao.flatMap aU= []:=C
 refine⟨λg k=> ?_,by rw[t];exact .nil,(λx v=>by rw[t] at v;cases v),?_,λp d g k=> ?_,λi r a g k=> ?_,λi r a _=> ?_,λi r a=> ?_,λi r c a _ _=> ?_,λi r c a _ b l nm G F _=> ?_⟩
 ·have m:g<w.af.length:=by simpa [bL] using k
  unfold xD
  simp only[bL,gQm,gQe m,Option.map_some,Option.getD_some]
  rfl
 ·intro p d
  simp only[bL,Qkq] at d
  obtain⟨q,z,rfl⟩:=d
  have:=o.pv q z
  exact⟨⟨by show(0:Int)<=(q.2:Int);omega,by show(q.2:Int)<=9;omega⟩,.inr rfl⟩
 ·simp only[bL,Qkq] at d
  obtain⟨q,_,rfl⟩:=d
  cases k
 ·obtain⟨c,_,rfl⟩:=j i r a
  rw[u] at k
  cases k
 ·obtain⟨c,_,rfl⟩:=j i r a
  exact⟨rfl,rfl⟩
 ·obtain⟨c,_,rfl⟩:=j i r a
  exact .inl rfl
 ·obtain⟨c,_,rfl⟩:=j i r a
  rfl
 ·obtain⟨c,_,rfl⟩:=j i r a
  rw[y c l (mQg F)]
  exact⟨.nil,λ_ p d=>by cases d⟩
end
section
variable{w:dD}{n h:Nat}{s:bB}{vs:List Int}{fs:List cE}{f:cE}{sc:Sc}
def mG{f':cE}(a:fs.getLast? =some f)(e:rc f'=rc f):(fs.dropLast++ [f']).map rc=fs.map rc:=by
 conv=>rhs;rw[fY a]
 rw[Qzq,Qzq]
 show _++ [rc f']=_++ [rc f]
 rw[e]
def Dv{y:Str}{v:Int}(o:gF w)(x:cR w n s)(q:rN w s)(j:s.af[h]?=some (vs,fs))(l:fs.getLast? =some f)(t:B5 w h f=some sc)(z:y∈sc.ps)(u:0<=v/\v<=9):∃p,Puts w s h y v p/\cR w n p/\rN w p:=by
 obtain⟨A,J,k,i⟩:=x.whand j
 have B:=o.hd _ (mQg k)
 have C:=i.fr f (QcQ l)
 have K:=o.l1
 have N:=o.l3
 have H:=B.l1
 have R:=o.l4
 have I:=x.lr
 have L:=x.lh
 rcases fK t with⟨c,F,G,g,rfl⟩|⟨c,r,hr,rfl⟩
 ·rw[k] at g
  cases g
  refine⟨qf w s h A vs fs y v,λS Q q=>CO k j l c x.ls i.lv (by omega) (by dsimp only at H;omega) (by omega) z q,?_⟩
  unfold qf
  split
  ·obtain⟨e,d⟩:=gk (ns:=w.aq.map (·.1)) (y:=y) x.sv u
   exact⟨x.share e d,q.share⟩
  ·obtain⟨e,d⟩:=gk (ns:=A.map (·.1)) (y:=y) i.vv u
   exact⟨x.hand k (i.vals e d),q.quiet j rfl⟩
 ·obtain⟨M,b,a⟩:=x.wroom hr
  have m:=o.rm r (mQg hr)
  have P:=m.l1
  refine⟨_,λS Q q=>Ar j l (ik C c) hr b a.lv (by omega) (by omega) z q,?_⟩
  obtain⟨e,d⟩:=gk (ns:=r.ar.map (·.1)) (y:=y) a.vv u
  exact⟨x.room hr ⟨by rw[a.lv,←e],a.lb,d,a.br,a.bl,a.bb⟩,q.vals b⟩
def D_(hi:jf fs)(g:fs.getLast? =some f)(c:f.room= -1)(b:(fs.map rc).head? =some (-1)):fs.map rc= [-1]:=by
 have e:=fY g
 rw[e] at hi b⊢
 cases d:fs.dropLast with
 | nil=>
   rw[d] at b
   rw[List.nil_append]
   have b:some (rc f)=some (-1):=b
   show [rc f]= [-1]
   rw[QdQ b]
 | cons a l=>
   rw[d] at hi
   exact absurd c (hi.2 f (mQa.mpr (.inr (Qfq.mpr rfl))))
def Hu{r:Rw}{pr:List Rw}(o:gF w)(x:cR w n s)(R:rN w s)(I:(h:Int)∉held s)(hn:n<=100)(B:s.af[h]?=some (vs,fs))(H:fs.getLast? =some f)(hp:progOf w h f=some pr)(h1:1<=f.row)(a1:pr[(f.row-1).toNat]?=some r):∃s',HX w s h r s'/\cR w (n+1) s'/\rN w s':=by
 obtain⟨sc,J,c3⟩:=wM o hp
 have b:=c3 r (mQg a1)
 obtain⟨ts,a2,hw,hi⟩:=x.whand B
 have fi:=hi.fr f (QcQ H)
 have hl:h<s.af.length:=(gQs.mp B).1
 have b1:=o.l1
 have b2:=o.l2
 have b3:=o.l3
 have b4:=o.l4
 have lr:=x.lr
 have lp:=x.lp
 have lh:=x.lh
 have lf:=hi.lf
 have x1:=x.mono (Nat.le_succ n)
 have X:f.room≠-1->(xD s h).getLast? =some f.room:=λc=>by rw[lI B,QfQ,H];exact congrArg some (mz c)
 have f0:=R.fo h hl
 have F:sc.own=false->∃(i:Nat) (r:Rm) (rs:cT),f.room=i/\w.ao[i]?=some r/\s.ao[i]?=some rs/\jS n r rs/\xJ (bP w.ao) r/\sc.bs=r.aa.map (·.1):=λho=>by
  rcases fK J with⟨c,b0,a2,b8,rfl⟩|⟨c,r,M,rfl⟩
  ·cases ho
  ·obtain⟨rs,k,K⟩:=x.wroom M
   exact⟨_,r,rs,ik fi c,M,k,K,o.rm r (mQg M),rfl⟩
 have G:sc.own=true->sc.ts=w.ak.map (·.1)/\xD s h= [-1]:=λho=>by
  rcases fK J with⟨c,b0,a2,b8,rfl⟩|⟨c,r,M,rfl⟩
  ·exact⟨rfl,by rw[lI B] at f0⊢;exact D_ hi.hd H c f0⟩
  ·cases ho
 have C:∀y,y∈w.ak.map (·.1)->∀ps:List (Int×List Int),w.ak.length=ps.length->∃p,ps[eW (w.ak.map (·.1)) y]?=some p:=λy A ps hl=>by
  have:=(g9 A).1
  rw[lQm] at this
  exact⟨_,gQe (by omega)⟩
 have Z:∀p:Int×List Int,p.2.length<=n->(eG p h).2.length<=n+1:=λp hp=>by
  unfold eG
  split
  ·show p.2.length<=_;omega
  ·simp;omega
 have W:∀p:Int×List Int,p.2.length<=n->(dM p).2.length<=n:=λp hp=>by
  obtain⟨v,l⟩:=p
  unfold dM
  cases l with
  |nil=>simp
  |cons a l=>simp at hp;show l.length<=n;omega
 cases r with
 | put y t=>
   obtain⟨v,hv,M⟩:=eZ o x B H J b.2
   obtain⟨s',u,c2,c4⟩:=Dv o x R B H J b.1 hv
   exact⟨s',λS Q q=>wU M u q,c2.mono (Nat.le_succ n),c4⟩
 | unl t m=>
   obtain⟨v,hv,M⟩:=eZ o x B H J b.1
   refine⟨_,λS Q q=>pH M B H (by omega) (by omega) q,?_⟩
   split
   · exact⟨x1.goes B H hp (by omega) (by have:=b.2;omega),R.quiet B (mG H rfl)⟩
   · exact⟨x1,R⟩
 |go m=>exact⟨_,λS Q q=>zC B H (by omega) (by omega) q,x1.goes B H hp (by omega) (by have:m<=pr.length:=b;omega),R.quiet B (mG H rfl)⟩
 | do_ g rn dn t=>
   obtain⟨v,hv,M⟩:=eZ o x B H J b.2.2
   have c1:sc.gs=bP w.ao:=by
     rcases fK J with⟨c,b0,a2,b8,rfl⟩|⟨c,r,M,rfl⟩ <;>rfl
   have a4:=b.2.1
   rw[c1] at a4
   obtain⟨a0,r,d,a5⟩:=CZ o a4
   obtain⟨rs,k,K⟩:=x.wroom d
   have P:=o.rm r (mQg d)
   have b5:=P.l3
   have b6:=K.br
   refine⟨_,λS Q q=>zp M B a0 d k a5 (by omega) (by omega) (by omega) (by omega) (by omega) (by omega) q,?_⟩
   have c6:=g9 a5
   have a6:=c6.1
   rw[lQm] at a6
   obtain⟨⟨d1,b9⟩,c5⟩:∃p,r.ae[eW (r.ae.map (·.1)) dn]?=some p:=⟨_,gQe a6⟩
   have pf:progOf w h ⟨(eW (w.ao.map (·.name)) rn:Nat),(eW (r.ae.map (·.1)) dn:Nat),0,v,0⟩=some b9:=wG rfl rfl d c5
   have hh:=hi.push (f':=⟨(eW (w.ao.map (·.name)) rn:Nat),(eW (r.ae.map (·.1)) dn:Nat),0,v,0⟩) H ⟨pr,g,rn,dn,t,hp,h1,a1⟩ (by show((eW (w.ao.map (·.name)) rn:Nat):Int)≠-1;omega) ⟨⟨b9,pf,by show(0:Int)<=0;omega,by show(0:Int)<=_;omega⟩,hv,by show(0:Int)<=0/\(0:Int)<=9;omega⟩
   refine⟨(x1.hand hw hh).room d K.come,?_⟩
   generalize eW (r.ae.map (·.1)) dn=dd
   generalize eW (w.ao.map (·.name)) rn=i at k
   have eo:xD {s with af:=s.af.set h (vs,fs++ [(⟨i,dd,0,v,0⟩:cE)]),ao:=s.ao.set i (g_ rs h)} h=fs.map rc++ [(i:Int)]:=by
     have:=yU (s:={s with ao:=s.ao.set i (g_ rs h)}) (h:=h) (p:=(vs,fs++ [(⟨i,dd,0,v,0⟩:cE)])) hl
     rw[Qzq] at this
     rw[show [(i:Int)]= [(⟨i,dd,0,v,0⟩:cE)].map rc by show _= [rc _];rw[mz (by show(i:Int)≠-1;omega)]]
     exact this
   have q3:Q2 w s.af.length s.ak s.ao (xD {s with af:=s.af.set h (vs,fs++ [(⟨i,dd,0,v,0⟩:cE)]),ao:=s.ao.set i (g_ rs h)}):=by
     refine Q2.frames R (h:=h) (λg hg=> ?_) I (λj r' hj e=> ?_) ?_
     · exact yg (s:={s with ao:=s.ao.set i (g_ rs h)}) hg
     · rw[eo]
       rcases R.r2 j r' hj with z|⟨g,e',_,hm⟩
       · omega
       · have:g=h:=by omega
         subst this
         rw[lI B] at hm
         exact mQa.mpr (.inl hm)
     · rw[eo]
       rw[lI B] at f0
       cases a7:fs.map rc with
       |nil=>rw[a7] at f0;cases f0
       |cons a l=>rw[a7] at f0;exact f0
   have q4:=q3.come (h:=h) k hl I (by rw[eo];simp)
   unfold rN
   show Q2 w (s.af.set h _).length s.ak (s.ao.set i (g_ rs h)) _
   rw[List.length_set]
   exact q4
 | wait y t=>
   obtain⟨i,r,rs,L,d,k,K,P,U⟩:=F b.1
   obtain⟨v,hv,M⟩:=eZ o x B H J b.2.2
   have A:=b.2.1
   rw[U] at A
   have b6:=P.l2
   have lb:=K.lb
   obtain⟨k1,k2⟩:=g9 A
   rw[lQm] at k1
   rw[gQm] at k2
   obtain⟨⟨y',so⟩,k3,k4⟩:=oQm.mp k2
   have k4:y'=y:=k4
   subst k4
   obtain⟨Y,N⟩:∃l,rs.aa[eW (r.aa.map (·.1)) y']?=some l:=⟨_,gQe (by omega)⟩
   have ll:=K.bb Y (mQg N)
   refine⟨_,λS Q q=>vo B H L d k (by omega) lb (by omega) A k3 N (by omega) M q,?_⟩
   refine⟨x1.room d (((K.mono (Nat.le_succ n)).line (by rw[AX];omega)).leave),?_⟩
   exact Q2.wait R (h:=h) k d N k3 (λz=>by rw[z,Quq (by decide +kernel)]) hl I (by rw[X (by omega),L])
 | call y=>
   obtain⟨i,r,rs,L,d,k,K,P,U⟩:=F b.1
   have A:=b.2
   rw[U] at A
   have b6:=P.l2
   have b7:=K.bl
   have lb:=K.lb
   have k1:=(g9 A).1
   rw[lQm] at k1
   obtain⟨Y,N⟩:∃l,rs.aa[eW (r.aa.map (·.1)) y]?=some l:=⟨_,gQe (by omega)⟩
   refine⟨_,λS Q q=>t5 B H L d k (by omega) K.lb (by omega) (by omega) A q,?_⟩
   exact⟨x1.room d K.call,Q2.call R (h:=h) k d N hl I (by rw[X (by omega),L])⟩
 | all y=>
   obtain⟨i,r,rs,L,d,k,K,P,U⟩:=F b.1
   have A:=b.2
   rw[U] at A
   have b6:=P.l2
   have lb:=K.lb
   have k1:=(g9 A).1
   rw[lQm] at k1
   obtain⟨Y,N⟩:∃l,rs.aa[eW (r.aa.map (·.1)) y]?=some l:=⟨_,gQe (by omega)⟩
   refine⟨_,λS Q q=>wN B H L d k (by omega) K.lb (by omega) A q,?_⟩
   exact⟨x1.room d ((K.mono (Nat.le_succ n)).line (by simp)),Q2.all R k N⟩
 | tell t=>
   obtain⟨v,hv,M⟩:=eZ o x B H J b.2
   exact⟨_,λS Q q=>ub M B H (by omega) (by omega) q,x1.tells B H hv,R.quiet B (mG H (by
     have a0:f.room≠-1:=by obtain⟨i,r,rs,L,_⟩:=F b.1;omega
     rw[mz a0];exact mz (f:={f with told:=v}) a0))⟩
 | take y=>
   have A:=b.2
   rw[(G b.1).1] at A
   obtain⟨p,u⟩:=C y A s.ak lp
   have pl:=x.ps p (mQg u)
   exact⟨_,λS Q q=>uB A u (by omega) (by omega) (by omega) q,x1.pass (Z p pl),Q2.take R u hl I (G b.1).2⟩
 | give y=>
   have A:=b.2
   rw[(G b.1).1] at A
   obtain⟨p,u⟩:=C y A s.ak lp
   have pl:=x.ps p (mQg u)
   exact⟨_,λS Q q=>t6 A u (by omega) (by omega) q,x1.pass (Nat.le_succ_of_le (W p pl)),Q2.give R u⟩
 | pass y z=>
   have A:=b.2.1
   have hz:=b.2.2
   rw[(G b.1).1] at A hz
   obtain⟨p,u⟩:=C y A s.ak lp
   have pl:=x.ps p (mQg u)
   have x2:cR w n _:=x.pass (i:=eW (w.ak.map (·.1)) y) (W p pl)
   obtain⟨p2,a3⟩:=C z hz (s.ak.set (eW (w.ak.map (·.1)) y) (dM p)) (by simpa using lp)
   have c0:=x2.ps p2 (mQg a3)
   have q3:=Q2.give R u
   refine⟨_,λS Q q=>uZ A hz u (by omega) (by omega) (by omega) a3 q,(x2.mono (Nat.le_succ n)).pass (Z p2 c0),Q2.take q3 a3 hl ?_ (G b.1).2⟩
   intro zz
   obtain⟨d0,e1,e2⟩:=y9 (rs:=s.ao) (np:=dM p) u
   refine I (e1.mem_iff.mpr ?_)
   rcases mQa.mp (e2.mem_iff.mp zz) with zz|zz
   · refine mQa.mpr (.inl ?_)
     obtain⟨v,l⟩:=p
     unfold dM at zz
     cases l with
     |nil=>cases zz
     |cons a l=>exact Qpq _ zz
   · exact mQa.mpr (.inr zz)
 |say t=>exact⟨s,λS Q q=>w_ (sd:=.non) q,x1,R⟩
def Il(o:gF w)(x:cR w n s)(Z:rN w s)(hn:n<=100)(hm:h∈oM w s)(u:s.af[h]?=some (vs,fs))(C:fs.getLast? =some f):∃F e,pM w s h F e/\cR w (n+1) F/\rN w F:=by
 obtain⟨ts,b7,hw,hi⟩:=x.whand u
 have fi:=hi.fr f (QcQ C)
 obtain⟨pr,H,a7,b8⟩:=fi.pr
 have hl:h<s.af.length:=(gQs.mp u).1
 have b1:=o.l1
 have b4:=o.l4
 have lr:=x.lr
 have lh:=x.lh
 have lf:=hi.lf
 have mm:=(List.mem_filter.mp hm).2
 rw[QCq] at mm
 have A:(h:Int)∉held s:=by
  intro z
  have:=mm.1
  rw[Qeq z] at this
  cases this
 have nb:¬(f.room= -1/\f.row=pr.length):=by
  rintro⟨c1,c2⟩
  have hb:vD w s h=true:=by
   unfold vD CC
   rw[u]
   show(match fs.getLast? with|some f=>_|none=>_)=_
   rw[C]
   simp only[H,Option.getD_some,c1,c2,decide_true,Bool.and_true]
  rw[hb] at mm
  exact absurd mm.2 (by decide)
 have row:∀(r:Rw) (e:Option Int),Here s h f->pr[f.row.toNat]?=some r->FK w s h r e->∃F e,pM w s h F e/\cR w (n+1) F/\rN w F:=λr e p b K=>by
  have G:=(gQs.mp b).1
  have x2:=x.goes u C H (m:=f.row+1) (by omega) (by omega)
  have q3:rN w {s with af:=s.af.set h (vs,fs.dropLast++ [{f with row:=f.row+1}])}:=Z.quiet u (mG C rfl)
  obtain⟨F,hd,L,N⟩:=Hu (f:={f with row:=f.row+1}) (r:=r) (pr:=pr) o x2 q3 A hn (Qyq hl) (by simp) H (by show 1<=f.row+1;omega) (by show pr[(f.row+1-1).toNat]?=_;rw[show f.row+1-1=f.row by omega];exact b)
  exact⟨F,e,uu u C p H a7 b (by omega) (by omega) K hd,L,N⟩
 obtain⟨sc,a6,a5⟩:=wM o H
 have I:∀r,pr[f.row.toNat]?=some r->∃e,FK w s h r e:=λr b=>by
  have U:=a5 r (mQg b)
  cases r with
  | say t=>
    obtain⟨v,hv,hr⟩:=eZ o x u C a6 U.2
    exact⟨some v,v,rfl,hr⟩
  |_=>exact⟨none,rfl⟩
 by_cases c:f.room= -1
 ·have G:f.row.toNat<pr.length:=by
   have:f.row≠pr.length:=λz=>nb ⟨c,z⟩
   omega
  have b:pr[f.row.toNat]?=some (pr[f.row.toNat]):=gQe G
  obtain⟨e,K⟩:=I _ b
  exact row _ e (.inl c) b K
 ·rcases j9 H with⟨c',_⟩|⟨i,j,r,dn,Y,h2,h3,h4⟩
  ·exact absurd c' c
  obtain⟨B,k,ri⟩:=x.wroom h3
  have br:=ri.br
  have R:(xD s h).getLast? =some (i:Int):=by rw[lI u,QfQ,C,←Y];exact congrArg some (mz c)
  by_cases cw:B.within=h
  ·have p:Here s h f:=.inr ⟨i,B,Y,k,cw⟩
   by_cases ce:f.row=pr.length
   ·have a1:=fY C
    have hd:=hi.hd
    rw[a1] at hd
    obtain⟨J,M,hg⟩:=hd.two c
    have b2:fs=J++ [M,f]:=by rw[a1,hg];simp
    subst b2
    obtain⟨b0,a4⟩:=hi.pop
    obtain⟨b9,g,rn,b5,t,p1,p2,p3⟩:=a4
    have x2:cR w n {s with ao:=s.ao.set i (cu B),af:=s.af.set h (vs,J++ [M])}:=(x.hand hw b0).room h3 ri.leave
    have ql:=Q2.leave Z k
    have W:(h:Int)∉W28.hl s.ak (s.ao.set i (cu B)):=by
     intro z
     obtain⟨b3,e1,e2⟩:=yn (ps:=s.ak) (nr:=cu B) k
     refine A (e1.mem_iff.mpr ?_)
     rcases mQa.mp (e2.mem_iff.mp z) with z|z
     ·refine mQa.mpr (.inl ?_)
      rcases leave_held B with⟨a,P,_⟩|⟨K,_⟩
      ·exact P.mem_iff.mpr (Qpq _ z)
      ·rw[←K];exact z
     ·exact mQa.mpr (.inr z)
    have q3:rN w {s with ao:=s.ao.set i (cu B),af:=s.af.set h (vs,J++ [M])}:=by
     have eo:xD {s with ao:=s.ao.set i (cu B),af:=s.af.set h (vs,J++ [M])} h=(J++ [M]).map rc:=yU (s:={s with ao:=s.ao.set i (cu B)}) hl
     unfold rN
     show Q2 w (s.af.set h _).length s.ak (s.ao.set i (cu B)) _
     rw[List.length_set]
     refine Q2.frames ql (h:=h) (λg hg=>yg (s:={s with ao:=s.ao.set i (cu B)}) hg) W (λj r' hj e=> ?_) ?_
     ·rw[eo]
      rcases get_set hj with⟨rfl,rfl⟩|⟨hne,hj⟩
      ·exfalso
       rcases leave_held B with⟨a,P,X⟩|⟨_,X,_⟩
       ·rw[X] at e
        refine A (sT (fr:=xD s) Z k ?_)
        rw[←e]
        exact P.mem_iff.mpr (QBq ..)
       ·rw[X] at e
        omega
      ·rcases Z.r2 j r' hj with z|⟨g',e',_,d⟩
       ·omega
       ·have:g'=h:=by omega
        subst this
        rw[lI u,show J++ [M,f]=(J++ [M])++ [f] by simp,Qzq] at d
        rcases mQa.mp d with d|d
        ·exact d
        ·have d:=Qfq.mp (show(j:Int)∈[rc f] from d)
         rw[mz c,Y] at d
         exact absurd (by omega:j=i) hne
     ·rw[eo]
      have f0:=Z.fo h hl
      rw[lI u] at f0
      cases J with
      |nil=>exact f0
      |cons a l=>exact f0
    obtain⟨b6,a2,a0⟩:=wM o p1
    have U:=a0 _ (mQg p3)
    cases g with
    | none=>
      exact⟨_,none,pY u C p H ce λS Q q=>i_ u Y k (by omega) (by omega) p1 p2 p3 (λ_ e=>e.symm) q,x2.mono (Nat.le_succ n),q3⟩
    | some y=>
      obtain⟨F,a3,L,N⟩:=Dv (y:=y) (v:=f.told) o x2 q3 (Qyq hl) (by simp) a2 (U.1 y rfl) fi.tv
      exact⟨F,none,pY u C p H ce λS Q q=>i_ u Y k (by omega) (by omega) p1 p2 p3 (λ_ e=>by rw[e];exact a3) q,L.mono (Nat.le_succ n),N⟩
   ·have G:f.row.toNat<pr.length:=by omega
    have b:pr[f.row.toNat]?=some (pr[f.row.toNat]):=gQe G
    obtain⟨e,K⟩:=I _ b
    exact row _ e p b K
  ·exact⟨_,none,wg u C Y k cw (by omega) (by omega),(x.mono (Nat.le_succ n)).room h3 ri.come,Q2.come Z (h:=h) k hl A R⟩
end
end W28
namespace DL
open PySem PySem.Spec L2
section
variable{Γ:cN}{S:aF}
def HD{f:dF}{Q:(List D×(aF->Prop))->aF->Prop}(h:E f Γ S λp a=>Q (sj 0 p.1,λc=>p.2.stays c p.1) a):E (Ct f) Γ S Q:=by
 obtain⟨p,a,b,q⟩:=h
 exact⟨_,a,by unfold Ct;rw[b];rfl,q⟩
def MD{f:dF}{Q:D->aF->Prop}(h:E f Γ S λp a=>p.2.isL=true/\∃bs,Ko p.1=some bs/\Q (.bl (bs.all id)) a):E (HC f) Γ S Q:=by
 obtain⟨p,a,b,l,bs,c,q⟩:=h
 exact⟨_,a,by unfold HC;rw[b];simp only[Qbq];rw[Qhq l,c];rfl,q⟩
def MP{i j:Int}{Q:D->Prop}(h:GQ i j)(q:Q (.int (i^j.toNat))):Op (EZ S (.int i) (.int j)) Q:=⟨_,by simp only[EZ,intD];rw[Qhq h],q⟩
end
theorem zE:∀n:Nat,Ko (List.replicate n (.bl true))=some (List.replicate n true)
 |0=>rfl
 |n+1=>by simp only[QNq,Ko];rw[zE n];rfl
end DL
namespace W28
open PySem PySem.Spec L2 DL
section
variable{S S0:aF}{Q:Res->aF->Prop}
def D0(l:List Nat):l.map mJ=(l.map λh:Nat=>(h:Int)).map D.int:=by rw[QPq];rfl
def ur{l:List Nat}:∀d∈l.map mJ,(∀k,d≠.ref k)/\cb 0 d=true:=λd b=>by
 obtain⟨a,_,rfl⟩:=Qkq.mp b
 exact⟨λk z=>(nomatch z),rfl⟩
end
end W28
namespace DL
open PySem PySem.Spec L2
def FS{S:aF}{k:Nat}{ds:List D}{Q:List D×Tag->Prop}(a:S[k]?=some (.frz ds))(q:Q (ds,.fz k)):Op (qX S (.ref k)) Q:=⟨_,by simp only[qX,a],q⟩
def Me{S:aF}{k:Nat}{ds:List D}{i:Int}{d:D}{Q:D->Prop}(a:S[k]?=some (.frz ds))(h:jU ds i=some d)(q:Q d):Op (jr S (.ref k) (.int i)) Q:=⟨_,by simp only[jr,a];exact h,q⟩
def E1{b:Bool}{Q:D->Prop}(q:Q (.int (if b then 1 else 0))):Op (intOfD [.bl b]) Q:=⟨_,rfl,q⟩
def F_{j:Nat}{n:Nat}{d:D}(h:(ia 0 (j:Int))[n]?=some d):d=.int n/\n<j:=by
 have hl:n<j:=by
  have:=(gQs.mp h).1
  unfold ia at this
  simpa using this
 unfold ia at h
 rw[gQm,List.getElem?_range (by simpa using hl)] at h
 cases h
 exact⟨by simp,hl⟩
end DL
namespace W28
open PySem PySem.Spec L2 DL
end W28
namespace DL
open PySem PySem.Spec L2
def NR{n:Nat}{b:cX}{ds:List D}{S:aF}{Q:Res->aF->Prop} (h:T b (ds.map some++List.replicate (n-ds.length) none) S λo=>match o with
   |.nx _ a=>Q (.d .non) a|.rt d a=>Q (.d d) a|.rl l a=>Q (.l l) a|_=>False):Fn (Lg n b) ds S Q:=by
 obtain⟨o,c,q⟩:=h
 cases o with
 |nx e a=>exact⟨_,_,by unfold Lg;rw[c];rfl,q⟩
 |rt d a=>exact⟨_,_,by unfold Lg;rw[c];rfl,q⟩
 |rl d a=>exact⟨_,_,by unfold Lg;rw[c];rfl,q⟩
 |_=>exact q.elim
end DL
namespace W28
open PySem PySem.Spec L2 DL
section
variable{S S0:aF}{Q:Res->aF->Prop}
def Ip{ns:List Int}{k:Nat}(i:S[0]?=some (.frz (ns.map D.int)))(q:∀a b:Int,Q (.l [.int a,.int b,.int 0]) S):Fn kE [.ref 0,.int k] S Q:=by
 refine cg ?_
 unfold m7
 have f:∀e:Int,T (GT (bt (au (aW pR (aw 2) (A_ intOfD (au (aW N6 (aw 2) (aW EZ (cF (.int 10)) (cF (.int 18)))) ax))) (au (aW oU (aW bU (aW bU (aW oU (aw 2) (cF (.int 2305843009213693951))) (aW pR (cF (.int 7919)) (aw 1))) (cF (.int 3))) (cF (.int 2305843009213693951))) (au (cF (.int 0)) ax)))))
   [some (.ref 0),some (.int k),some (.int e)] S (λo=>match o with
   |.nx _ g=>Op (settle S .non g) λp=>Q p.1 p.2|.rt d g=>Op (settle S d g) λp=>Q p.1 p.2|.rl l g=>Op (eB S l g) λp=>Q p.1 p.2|_=>False):=by
  intro e
  symm
  refine MP ⟨by decide,by decide,by decide⟩ ?_
  generalize (10:Int)^(18:Int).toNat=c2
  symm
  refine E1 ?_
  have h:Ik e (if decide (c2<=e)=true then 1 else 0):=by
   right
   split <;>decide
  generalize (if decide (c2<=e)=true then(1:Int) else 0)=c3 at h⊢
  apply pT h ?_
  apply pd (by decide) ?_
  apply pT (.inl ⟨by decide,by decide⟩) ?_
  apply pd (by decide) ?_
  refine⟨by show 3<=_;decide,?_⟩
  exact FM rfl (q _ _)
 symm
 apply FS i ?_
 rw[lQm]
 by_cases c:(k:Int)<ns.length
 ·rw[Qeq c,Qhq rfl]
  have j:k<ns.length:=by omega
  symm
  refine Me i (aY (x:=.int ns[k]) (by rw[gQm,gQe j];rfl)) ?_
  exact f _
 ·rw[Qdq c,Quq (by decide)]
  refine cy ?_
  exact f 0
theorem map_inj{α:Type}{f:α->D}(c:∀a b,f a=f b->a=b):∀{l m:List α},l.map f=m.map f->l=m
 | [],[],_=>rfl
 | [],_::_,h=>by cases h
 |_::_,[],h=>by cases h
 | a::l,b::m,h=>by
   simp only[QDq,List.cons.injEq] at h
   rw[c a b h.1,map_inj c h.2]
def Ig(a b:Int)(h:D.int a=D.int b):a=b:=D.int.inj h
def jL(a b:List Int)(h:bJ a=bJ b):a=b:=map_inj Ig (D.tup.inj h)
def Fp(a b:Int×Int)(h:pairD a=pairD b):a=b:=by
 obtain⟨d,f⟩:=a
 obtain⟨c,e⟩:=b
 simp only[pairD,D.tup.injEq,List.cons.injEq,D.int.injEq,and_true] at h
 rw[h.1,h.2]
def Fd(a b:List (Int×Int))(h:bV a=bV b):a=b:=map_inj Fp (D.tup.inj h)
def Ib(a b:cE)(h:a.d=b.d):a=b:=by
 obtain⟨o,r,m,n,l⟩:=a
 obtain⟨k,p,s,j,q⟩:=b
 simp only[cE.d,D.tup.injEq,List.cons.injEq,D.int.injEq,and_true] at h
 obtain⟨g,e,i,f,c⟩:=h
 subst g e i f c
 rfl
def IS(a b:cT)(h:a.d=b.d):a=b:=by
 obtain⟨o,r,m,n,l⟩:=a
 obtain⟨k,p,s,j,q⟩:=b
 simp only[cT.d,D.tup.injEq,List.cons.injEq,D.int.injEq,and_true] at h
 obtain⟨g,e,i,f,c⟩:=h
 rw[jL _ _ g,e,jL _ _ i,jL _ _ f,map_inj Fd c]
def JP(a b:Int×List Int)(h:vO a=vO b):a=b:=by
 obtain⟨d,f⟩:=a
 obtain⟨c,e⟩:=b
 simp only[vO,D.tup.injEq,List.cons.injEq,D.int.injEq,and_true] at h
 rw[h.1,jL _ _ h.2]
def JK(a b:List Int×List cE)(h:A7 a=A7 b):a=b:=by
 obtain⟨d,f⟩:=a
 obtain⟨c,e⟩:=b
 simp only[A7,D.tup.injEq,List.cons.injEq,and_true] at h
 rw[jL _ _ h.1,map_inj Ib h.2]
def Hm(a b:bB)(h:a.d=b.d):a=b:=by
 obtain⟨m,o,k,l⟩:=a
 obtain⟨j,n,p,i⟩:=b
 simp only[bB.d,D.tup.injEq,List.cons.injEq,and_true] at h
 obtain⟨f,c,g,e⟩:=h
 rw[map_inj IS f,map_inj JP c,jL _ _ g,map_inj JK e]
def Eo{w:dD}{s c f:bB}{h:Nat}{g j:Option Int}(a:pM w s h c g)(b:pM w s h f j):c=f:=by
 obtain⟨r,m,l,k⟩:=a [] (λr _=>r=.d (GS c h g)) rfl
 obtain⟨o,n,i,e⟩:=b [] (λr _=>r=.d (GS f h j)) rfl
 rw[l] at i
 cases i
 rw[k] at e
 simp only[Res.d.injEq,GS,D.tup.injEq,List.cons.injEq] at e
 exact Hm _ _ e.1
def Good(w:dD)(s:bB):Prop:=∃m,m<=61/\cR w m s/\rN w s
structure Lk(w:dD)(a:bB)(g:Nat)(b:bB):Prop where
 ga:Good w a
 gb:Good w b
 rl:Rl w a g b
 nh:(g:Int)∉held a
def yL{α:Type}{l m:List α}{i:Nat}{a:α}(h:l[i]?=some a):(l++m)[i]?=some a:=by
 rw[QHq (gQs.mp h).1]
 exact h
def IQ{w:dD}{s:bB}{n:Nat}(o:gF w)(x:cR w n s):(oM w s).length<=4:=by
 have a:=List.length_filter_le (λh:Nat=> !decide ((h:Int)∈held s)&& !vD w s h) (List.range s.af.length)
 have b:=x.lh
 have c:=o.l4
 rw[QVq] at a
 unfold oM
 omega
structure Wv(w:dD)(a b:Nat)(S':aF)(s:bB)(hs:List Nat)(ss:List bB):Prop where
 ha:S'[a]?=some (.lst (hs.map mJ))
 hb:S'[b]?=some (.lst (ss.map bB.d))
 l1:hs.length<=60
 l2:ss.length=hs.length+1
 iv:cR w (1+hs.length) s
 q2:rN w s
 ls:ss[hs.length]?=some s
 lk:∀(i g:Nat),hs[i]?=some g->∃a b,ss[i]?=some a/\ss[i+1]?=some b/\Lk w a g b
def Fw{w:dD}{k n:Nat}(o:gF w)(x:Ex k n S0 S)(hn:n<999000000)
  (h:∀(u:List Nat) (ss:List bB) (r:Nat) (H:aF),Ex k (n+100) S H->H[r]?=some (.lst (ss.map bB.d))->ss.length<=61->u.length<=60->(∀(i g:Nat),u[i]?=some g->∃a b,ss[i]?=some a/\ss[i+1]?=some b/\Lk w a g b)->Q (.d (.tup [.tup (u.map mJ),.ref r])) H):Fn i8 [.ref k,w.d,.int 60] S Q:=by
 have kl:=x.lt
 refine NR ?_
 unfold rV
 refine bC (JH ?_)
 show E _ _ _ _
 symm
 apply Am o ?_
 apply⟨by decide,?_⟩
 apply Am o ?_
 refine⟨by show 1<=_;decide,?_⟩
 symm
 refine⟨_,_,_,rfl,?_⟩
 have e0:Ex k n S (S++ [O.lst []]++ [O.lst [(bL w).d]]):=x.here.app.app
 have b1:(S++ [O.lst []]).length=S.length+1:=by simp
 rw[b1]
 have w0:Wv w S.length (S.length+1) (S++ [O.lst []]++ [O.lst [(bL w).d]]) (bL w) [] [bL w]:=⟨aM aL,by rw[←b1];exact aL,by simp,rfl,Ey o,rN.begun o,rfl,λi g hg=>by simp at hg⟩
 have na:S.length≠k:=by omega
 have nb:S.length+1≠k:=by omega
 generalize (S++ [O.lst []]++ [O.lst [(bL w).d]])=S1 at e0 w0⊢
 generalize ea:S.length=a at w0 na⊢
 rw[ea] at nb
 apply bC (hU ?_)
 apply bI e0 (by omega) (by decide) (by decide) λv S2 hv e2 a5 l2=> ?_
 refine⟨_,rfl,⟨by omega,by omega⟩,?_⟩
 have F:∀{n':Nat} {B S4:aF} {s u ss},Wv w a (a+1) B s u ss->Ex k n' B S4->Wv w a (a+1) S4 s u ss:=λl e=>⟨e.keep _ _ na l.ha,e.keep _ _ nb l.hb,l.l1,l.l2,l.iv,l.q2,l.ls,l.lk⟩
 have J:∀{B G:aF} {s u ss},Wv w a (a+1) B s u ss->Wv w a (a+1) (B++G) s u ss:=λl=>⟨aM l.ha,aM l.hb,l.l1,l.l2,l.iv,l.q2,l.ls,l.lk⟩
 refine⟨λj y H=>∃(o6 o7 o8 Z:Option D) (s:bB) (u:List Nat) (ss:List bB),y= [some (.ref k),some w.d,some (.int 60),some s.d,some (.ref a),some (.ref (a+1)),o6,o7,o8,Z]/\j<=24/\Ex k (n+1+3*j) S H/\Wv w a (a+1) H s u ss,⟨_,_,_,_,bL w,[],[bL w],rfl,by omega,e2,F w0 a5⟩,λ_ _ _ _=>trivial,?_,?_⟩
 ·rintro j d y B P ⟨o6,o7,o8,Z,s,u,ss,rfl,hj24,e3,l⟩
  have hj:j<24:=by
   have:=(gQs.mp P).1
   simp only[ia,lQm,QVq] at this
   omega
  have b6:=l.l1
  have hm:=l.iv.mays o (by omega)
  have ml:=IQ o l.iv
  apply a_ ?_
  apply hm _ _ ?_
  refine bG aL ?_
  refine⟨⟨rfl,aL⟩,?_⟩
  dsimp only
  refine aV (λc=> ?_) (λc=> ?_)
  ·have X:0<((oM w s).map mJ).length:=by
    cases hc:(oM w s).map mJ with
    |nil=>rw[hc] at c;cases c
    |cons a b=>simp
   symm
   refine eP (e3.app (G:= [O.lst ((oM w s).map mJ)])) (by omega) (by have:=e3.lt;omega) aL X (by simp;omega) (λd P=>(ur d P).1) (λd P=>dk (ur d P).2) λv3 S4 a3 e4 b3 l4=> ?_
   obtain⟨g,hg,rfl⟩:=Qkq.mp a3
   have a2:=F (J (G:= [O.lst ((oM w s).map mJ)]) l) b3
   symm
   apply hU ?_
   apply⟨by decide,?_⟩
   refine bI (e4.app (G:= [O.lst [.int 2,.int 6]])) (by omega) (by decide) (by decide) λv5 S5 c0 e5 W l5=> ?_
   dsimp only
   obtain⟨m,b5,b7,a7⟩:∃m:Nat,m<=6/\0<m/\jU ([.int 2,.int 6]:List D) (v5:Int)=some (.int m):=by
    rcases v5 with _|_|v
    ·exact⟨2,by omega,by omega,rfl⟩
    ·exact⟨6,by omega,by omega,rfl⟩
    ·omega
   refine dr (W.keep _ _ (by have:=e4.lt;omega) aL) a7 ?_
   symm
   have a1:=F (J (G:= [O.lst [.int 2,.int 6]]) a2) W
   apply bI e5 (by omega) (by omega) (by omega) λv6 S6 b4 e6 b2 l6=> ?_
   have a6:=F a1 b2
   refine⟨_,rfl,⟨by omega,by omega⟩,?_⟩
   refine⟨λi y H=>∃(p9:Option D) (s:bB) (u:List Nat) (ss:List bB),y= [some (.ref k),some w.d,some (.int 60),some s.d,some (.ref a),some (.ref (a+1)),some d,some (.ref B.length),some (mJ g),p9]/\Ex k (n+1+3*(j+1)) S H/\Wv w a (a+1) H s u ss,⟨_,s,u,ss,rfl,e6.mono (by omega),a6⟩,λ_ _ _ _=>trivial,?_,?_⟩
   ·rintro i d2 y S7 b8 ⟨p9,C,t,A,rfl,e7,wv7⟩
    have b9:=wv7.l1
    have Y:=wv7.iv.mays o (by omega)
    refine a_ ?_
    refine dZ (mf (b_ (cc (Au (dt (aK rfl (bG wv7.ha ?_)))))))
    refine aK rfl (nF ?_)
    dsimp only
    refine aV (λc1=> ?_) (λc1=> ?_)
    ·have c3:t.length<60:=by
      have:=QZq c1
      simp only[lQm] at this
      omega
     apply b_ (IJ ?_)
     apply Y _ _ ?_
     refine⟨_,_,rfl,by rw[D0];exact kd _,?_⟩
     rw[xF]
     show if decide ((g:Int)∈(oM w C).map λh:Nat=>(h:Int))=true then _ else _
     refine aV (λc2=> ?_) (λc2=> ?_)
     ·have L:g∈oM w C:=by
       obtain⟨q,hq,e⟩:=Qkq.mp (QZq c2)
       have:q=g:=by omega
       rw[←this]
       exact hq
      have a4:g<C.af.length:=List.mem_range.mp (List.mem_filter.mp L).1
      obtain⟨⟨vs,fs⟩,K⟩:∃p,C.af[g]?=some p:=⟨_,gQe a4⟩
      obtain⟨ts,pr,hw,hi⟩:=wv7.iv.whand K
      obtain⟨f,hf,fi⟩:=hi.last
      obtain⟨s',e,M,N,U⟩:=Il o wv7.iv wv7.q2 (by omega) L K hf
      obtain⟨s2,e2,R,_,a0,_⟩:=Hz o wv7.iv (by omega) L K hf
      have es:=Eo M R
      subst es
      have nh:(g:Int)∉held C:=by
       have:=(List.mem_filter.mp L).2
       simp only[QCq,Bool.not_eq_true',decide_eq_false_iff_not] at this
       exact this.1
      symm
      apply BP Y L M ?_
      apply ay (d:=s'.d) rfl ?_
      apply jA ?_
      apply⟨_,_,rfl,wv7.ha,?_⟩
      refine⟨_,wv7.ha,dR (bp (by simp only[lQm];omega)) ?_⟩
      dsimp only
      apply iZ (jA ?_)
      have I:=gX (k:=a) (o':=.lst (t.map mJ++ [mJ g])) (show a+1≠a by omega) wv7.hb
      apply⟨_,_,rfl,I,?_⟩
      have l2:=wv7.l2
      refine⟨_,I,dR (bp (by simp only[lQm];omega)) ?_⟩
      refine⟨_,s',t++ [g],A++ [s'],rfl,(e7.put (by omega) kl).put (by omega) kl,?_⟩
      refine⟨?_,?_,by simp;omega,by simp;omega,?_,U,?_,λi g' z=> ?_⟩
      ·rw[gX (show a≠a+1 by omega) (cM wv7.ha)]
       simp
      ·rw[cM I]
       simp
      ·rw[lQa]
       exact N.mono (by simp;omega)
      ·rw[lQa,QQq (by simp;omega)]
       simp[l2]
      ·have l7:=wv7.l2
       by_cases ci:i<t.length
       ·rw[QHq ci] at z
        obtain⟨sa,sb,ea,eb,lk⟩:=wv7.lk i g' z
        exact⟨sa,sb,yL ea,yL eb,lk⟩
       ·have b0:i=t.length:=by
         have:=(gQs.mp z).1
         simp at this
         omega
        subst b0
        rw[QQq (Qmq _)] at z
        simp at z
        subst z
        refine⟨_,_,yL wv7.ls,?_,⟨⟨_,by omega,wv7.iv,wv7.q2⟩,⟨_,by omega,N,U⟩,a0,nh⟩⟩
        rw[←l7,QQq (Qmq _)]
        simp
     ·refine cy ?_
      exact⟨_,C,t,A,rfl,e7,wv7⟩
    ·rw[Quq (by decide)]
     refine cy ?_
     exact⟨_,C,t,A,rfl,e7,wv7⟩
   ·rintro y S7 ⟨p9,C,t,A,rfl,e7,wv7⟩
    exact⟨_,_,_,_,C,t,A,rfl,by omega,e7,wv7⟩
  ·refine cy ?_
   exact⟨_,_,_,_,s,u,ss,rfl,by omega,e3.app.mono (by omega),J l⟩
 ·rintro y B ⟨o6,o7,o8,Z,s,u,ss,rfl,hj24,e3,l⟩
  symm
  refine bG l.ha ?_
  apply⟨rfl,?_⟩
  refine⟨by show 2<=_;decide,?_⟩
  have hj:(ia 0 (1+(v:Int))).length<=24:=by simp only[ia,lQm,QVq];omega
  have l1:=l.l1
  have l2:=l.l2
  exact h u ss (a+1) B (e3.mono (by omega)) l.hb (by omega) l1 l.lk
end
end W28
namespace DL
open PySem PySem.Spec L2
theorem zip_map{α a:Type}(f:α->D)(g:a->D):∀(xs:List α) (ys:List a),z_ (xs.map f) (ys.map g)=(xs.zip ys).map λp=>D.tup [f p.1,g p.2]
 | [],_=>rfl
 |_::_,[]=>rfl
 | x::xs,y::ys=>by
   have:=zip_map f g xs ys
   simp only[z_,QDq,List.zipWith_cons_cons,List.zip_cons_cons] at this⊢
   rw[this]
end DL
namespace W28
open PySem PySem.Spec L2 DL
end W28
namespace DL
open PySem PySem.Spec L2
def LF{α:Type}(xs:List α):gI xs (some 1) none=xs.drop 1:=by
 cases xs with
 |nil=>rfl
 |cons a l=>exact gH (i:=1) (by simp)
section
variable{Γ:cN}{S:aF}
def Jb{a:Bool}{f:bE}{g:dF}{Q:D->aF->Prop}(h:E f Γ S λx b=>E g Γ b λp S2=>∃v vs,iC x=some v/\iJ p.1=some vs/\v.depth<=60/\Q (.bl (if a then !vs.any (PyData.eqv · v) else vs.any (PyData.eqv · v))) S2):E (Le a f g) Γ S Q:=by
 obtain⟨x,b,e,p,S2,j,v,vs,d,c,i,q⟩:=h
 exact⟨_,S2,by unfold Le;rw[e];simp only[Qbq];rw[j];simp only[Qbq];rw[d,c];simp only[Qbq];rw[Qhq i],q⟩
def mV{a:Bool}{x y:D}{p r:PyData}{Q:D->Prop}(c:iC x=some p)(b:iC y=some r)(d:p.depth<=60)(q:Q (.bl (if a then !PyData.eqv p r else PyData.eqv p r))):Op (pk a S x y) Q:=⟨_,by unfold pk;rw[c,b];simp only[Qbq];rw[Qhq d],q⟩
def vi{a:Bool}{i j:Int}{Q:D->Prop}(q:Q (.bl (if a then !decide (i=j) else decide (i=j)))):Op (pk a S (.int i) (.int j)) Q:=mV (p:=.int i) (r:=.int j) rfl rfl (by simp[PyData.depth]) (by
 have:PyData.eqv (.int i) (.int j)=decide (i=j):=by simp[PyData.eqv,BEq.beq]
 rw[this];exact q)
def ya{b:Bool}{f g:dF}{Q:D->aF->Prop}(h:E f Γ S λp c=>E g Γ c λr S2=>(p.2.isL=true/\r.2.isL=true/\p.2.stays S2 p.1)/\∃a vs,iJ p.1=some a/\iJ r.1=some vs/\(PyData.list a).depth<=60/\Q (.bl (if b then !PyData.eqvAll a vs else PyData.eqvAll a vs)) S2):E (yz b f g) Γ S Q:=by
 obtain⟨p,c,i,r,S2,l,j,a,vs,e,d,k,q⟩:=h
 exact⟨_,S2,by unfold yz;rw[i];simp only[Qbq];rw[l];simp only[Qbq];rw[Qhq j,e,d];simp only[Qbq];rw[Qhq k],q⟩
def Cp{f g h:dF}{Q:(List D×(aF->Prop))->aF->Prop}(w:E f Γ S λp b=>E g Γ b λr S2=>E h Γ S2 λu a=>((p.2.isL=false/\r.2.isL=false/\u.2.isL=false)/\p.2.stays S2 p.1/\p.2.stays a p.1/\r.2.stays a r.1/\p.1.length<=r.1.length/\p.1.length<=u.1.length)/\Q (kP p.1 r.1 u.1,λS=>p.2.stays S p.1/\r.2.stays S r.1/\u.2.stays S u.1) a):E (zY f g h) Γ S Q:=by
 obtain⟨p,b,d,r,S2,i,u,a,c,e,q⟩:=w
 exact⟨_,a,by unfold zY;rw[d];simp only[Qbq];rw[i];simp only[Qbq];rw[c];simp only[Qbq];rw[Qhq e],q⟩
end
def C5{b:cN}{S:aF}{f:dF}{Q:List D->aF->Prop}(h:E f b S λp a=>Q p.1 a):E (A2 f) b S Q:=by
 obtain⟨p,a,c,q⟩:=h
 exact⟨_,a,by unfold A2;rw[c];rfl,q⟩
def Jd{b:cN}{S:aF}{f g:bE}{Q:D->aF->Prop}(h:E f b S λd a=>∃k,d=.bl k/\if k=true then Q (.bl true) a else E g b a Q):E (Jl f g) b S Q:=by
 obtain⟨d,a,c,k,rfl,q⟩:=h
 cases k with
 |true=>exact⟨_,a,by unfold Jl;rw[c];rfl,q⟩
 |false=>obtain⟨j,e,i,q⟩:=(q:E g b a Q);exact⟨j,e,by unfold Jl;rw[c];exact i,q⟩
def FU{α:Type}(xs:List α):gI xs (some (-1)) none=xs.drop (xs.length-1):=by
 unfold gI
 rw[HT.lP]
 have e:HT.eX xs.length 0 (some (-1))=xs.length-1:=by
  simp only[HT.eX]
  rw[Qhq (by omega)]
  omega
 rw[e,List.take_of_length_le]
 simp
section
variable{α:Type}[DecidableEq α]{f:α->PyData}(hf:∀a b,PyData.eqv (f a) (f b)=decide (a=b))
include hf
theorem kF:∀{l m:List α},PyData.eqvAll (l.map f) (m.map f)=decide (l=m)
 | [],[]=>by simp[PyData.eqvAll]
 | [],_::_=>by simp[PyData.eqvAll]
 |_::_,[]=>by simp[PyData.eqvAll]
 | x::a,y::b=>by
   have:=kF (l:=a) (m:=b)
   simp only[QDq,PyData.eqvAll,this,hf]
   by_cases c:x=y
   · subst c;simp
   · simp[c]
theorem any_map{x:α}:∀{l:List α},(l.map f).any (PyData.eqv · (f x))=decide (x∈l)
 | []=>by simp
 | y::l=>by
   have:=any_map (x:=x) (l:=l)
   rw[QDq,List.any_cons,this,hf]
   by_cases c:x=y
   · subst c;simp
   · simp[c,Ne.symm c]
end
theorem ph{α:Type}{f:α->PyData}{n:Nat}(b:∀a,(f a).depth<=n):∀l:List α,PyData.depthAll (l.map f)<=n
 | []=>Nat.zero_le _
 | x::l=>by
   have:=ph b l
   have:=b x
   simp only[QDq,PyData.depthAll]
   omega
def y7(a b:Int):PyData.eqv (.int a) (.int b)=decide (a=b):=by simp[PyData.eqv,BEq.beq]
def MB(l:List Int):PyData:=.tuple (l.map PyData.int)
def xP(p:Int×Int):PyData:=.tuple [.int p.1,.int p.2]
def vI(l:List (Int×Int)):PyData:=.tuple (l.map xP)
def Fc(a b:List Int):PyData.eqv (MB a) (MB b)=decide (a=b):=by
 show PyData.eqvAll _ _=_
 exact kF y7
def xS(a b:Int×Int):PyData.eqv (xP a) (xP b)=decide (a=b):=by
 show PyData.eqvAll ([a.1,a.2].map PyData.int) ([b.1,b.2].map PyData.int)=_
 rw[kF y7]
 obtain⟨d,f⟩:=a
 obtain⟨c,e⟩:=b
 simp
def tU(a b:List (Int×Int)):PyData.eqv (vI a) (vI b)=decide (a=b):=by
 show PyData.eqvAll _ _=_
 exact kF xS
def Gj(l:List Int):(MB l).depth<=60:=by
 have:=ph (f:=PyData.int) (n:=0) (λa=>by simp[PyData.depth]) l
 simp only[MB,PyData.depth]
 omega
def BD(p:Int×Int):(xP p).depth<=1:=by simp[xP,PyData.depth,PyData.depthAll]
def Bt(l:List (Int×Int)):(vI l).depth<=2:=by
 have:=ph BD l
 simp only[vI,PyData.depth]
 omega
theorem pA{α:Type}{f:α->D}{g:α->PyData}(h:∀a,iC (f a)=some (g a)):∀l:List α,iJ (l.map f)=some (l.map g)
 | []=>rfl
 | x::l=>by
   simp only[QDq,iJ]
   rw[h x,pA h l]
   rfl
end DL
namespace W28
open PySem PySem.Spec L2 DL
def D6(l:List Int):iC (bJ l)=some (MB l):=by
 unfold bJ
 simp only[iC]
 rw[pA (g:=PyData.int) (λa=>rfl)]
 rfl
def CY(p:Int×Int):iC (pairD p)=some (xP p):=rfl
def oK(l:List (Int×Int)):iC (bV l)=some (vI l):=by
 unfold bV
 simp only[iC]
 rw[pA CY]
 rfl
section
variable{S:aF}{Q:Res->aF->Prop}{h:Int}
def nM(a b:List Int)(c:Nat):Prop:=b.take (a.drop c).length=a.drop c/\b.length<=(a.drop c).length+1
instance(a b:List Int)(c:Nat):Decidable (nM a b c):=by unfold nM;infer_instance
def fits{a b:List Int}(c:u7 h a b):nM a b 0\/nM a b 1:=by
 unfold nM
 rcases c with rfl|rfl|rfl|rfl
 ·exact .inl ⟨QEq,by simp⟩
 ·exact .inr ⟨QEq,by omega⟩
 ·exact .inl ⟨by simp,by simp⟩
 ·exact .inr ⟨List.take_left,by simp⟩
def j3{a b:List Int}(r:u7 h a b)(q:Q (.d (.bl true)) S):Fn dh [bJ a,bJ b] S Q:=by
 have p:=fits r
 refine cg ?_
 unfold kQ
 refine bC (hU (oF (dt (zi (bX (fQ (bX (fQ (fF ⟨by show 2<=_;decide,cI ?_⟩)))))))))
 refine⟨λj f l=>(∃c d,f= [some (bJ a),some (bJ b),c,d])/\l=S/\(j=0\/(j=1/\¬nM a b 0)),⟨⟨none,none,rfl⟩,rfl,.inl rfl⟩,λ_ _ _ _=>trivial,?_,?_⟩
 ·rintro j d f l o ⟨⟨c,e,rfl⟩,hS,g⟩
  subst l
  have x:j<2:=(gQs.mp o).1
  obtain rfl:d=.int (j:Int):=by
   rcases j with _|_|j
   ·cases o;rfl
   ·cases o;rfl
   ·omega
  refine a_ ?_
  have t:gI (a.map D.int) (some (j:Int)) none=(a.drop j).map D.int:=by
   rcases j with _|_|j
   ·rw[gH (by omega)];simp
   ·rw[show((0+1:Nat):Int)=1 from rfl,LF];simp
   ·omega
  refine bC (lC (iY (aK rfl (cD (aK rfl ⟨_,rfl,cC ⟨a.map D.int,rfl,?_⟩⟩)))))
  rw[t]
  have w:∀n:Nat,gI (b.map D.int) none (some (n:Int))=(b.take n).map D.int:=λn=>by
   by_cases u:n<=b.length
   ·rw[BF (by simpa using u),List.map_take]
   ·unfold gI
    rw[HT.lP,HT.xU]
    rw[Nat.min_eq_right (by rw[lQm];omega),List.take_of_length_le (show b.length<=n by omega)]
    simp
    rw[List.take_of_length_le (by simp)]
  refine dZ (mf (b_ (cc (iY (aK rfl (cC (cD (Au (dt (aK rfl (cI ⟨_,rfl,b.map D.int,rfl,?_⟩)))))))))))
  rw[w,lQm]
  refine aK rfl (mV (D6 _) (D6 _) (Gj _) ?_)
  show if PyData.eqv _ _=true then _ else _
  rw[Fc]
  have v:∀(R:Bool->aF->Prop),R (decide (b.length<=(a.drop j).length+1)) S->E (aI (aW Lf (hV (a9 (aw 1))) (aW bU (hV (a9 (aw 3))) (cF (.int 1))))) [some (bJ a),some (bJ b),some (.int (j:Int)),some (.tup ((a.drop j).map D.int))] S R:=λR s=>by
   refine b_ (cc (Au (dt (aK rfl (cI (ds:=b.map D.int) (cc (Au (dt (aK rfl (cI (fQ (IY (nF ?_)))))))))))))
   simp only[lQm]
   have e:decide ((b.length:Int)<=((a.drop j).length:Int)+1)=decide (b.length<=(a.drop j).length+1):=by
    apply decide_eq_decide.mpr
    omega
   show R (decide ((b.length:Int)<=((a.drop j).length:Int)+1)) S
   rw[e]
   exact s
  have y:nM a b j↔(b.take (a.drop j).length=a.drop j/\b.length<=(a.drop j).length+1):=Iff.rfl
  by_cases i:b.take (a.drop j).length=a.drop j
  ·rw[Qeq i,Qhq rfl]
   refine v _ ?_
   by_cases m:b.length<=(a.drop j).length+1
   ·rw[Qeq m,Qhq rfl]
    refine i9 (fQ ?_)
    exact cJ (λk z=>(nomatch z)) rfl q
   ·rw[Qdq m,Quq (by decide)]
    refine cy ⟨⟨_,_,rfl⟩,rfl,?_⟩
    rcases g with rfl|⟨rfl,h0⟩
    ·exact .inr ⟨rfl,λz=>m z.2⟩
    ·exact absurd (p.resolve_left h0).2 m
  ·rw[Qdq i,Quq (by decide),Quq (by decide)]
   refine cy ⟨⟨_,_,rfl⟩,rfl,?_⟩
   rcases g with rfl|⟨rfl,h0⟩
   ·exact .inr ⟨rfl,λz=>i z.1⟩
   ·exact absurd (p.resolve_left h0).1 i
 ·rintro f l ⟨_,_,g⟩
  have g:(2:Nat)=0\/((2:Nat)=1/\_):=g
  rcases g with z|⟨z,_⟩ <;>omega
end
theorem Dp{α:Type}[DecidableEq α]{y:α}:∀{xs:List α} {b:Nat} {x:α},xs[b]?=some x->x≠y->(xs.zip (xs.set b y)).filter (λq=> !decide (q.1=q.2))= [(x,y)]
 | [],b,x,h,_=>by simp at h
 | a::xs,0,x,h,hn=>by
   simp at h
   subst h
   simp only[List.set_cons_zero,List.zip_cons_cons]
   rw[List.filter_cons_of_pos (by simpa using hn)]
   congr 1
   refine List.filter_eq_nil_iff.mpr λq c=> ?_
   have:∀(l:List α),∀q∈l.zip l,q.1=q.2:=by
     intro l
     induction l with
     |nil=>intro q c;simp at c
     | cons a l d=>
       intro q c
       rw[List.zip_cons_cons] at c
       rcases Qsq.mp c with rfl|c
       · rfl
       · exact d q c
   simp[this xs q c]
 | a::xs,b+1,x,h,hn=>by
   simp only[List.set_cons_succ,List.zip_cons_cons]
   rw[List.filter_cons_of_neg (by simp)]
   exact Dp (by simpa using h) hn
section
variable{S:aF}{Q:Res->aF->Prop}{h:Int}{r r':cT}{m:Str}
def sI(k:sP m h r r')(W:h∉aU r)(b1:r.row.length<=200)(b3:r.aa.length<=6)(P:r.aa.length=r'.aa.length)(q:Q (.d (.bl true)) S):Fn dW [r.d,r'.d,.int h] S Q:=by
 refine cg ?_
 unfold iS
 refine bC (dZ (Dx (b_ (cc (cc (aK rfl (fQ (ay (d:=.int r.within) rfl (aK rfl (vi ?_))))))))))
 by_cases F:r.within=h
 ·rw[Qeq F]
  refine aV (λc=>by cases c) (λ_=> ?_)
  refine b_ (cc (cc (aK rfl (fQ (ay (d:=.int r'.within) rfl (aK rfl (vi ?_)))))))
  by_cases J:r'.within=h
  ·rw[Qeq J]
   exact aV (λ_=>i9 (fQ (cJ (λk z=>(nomatch z)) rfl q))) (λc=>by cases c)
  ·rw[Qdq J]
   refine aV (λc=>by cases c) (λ_=>cy ?_)
   have i:∀l:List (List (Int×Int)),iC (.tup (l.map bV))=some (.tuple (l.map vI)):=λl=>by
    simp only[iC]
    rw[pA oK]
    rfl
   have t:(PyData.tuple (r.aa.map vI)).depth<=60:=by
    have:=ph Bt r.aa
    simp only[PyData.depth]
    omega
   have C:PyData.eqv (.tuple (r.aa.map vI)) (.tuple (r'.aa.map vI))=decide (r.aa=r'.aa):=by
    show PyData.eqvAll _ _=_
    exact kF tU
   have L:∀(R:Bool->aF->Prop),R (decide (r'.ag.drop (r'.ag.length-1)= [h])) S->E (aI (aW (pk false) (oY (aW jr (aw 1) (cF (.int 3))) (oV (qB (cF (.int 1)))) qd) (a8 (au (aw 2) ax)))) [some r.d,some r'.d,some (.int h),none] S R:=λR N=>by
    refine b_ (cc (iY (cc (aK rfl (fQ (ay (d:=bJ r'.ag) rfl (cD (rZ (fQ ⟨1,rfl,_,rfl,cC ⟨r'.ag.map D.int,rfl,?_⟩⟩)))))))))
    rw[FU,lQm,←List.map_drop]
    refine zi (bX (aK rfl (fF ⟨by show 1<=_;decide,?_⟩)))
    refine mV (x:=bJ _) (y:=bJ [h]) (D6 _) (D6 _) (Gj _) ?_
    show R (PyData.eqv _ _) S
    rw[Fc]
    exact N
   refine bC (dZ (mf (b_ (cc (cc (aK rfl (fQ (ay (d:=.tup (r.aa.map bV)) rfl (cc (aK rfl (fQ (ay (d:=.tup (r'.aa.map bV)) rfl (mV (i _) (i _) t ?_)))))))))))))
   rw[C]
   rcases k.w2 F J with⟨Y,e⟩|⟨b,p,l,H,s,hl,hw⟩
   ·have Z:¬r'.ag.drop (r'.ag.length-1)= [h]:=λz=>by
     have:h∈r'.ag:=List.mem_of_mem_drop (by rw[z];exact Qfq.mpr rfl)
     exact W (mQa.mpr (.inl (mQa.mpr (.inr (Y h this)))))
    have f:T (aH (eS (aI (aW (pk true) (aW jr (aw 0) (cF (.int 3))) (a8 ax))) (cH (aW (pk false) (aW jr (aw 1) (cF (.int 1))) (aW jr (aW jr (aw 0) (cF (.int 3))) (cF (.int 0))))) fV)
      (cH (aW (pk false) (aW jr (aw 1) (cF (.int 1))) (aW jr (bT (sN (gL (A2 (a9 (aW jr (aw 0) (cF (.int 2)))))) (gL (bt (au (qB (cF (.int 1))) ax))))) (cF (.int 0))))))
      [some r.d,some r'.d,some (.int h),none] S λo=>match o with
      |.nx _ u=>Op (settle S .non u) λp=>Q p.1 p.2|.rt d u=>Op (settle S d u) λp=>Q p.1 p.2|.rl l u=>Op (eB S l u) λp=>Q p.1 p.2|_=>False:=by
     refine bC (dZ (b_ (cc (cc (aK rfl (fQ (ay (d:=bJ r.ag) rfl (zi (fF ⟨by decide,mV (y:=bJ []) (D6 _) (D6 _) (Gj _) ?_⟩)))))))))
     rw[Fc]
     by_cases w:r.ag= []
     ·rw[Qeq w]
      refine aV (λc=>by cases c) (λ_=>cy ?_)
      refine i9 (cc (cc (aK rfl (fQ (ay (d:=.int r'.within) rfl ?_)))))
      refine cc (rC (rT (qu (C5 (dt (cc (aK rfl (fQ (ay (d:=bJ r.row) rfl (cI (ds:=r.row.map D.int) ?_))))))))))
      refine qu (pJ (bX (rZ (fQ ⟨1,rfl,fF ⟨by show 1<=_;decide,?_⟩⟩))))
      refine⟨⟨rfl,rfl,trivial,by simp only[lQm];exact QAq (show _<=201 by show _+1<=_;omega) (by decide)⟩,?_⟩
      rw[w] at e
      have e0:r.row.map D.int++ [.int (-1)]=(r.row++ [-1]).map D.int:=by simp
      rw[e0]
      refine fQ (dr aL (d:=.int r'.within) (aY (j:=0) ?_) ?_)
      ·rw[gQm]
       have:(r.row++ [-1])[0]?=some r'.within:=e
       rw[this]
       rfl
      ·refine vi ?_
       rw[Qeq rfl]
       exact wy oA.refl.app (λk z=>(nomatch z)) rfl q
     ·rw[Qdq w]
      refine aV (λ_=> ?_) (λc=>by cases c)
      obtain⟨x,A,v⟩:∃x A,r.ag=x::A:=by
       cases G:r.ag with
       |nil=>exact absurd G w
       |cons x A=>exact⟨x,A,rfl⟩
      rw[v] at e
      have hx:x=r'.within:=QdQ e
      refine i9 (cc (cc (aK rfl (fQ (ay (d:=.int r'.within) rfl ?_)))))
      refine cc (cc (aK rfl (fQ (ay (d:=bJ r.ag) rfl (fQ ?_)))))
      refine ay (d:=.int r'.within) (by rw[v,←hx];exact aY (j:=0) rfl) ?_
      refine vi ?_
      rw[Qeq rfl]
      exact cJ (λk z=>(nomatch z)) rfl q
    by_cases B:r.aa=r'.aa
    ·rw[Qeq B]
     refine aV (λc=>by cases c) (λ_=> ?_)
     exact aV (λc=>by cases c) (λ_=>cy f)
    ·rw[Qdq B]
     refine aV (λ_=>L _ ?_) (λc=>by cases c)
     rw[Qdq Z]
     exact aV (λc=>by cases c) (λ_=>cy f)
   ·have B:¬r.aa=r'.aa:=λz=>by
     have M:r'.aa[b]?=some l:=by rw[s];exact Qyq (gQs.mp H).1
     rw[←z,H] at M
     have:=congrArg List.length (QdQ M)
     simp at this
    rw[Qdq B]
    refine aV (λ_=>L _ ?_) (λc=>by cases c)
    have U:r'.ag.drop (r'.ag.length-1)= [h]:=by
     rw[hl]
     simp
    rw[Qeq U]
    refine aV (λ_=> ?_) (λc=>by cases c)
    refine bC (lC (rC ?_))
    refine ki (α:=List (Int×Int)×List (Int×Int)) (λn=>∃a b,n= [a,b]) (λq=>.tup [bV q.1,bV q.2]) (λq=>.int (q.1.headD (0,0)).2) (λq=> !decide (q.1=q.2)) ⟨none,none,rfl⟩ ?_
    refine BZ (dt (cc (aK rfl (fQ (ay (d:=.tup (r.aa.map bV)) rfl (cI ?_))))))
    refine dt (cc (aK rfl (fQ (ay (d:=.tup (r'.aa.map bV)) rfl (cI ?_)))))
    refine⟨⟨trivial,by simp only[lQm];omega⟩,?_⟩
    have K:(r.aa.zip r'.aa).filter (λq=> !decide (q.1=q.2))= [(p::l,l)]:=by
     rw[s]
     exact Dp H (λz=>by have:=congrArg List.length z;simp at this)
    refine⟨r.aa.zip r'.aa,zip_map ..,⟨trivial,trivial⟩,by rw[List.length_zip];omega,λg X n I=> ?_,?_⟩
    ·obtain⟨a,b',rfl⟩:=I
     refine fm rfl (aC (a_ (aC (a_ (bH ⟨rfl,⟨_,_,rfl⟩,?_⟩)))))
     refine b_ (cc (aK rfl (aK rfl (mV (oK _) (oK _) (QAq (Bt _) (by decide)) ?_))))
     rw[tU]
     refine⟨rfl,rfl,λG=> ?_⟩
     have hm:g∈[(p::l,l)]:=by rw[←K];exact List.mem_filter.mpr ⟨X,G⟩
     rw[Qfq.mp hm]
     refine cc (cc (aK rfl (fQ (ay (d:=pairD p) (aY (j:=0) rfl) (fQ (ay (d:=.int p.2) rfl ⟨rfl,rfl⟩))))))
    rw[K]
    refine i9 (ya (dt (aK rfl (bG aL (qu (pJ (bX (cc (aK rfl (fQ (ay (d:=.int r'.within) rfl (fF ⟨by show 1<=_;decide,?_⟩))))))))))))
    refine⟨⟨rfl,rfl,aL⟩,[p.2].map PyData.int,[r'.within].map PyData.int,rfl,rfl,by simp[PyData.depth,PyData.depthAll],?_⟩
    rw[kF y7,hw]
    have:decide ([p.2]= [p.2])=true:=Qeq rfl
    rw[this]
    exact wy oA.refl.app (λk z=>(nomatch z)) rfl q
 ·rw[Qdq F]
  refine aV (λ_=> ?_) (λc=>by cases c)
  exact aV (λ_=>i9 (fQ (cJ (λk z=>(nomatch z)) rfl q))) (λc=>by cases c)
end
section
variable{S:aF}{Q:Res->aF->Prop}{h:Int}
structure L4(so:Str)(h:Int)(a b:List (Int×Int)):Prop where
 sv:so="row" \/so="turns"
 la:a.length<=200
 lb:b.length<=201
 st:(a.map (·.1)).Pairwise (·<=·)
 rz:so="row" ->(∀p∈a,p.1=0)/\∀p∈b,p.1=0
 nh:h∉a.map (·.2)
 is:kj h a b
def vE{u:Str}{a b:List (Int×Int)}(k:L4 u h a b)(q:Q (.d (.bl true)) S):Fn eO [.str u,bV a,bV b,.int h] S Q:=by
 have la:=k.la
 have lb:=k.lb
 have v:∀l:List (Int×Int),iJ (l.map pairD)=some (l.map xP):=λl=>pA CY l
 have w:∀l:List (Int×Int),(PyData.list (l.map xP)).depth<=60:=λl=>by
  have:=ph BD l
  simp only[PyData.depth]
  omega
 have H:∀p,(xP p).depth<=60:=λp=>QAq (BD p) (by decide)
 have F:∀l,(vI l).depth<=60:=λl=>QAq (Bt l) (by decide)
 refine cg ?_
 unfold jJ
 refine bC (lC (rC ?_))
 refine ki (α:=Int×Int) (λm=>∃o,m= [o,some (bV a)]) pairD pairD (λp=> !decide (p∈a)) ⟨none,rfl⟩ ?_
 refine oF (dt (aK rfl (cI (ds:=b.map pairD) ?_)))
 refine⟨b,rfl,trivial,by omega,λp f m x=> ?_,?_⟩
 ·obtain⟨o,rfl⟩:=x
  refine a_ ⟨rfl,⟨_,rfl⟩,?_⟩
  refine b_ (Jb (aK rfl (dt (aK rfl (cI (ds:=a.map pairD) ⟨_,_,CY p,v a,H p,?_⟩)))))
  rw[any_map xS]
  exact⟨rfl,by simp,λ_=>aK rfl ⟨rfl,rfl⟩⟩
 have n:∀(g:cX) (R:Out->Prop),(∀G,oA S G->R (.rt (.bl true) G))->b.filter (λp=> !decide (p∈a))= []->(b=a\/b=a.drop 1\/b= [])->T (aH (eS (aI (yz false (a9 (aw 4)) (gL (bt ax)))) (cH (Jl (aW (pk false) (aw 2) (aw 1)) (Jl (aW (pk false) (aw 2) (oY (aw 1) (oV (cF (.int 1))) qd)) (aW (pk false) (aw 2) (a8 ax))))) fV) g) [some (.str u),some (bV a),some (bV b),some (.int h),some (.ref S.length),none,none] (S++ [O.lst ((b.filter λp=> !decide (p∈a)).map pairD)]) R:=by
  intro g R s M hb
  refine bC (dZ (b_ (ya (dt (aK rfl (bG aL (qu (pJ (fF ⟨by decide,⟨rfl,rfl,aL⟩,_,_,v _,rfl,w _,?_⟩)))))))))
  rw[M]
  refine aV (λ_=> ?_) (λc=>by cases c)
  refine i9 (Jd (cc (aK rfl (aK rfl (mV (oK _) (oK _) (F _) ⟨_,rfl,?_⟩)))))
  rw[tU]
  refine aV (λ_=>s _ oA.refl.app) (λN=> ?_)
  have n1:¬b=a:=λz=>by rw[z] at N;simp at N
  have cd:D.tup (gI (a.map pairD) (some 1) none)=bV (a.drop 1):=by unfold bV;rw[LF,List.map_drop]
  refine Jd (cc (aK rfl (iY (aK rfl (cD (fQ ⟨1,rfl,cC ⟨a.map pairD,rfl,?_⟩⟩))))))
  rw[cd]
  refine mV (oK _) (oK _) (F _) ⟨_,rfl,?_⟩
  rw[tU]
  refine aV (λ_=>s _ oA.refl.app) (λZ=> ?_)
  have n2:¬b=a.drop 1:=λz=>by rw[←z] at Z;simp at Z
  have b0:b= []:=(hb.resolve_left n1).resolve_left n2
  refine cc (aK rfl (zi (fF ⟨by decide,mV (y:=bV []) (oK _) (oK _) (F _) ?_⟩)))
  rw[tU,b0]
  exact s _ oA.refl.app
 have s:∀G:aF,oA S G->Op (settle S (.bl true) G) λp=>Q p.1 p.2:=λG z=>wy z (λk z=>(nomatch z)) rfl q
 rcases k.is with e|e|e|⟨t,e⟩
 ·exact n _ _ s (List.filter_eq_nil_iff.mpr λp f=>by rw[e] at f;simp[f]) (.inl e)
 ·exact n _ _ s (List.filter_eq_nil_iff.mpr λp f=>by rw[e] at f;simp[List.mem_of_mem_drop f]) (.inr (.inl e))
 ·exact n _ _ s (by rw[e];rfl) (.inr (.inr e))
 ·
  obtain⟨K,I⟩:=oh (t:=t) k.st
  unfold kB at e
  generalize (a.filter λp=>decide (p.1<=t)).length=i at e K I
  have C:a=a.take i++a.drop i:=(List.take_append_drop i a).symm
  generalize a.take i=A at e K C
  generalize a.drop i=B at e I C
  have nt:(t,h)∉a:=λz=>k.nh (Qkq.mpr ⟨_,z,rfl⟩)
  have X:∀l:List (Int×Int),(∀p∈l,p∈a)->l.filter (λp=> !decide (p∈a))= []:=λl hl=>List.filter_eq_nil_iff.mpr λp f=>by simp[hl p f]
  have mA:∀p∈A,p∈a:=λp f=>by rw[C];exact List.mem_append_left _ f
  have Y:∀p∈B,p∈a:=λp f=>by rw[C];exact Qoq _ f
  have M:b.filter (λp=> !decide (p∈a))= [(t,h)]:=by
   rw[e,List.filter_append,List.filter_append,X A mA,X B Y,List.filter_cons_of_pos (by simp[nt])]
   rfl
  rw[M]
  refine bC (dZ (b_ (ya (dt (aK rfl (bG aL (qu (pJ (fF ⟨by decide,⟨rfl,rfl,aL⟩,_,_,v _,rfl,w _,?_⟩)))))))))
  refine aV (λc=>by simp[PyData.eqvAll] at c) (λ_=>cy ?_)
  refine bC (dZ (Dx (b_ (cc (Au (dt (aK rfl (bG aL (fQ (nF ?_))))))))))
  refine aV (λc=>by simp at c) (λ_=> ?_)
  refine b_ (cc (cc (cc (aK rfl (fQ (dr aL (d:=pairD (t,h)) (aY (j:=0) rfl) (fQ (ay (d:=.int h) rfl (aK rfl (vi ?_))))))))))
  rw[Qeq rfl]
  refine aV (λc=>by cases c) (λ_=>cy ?_)
  refine bC (lC (cc (cc (aK rfl (fQ (dr aL (d:=pairD (t,h)) (aY (j:=0) rfl) (fQ (ay (d:=.int t) rfl ?_))))))))
  refine bC (lC (rC ?_))
  have tB:u="row" ->B= []:=λz=>by
   obtain⟨z1,z2⟩:=k.rz z
   have t0:t=0:=z2 (t,h) (by rw[e];simp)
   cases P:B with
   |nil=>rfl
   | cons p l=>
     have:=I p (by rw[P];exact QBq ..)
     have:=z1 p (Y p (by rw[P];exact QBq ..))
     omega
  have fc:a.filter (λp=>decide (u="row")||decide (p.1<=t))=A:=by
   rw[C,List.filter_append,List.filter_eq_self.mpr (λp f=>by simp[K p f])]
   by_cases z:u="row"
   ·rw[tB z];simp
   ·rw[List.filter_eq_nil_iff.mpr (λp f=>by have:=I p f;simp[z];omega)]
    simp
  have L:PyData.strOk u=true:=by rcases k.sv with z|z <;>rw[z] <;>decide +kernel
  refine ki (α:=Int×Int) (λm=>∃o,m= [o,some (.str u),some (.int t)]) pairD pairD (λp=>decide (u="row")||decide (p.1<=t)) ⟨none,rfl⟩ ?_
  refine oF (dt (aK rfl (cI (ds:=a.map pairD) ?_)))
  refine⟨a,rfl,trivial,by omega,λp f m x=> ?_,?_⟩
  ·obtain⟨o,rfl⟩:=x
   refine a_ ⟨rfl,⟨_,rfl⟩,?_⟩
   refine Dx (b_ (cc (aK rfl (fQ (mV (p:=.str u) (r:=.str "row") (by unfold iC;rw[Qhq L]) (by unfold iC;rw[Qhq (by decide +kernel)]) (by simp[PyData.depth]) ?_)))))
   have es:PyData.eqv (.str u) (.str "row")=decide (u="row"):=by
    by_cases c:u="row"
    ·subst c;simp[PyData.eqv]
    ·simp[PyData.eqv,c]
   rw[es]
   by_cases c:u="row"
   ·rw[Qeq c]
    refine aV (λ_=>⟨rfl,by simp,λ_=>aK rfl ⟨rfl,rfl⟩⟩) (λc=>by cases c)
   ·rw[Qdq c]
    refine aV (λc=>by cases c) (λ_=> ?_)
    refine b_ (cc (cc (aK rfl (fQ (ay (d:=.int p.1) rfl (aK rfl (nF ?_)))))))
    exact⟨rfl,by simp,λ_=>aK rfl ⟨rfl,rfl⟩⟩
  rw[fc]
  have U:(S++ [O.lst ([(t,h)].map pairD)]++ [O.lst (A.map pairD)])[S.length]?=some (.lst ([(t,h)].map pairD)):=aM aL
  have J:(S++ [O.lst ([(t,h)].map pairD)]++ [O.lst (A.map pairD)])[(S++ [O.lst ([(t,h)].map pairD)]).length]?=some (.lst (A.map pairD)):=aL
  have W:oA S (S++ [O.lst ([(t,h)].map pairD)]++ [O.lst (A.map pairD)]):=oA.refl.app.app
  have lA:A.length<=200:=by have:=congrArg List.length C;rw[lQa] at this;omega
  have lB:B.length<=200:=by have:=congrArg List.length C;rw[lQa] at this;omega
  generalize (S++ [O.lst ([(t,h)].map pairD)]++ [O.lst (A.map pairD)])=S2 at U J W⊢
  refine i9 (ya (qu (C5 (dt (aK rfl (cI (ds:=b.map pairD) ?_))))))
  refine qu (rT (qu (rT (dt (aK rfl (bG J (dt (aK rfl (bG U ⟨⟨rfl,rfl,J,?_⟩,?_⟩)))))))))
  ·simp only[lQm]
   exact QAq (show _<=201 by show A.length+1<=_;omega) (by decide)
  refine qu (ki (α:=Int×Int) (λm=>∃o,m= [o,some (.ref (S++ [O.lst ([(t,h)].map pairD)]).length)]) pairD pairD (λp=> !decide (p∈A)) ⟨none,rfl⟩ ?_)
  refine oF (dt (aK rfl (cI (ds:=a.map pairD) ?_)))
  refine⟨a,rfl,trivial,by omega,λp f m x=> ?_,?_⟩
  ·obtain⟨o,rfl⟩:=x
   refine a_ ⟨rfl,⟨_,rfl⟩,?_⟩
   refine b_ (Jb (aK rfl (dt (aK rfl (bG J ⟨_,_,CY p,v A,H p,?_⟩)))))
   rw[any_map xS]
   exact⟨rfl,by simp,λ_=>aK rfl ⟨rfl,rfl⟩⟩
  have fr:a.filter (λp=> !decide (p∈A))=B:=by
   rw[C,List.filter_append,List.filter_eq_nil_iff.mpr (λp f=>by simp[f]),List.filter_eq_self.mpr (λp f=>by
    have:p∉A:=λz=>by have:=K p z;have:=I p f;omega
    simp[this])]
   rfl
  rw[fr,←Qzq,←Qzq]
  refine⟨⟨rfl,rfl,trivial,?_⟩,?_⟩
  ·simp only[lQm,lQa]
   exact QAq (show _<=401 by show A.length+1+B.length<=_;omega) (by decide)
  refine⟨⟨rfl,rfl,trivial⟩,_,_,v _,v _,w _,?_⟩
  rw[kF xS,Qeq e]
  exact wy W (λk z=>(nomatch z)) rfl q
end
section
variable{w:dD}{h:Nat}{s s':bB}{S:aF}{Q:Res->aF->Prop}
def FX(o:gF w)(k:Lk w s h s')(q:Q (.d (.bl true)) S):Fn i6 [w.d,s.d,s'.d,.int h] S Q:=by
 obtain⟨⟨n,hn,x,q2⟩,⟨n',a4,y,a1⟩,rl,nh⟩:=k
 have lr:=x.lr
 have a6:=y.lr
 have lp:=x.lp
 have b3:=y.lp
 have b1:=o.l1
 have b2:=o.l2
 refine cg ?_
 unfold rX
 apply bC (hU (Cp ?_))
 apply ay (d:=.tup (w.ao.map Rm.d)) rfl ?_
 apply ay (d:=.tup (s.ao.map cT.d)) rfl ?_
 apply ay (d:=.tup (s'.ao.map cT.d)) rfl ?_
 refine⟨⟨⟨rfl,rfl,rfl⟩,trivial,trivial,trivial,by simp;omega,by simp;omega⟩,?_⟩
 refine⟨λ_ l r=>(∃a b c d e f,l= [some w.d,some s.d,some s'.d,some (.int h),a,b,c,d,e,f])/\r=S,⟨⟨_,_,_,_,_,_,rfl⟩,rfl⟩,λ_ _ _ _=>⟨trivial,trivial,trivial⟩,?_,?_⟩
 ·rintro j d l r hd ⟨⟨a,b,c,e,f,g,rfl⟩,hS⟩
  subst r
  obtain⟨d1,d2,d3,B,F,R,rfl⟩:=mq hd
  have B:(w.ao.map Rm.d)[j]?=some d1:=B
  have F:(s.ao.map cT.d)[j]?=some d2:=F
  have R:(s'.ao.map cT.d)[j]?=some d3:=R
  rw[gQm] at B F R
  obtain⟨u,p,rfl⟩:=oQm.mp B
  obtain⟨t,v,rfl⟩:=oQm.mp F
  obtain⟨m,H,rfl⟩:=oQm.mp R
  clear B F R
  obtain⟨b0,N,I⟩:=rl.rm j t u v p
  rw[H] at N
  cases N
  have ri:=x.rm j u t p v
  have M:=y.rm j u m p H
  have P:=o.rm u (mQg p)
  have z1:=ri.br
  have z3:=ri.lb
  have a5:=M.lb
  have z4:=P.l2
  have U:(h:Int)∉aU t:=λz=>nh (mQa.mpr (.inr (QOq.mpr ⟨t,mQg v,z⟩)))
  refine fm rfl (aC (a_ (aC (a_ (aC (a_ (bH ?_)))))))
  refine bC (dZ (Dx (tK (wF (nV (bX (cc (aK rfl (fQ (ay (d:=bJ t.row) rfl (bX (cc (aK rfl (fQ (ay (d:=bJ m.row) rfl (fF (j3 I.rw (nk ?_))))))))))))))))))
  refine aV (λc=>by cases c) (λ_=> ?_)
  refine tK (wF (nV (bX (cc (aK rfl (fQ (ay (d:=bJ t.ag) rfl (bX (cc (aK rfl (fQ (ay (d:=bJ m.ag) rfl (fF (j3 I.lt (nk ?_)))))))))))))))
  refine aV (λc=>by cases c) (λ_=>cy ?_)
  apply bC (hU (Cp ?_))
  apply ay (d:=.tup (u.aa.map F0)) rfl ?_
  apply ay (d:=.tup (t.aa.map bV)) rfl ?_
  apply ay (d:=.tup (m.aa.map bV)) rfl ?_
  refine⟨⟨⟨rfl,rfl,rfl⟩,trivial,trivial,trivial,by simp;omega,by simp;omega⟩,?_⟩
  refine⟨λ_ l r=>(∃d e f,l= [some w.d,some s.d,some s'.d,some (.int h),some u.d,some t.d,some m.d,d,e,f])/\r=S,⟨⟨_,_,_,rfl⟩,rfl⟩,λ_ _ _ _=>⟨trivial,trivial,trivial⟩,?_,?_⟩
  ·rintro i d l r hd ⟨⟨d',e',f',rfl⟩,hS⟩
   subst r
   obtain⟨d1,d2,d3,W,L,X,rfl⟩:=mq hd
   have W:(u.aa.map F0)[i]?=some d1:=W
   have L:(t.aa.map bV)[i]?=some d2:=L
   have X:(m.aa.map bV)[i]?=some d3:=X
   rw[gQm] at W L X
   obtain⟨⟨nm,K⟩,C,rfl⟩:=oQm.mp W
   obtain⟨J,A,rfl⟩:=oQm.mp L
   obtain⟨Y,G,rfl⟩:=oQm.mp X
   clear W L X
   have bb:=ri.bb J (mQg A)
   have a7:=M.bb Y (mQg G)
   have r4:=q2.r4 j t u v p i J nm K A C
   have a3:=a1.r4 j m u H p i Y nm K G C
   have a2:L4 K h J Y:=⟨P.bv (nm,K) (mQg C),by omega,by omega,r4.1,λz=>⟨r4.2 z,a3.2 z⟩,λz=>U (mQa.mpr (.inr (QOq.mpr ⟨J,mQg A,z⟩))),I.bl i J Y A G⟩
   refine fm rfl (aC (a_ (aC (a_ (aC (a_ (bH ?_)))))))
   refine dZ (tK (wF (nV (bX (cc (aK rfl (fQ (ay (d:=.str K) rfl (bX (aK rfl (bX (aK rfl (bX (aK rfl (fF (vE a2 (nk ?_)))))))))))))))))
   refine aV (λc=>by cases c) (λ_=>cy ?_)
   exact⟨⟨_,_,_,rfl⟩,rfl⟩
  ·rintro l r ⟨⟨d',e',f',rfl⟩,hS⟩
   subst r
   refine dZ (tK (wF (nV (bX (aK rfl (bX (aK rfl (bX (aK rfl (fF (sI I U (by omega) (by omega) (by omega) (nk ?_))))))))))))
   refine aV (λc=>by cases c) (λ_=>cy ?_)
   exact⟨⟨_,_,_,_,_,_,rfl⟩,rfl⟩
 ·rintro l r ⟨⟨a,b,c,e,f,g,rfl⟩,hS⟩
  subst r
  refine i9 (MD (qu ?_))
  refine ki (α:=(Int×List Int)×(Int×List Int)) (λl=>∃a b,l= [a,b]) (λq=>.tup [vO q.1,vO q.2]) (λ_=>.bl true) (λ_=>true) ⟨none,none,rfl⟩ ?_
  refine BZ (dt (cc (aK rfl (fQ (ay (d:=.tup (s.ak.map vO)) rfl (cI ?_))))))
  refine dt (cc (aK rfl (fQ (ay (d:=.tup (s'.ak.map vO)) rfl (cI ?_)))))
  refine⟨⟨trivial,by simp only[lQm];omega⟩,?_⟩
  refine⟨s.ak.zip s'.ak,zip_map ..,⟨trivial,trivial⟩,by rw[List.length_zip];omega,λg hg l a0=> ?_,?_⟩
  ·obtain⟨a,b,rfl⟩:=a0
   refine fm rfl (aC (a_ (aC (a_ (bH ⟨rfl,⟨_,_,rfl⟩,yC ⟨rfl,rfl,λ_=> ?_⟩⟩)))))
   obtain⟨i,hi,Z⟩:=QbQ hg
   have B:s.ak[i]?=some g.1:=by
    rw[List.length_zip] at hi
    rw[List.getElem_zip] at Z
    rw[←Z]
    exact gQe (by omega)
   have F:s'.ak[i]?=some g.2:=by
    rw[List.length_zip] at hi
    rw[List.getElem_zip] at Z
    rw[←Z]
    exact gQe (by omega)
   obtain⟨p2,N,I⟩:=rl.ps i g.1 B
   rw[F] at N
   cases N
   refine nV (bX (cc (aK rfl (fQ (ay (d:=bJ g.1.2) rfl (bX (cc (aK rfl (fQ (ay (d:=bJ g.2.2) rfl (fF (j3 I ⟨rfl,rfl⟩))))))))))))
  rw[List.filter_eq_self.mpr (λ_ _=>rfl)]
  refine⟨rfl,_,by rw[List.map_const'];exact zE _,?_⟩
  have:(List.replicate (s.ak.zip s'.ak).length true).all id=true:=by simp
  rw[this]
  exact cJ (λk z=>(nomatch z)) rfl q
end
def FZ:∀ns:List Int,ns.length<=63->∃f,HK [.ref 0] [.frz (ns.map D.int)]=some (.d (.bl true),f):=by
 intro ns b0
 suffices h:Fn HK [.ref 0] [.frz (ns.map D.int)] λr _=>r=.d (.bl true) by
  obtain⟨r,f,e,rfl⟩:=h
  exact⟨f,e⟩
 refine cg ?_
 unfold KR
 refine bC (hU ?_)
 apply Mm ?_
 apply FS rfl ?_
 apply FY ?_
 refine Jj ?_
 obtain⟨m,hm,Q⟩:∃m:Nat,(if (if ((ns.map D.int).length:Nat)<(4:Int) then(((ns.map D.int).length:Nat):Int) else 4)>(1:Int) then(if ((ns.map D.int).length:Nat)<(4:Int) then(((ns.map D.int).length:Nat):Int) else 4) else 1)=(m:Int)/\m<=4:=by
  refine⟨(if (if ((ns.map D.int).length:Nat)<(4:Int) then(((ns.map D.int).length:Nat):Int) else 4)>(1:Int) then(if ((ns.map D.int).length:Nat)<(4:Int) then(((ns.map D.int).length:Nat):Int) else 4) else 1).toNat,?_,?_⟩ <;>(repeat' split) <;>omega
 refine⟨m,congrArg D.int hm,by omega,?_⟩
 refine⟨λn b f=>(∃G H K J F p q,b= [some (.ref 0),G,H,K,J,F,p,q])/\f[0]?=some (.frz (ns.map D.int)),⟨⟨_,_,_,_,_,_,_,rfl⟩,rfl⟩,λ_ _ _ _=>trivial,?_,?_⟩
 ·rintro n d b S C ⟨⟨G,H,K,J,F,p,q,rfl⟩,hS⟩
  obtain⟨rfl,_⟩:=F_ C
  apply a_ ?_
  apply Ip hS λy t=> ?_
  have j:Ex S.length 0 (S++ [sx y t 0]) (S++ [sx y t 0]):=Ex.refl aL (by omega) (by omega)
  have s:(S++ [sx y t 0])[0]?=some (.frz (ns.map D.int)):=aM hS
  have I:0≠S.length:=by
   have:=(gQs.mp hS).1
   omega
  show Fn aE [.ref S.length,.int 3] (S++ [sx y t 0]) _
  generalize S.length=kp at j I⊢
  generalize S++ [sx y t 0]=S1 at j s⊢
  apply bI j (by omega) (by decide) (by decide) λv S2 hv Y a0 l2=> ?_
  rw[show(2:Int)+(v:Int)=((2+v:Nat):Int) by omega]
  apply FL (most:=3) Y (by omega) (by omega) (by omega) (by omega) (by omega) λw S3 ok mo hwl e3 _ _=> ?_
  refine Fw ok e3 (by omega) λM ss r S4 W L hl P B=> ?_
  dsimp only
  refine fm rfl (aC (a_ (aC (a_ (bH ?_)))))
  have A:=W.keep _ _ I (e3.keep _ _ I s)
  refine hU (HD (dt (aK rfl (cI (ds:=M.map mJ) ?_))))
  refine⟨λ_ b f=>(∃p q,b= [some (.ref 0),some (.int n),some (.ref kp),some w.d,some (.tup (M.map mJ)),some (.ref r),p,q])/\f=S4,⟨⟨_,_,rfl⟩,rfl⟩,λ_ _ _ _=>trivial,?_,?_⟩
  ·rintro i d b f C ⟨⟨p,q,rfl⟩,hSS⟩
   subst f
   obtain⟨d',u,rfl⟩:=qT C
   rw[gQm] at u
   obtain⟨g,X,rfl⟩:=oQm.mp u
   obtain⟨U,sb,ea,R,Z⟩:=B i g X
   rw[Nat.zero_add]
   refine fm rfl (aC (a_ (aC (a_ (bH ?_)))))
   refine dZ (tK (wF (nV (bX (aK rfl (bX (cc (aK rfl (aK rfl (dr L (aY (x:=U.d) (by rw[gQm,ea];rfl)) ?_))))))))))
   refine bX (cc (aK rfl (cc (aK rfl (fQ (IY ?_))))))
   rw[show(i:Int)+1=((i+1:Nat):Int) by omega]
   refine dr L (aY (x:=sb.d) (by rw[gQm,R];rfl)) (bX (aK rfl (fF ?_)))
   refine FX ok Z (nk ?_)
   refine aV (λc=>by cases c) (λ_=>cy ?_)
   exact⟨⟨_,_,rfl⟩,rfl⟩
  ·rintro b f ⟨⟨p,q,rfl⟩,hSS⟩
   subst f
   exact⟨⟨_,_,_,_,_,_,_,rfl⟩,A⟩
 ·rintro b f ⟨⟨G,H,K,J,F,p,q,rfl⟩,hS⟩
  symm
  have hl:=(gQs.mp hS).1
  refine ip (S2:= [.frz (ns.map D.int)]) ⟨by show 1<=f.length;omega,λk o N e=> ?_⟩ ?_ (λk z=>(nomatch z)) rfl rfl
  ·have N:k<1:=N
   have:k=0:=by omega
   subst this
   rw[hS] at e
   exact .inl e
  ·cases f with
   |nil=>simp at hl
   | cons a l=>
     simp at hS
     subst hS
     rfl
end W28
open PySem PySem.W PyProof.Rows L2 DL
theorem PySem.Challenge.cw_calledroom_k91_whole_let_on_in_order_holds : PySem.Challenge.rw_calledroom_k91_whole_let_on_in_order.Holds := by
  w_on; o_law; k_head; (case hw => w_witness2)
  k_fill
  refine DL.Mg (l := PySem.Challenge.rw_calledroom_k91_whole_let_on_in_order) (k := 15) rfl rfl ⟨rfl, by decide, by decide⟩ (λw h Y => PySem.W.kIn_of Y) (λw => ?nl) ?F
  case nl => rfl
  case F =>
    intro w mg fa h KX G hmg
    refine' W28.all_mk KX G hmg ?_ ?_ ?_ ?_ ?_ ?_ ?_ ?_ ?_ ?_ ?_ ?_ ?_ ?_ ?_ ?_ ?_ ?_ ?_ ?_ ?_ ?_ ?_ ?_ ?_ ?_ ?_ ?_ ?_ ?_ ?_ ?_ ?_ ?_ ?_ ?_ ?_ ?_ ?_ ?_ ?_ ?_ ?_ ?_ ?_ ?_ ?_ ?_ ?_ ?_ ?_ ?_ ?_ ?_ ?_ ?_ ?_ ?_ ?_ ?_ ?_ ?_ ?_ ?_ ?_ ?_ ?_ ?_ ?_ ?_ ?_ ?_ ?_ ?_ ?_ ?_ ?_ ?_ ?_ ?_ ?_ ?_ ?_ ?_ ?_ ?_ W28.FZ
    any_goals first | exact DL.bq.of (by k_is) (by k_is) (by k_is) (by k_is) | k_is
