import PyProof.Rows.All
import Wide.FinOn
import KE.KEqDict
import KE.KSortTup
import KE.KUnpack
import KE.KDictOf
import KE.KFromBytes
import KE.KIsAll
import PySem.Challenge.RW_calledroom_k21_passes
set_option Elab.async false
set_option linter.all false
set_option maxRecDepth 100000
set_option maxHeartbeats 8000000
namespace PySem.W.Fast
def tw16918669888349201531:True:=⟨⟩
def tw17200963942846798848:True:=⟨⟩
def tw16593616052935302277:True:=⟨⟩
def tw13713964673325446896:True:=⟨⟩
def tw11759409097070479418:True:=⟨⟩
def tw1630626312929615521:True:=⟨⟩
def tw6302743827339764144:True:=⟨⟩
def tw8560466096878836412:True:=⟨⟩
def tw17617678394282392202:True:=⟨⟩
def tw16497874509832597633:True:=⟨⟩
def tw16749878686050710615:True:=⟨⟩
def tw14847930956098840517:True:=⟨⟩
def tw15822642492377853845:True:=⟨⟩
def tw8001333079808816681:True:=⟨⟩
def tw3651703048431459450:True:=⟨⟩
def tw2684406977092770442:True:=⟨⟩
def tw18382981334656775921:True:=⟨⟩
def tw4077808447892185300:True:=⟨⟩
def tw14522293186692753793:True:=⟨⟩
def tw13529567671561475262:True:=⟨⟩
def tw14008911983342770781:True:=⟨⟩
def tw14217026639886250431:True:=⟨⟩
def tw17304998469994123440:True:=⟨⟩
def tw5418795368459912665:True:=⟨⟩
def tw6210880814117113779:True:=⟨⟩
def tw10538554548024665504:True:=⟨⟩
def tw13524533974632272220:True:=⟨⟩
def tw7568818191466207647:True:=⟨⟩
def tw182922566702987624:True:=⟨⟩
def tw8198584975690584352:True:=⟨⟩
def tw5496662824071338581:True:=⟨⟩
def tw1192832200261910413:True:=⟨⟩
def tw13589419066026492415:True:=⟨⟩
def tw10448592940604065421:True:=⟨⟩
def tw5041187769385698428:True:=⟨⟩
def tw4529308757835068899:True:=⟨⟩
def tw12764855091723381617:True:=⟨⟩
def tw13154991167850824862:True:=⟨⟩
def tw16396955852257154850:True:=⟨⟩
def tw18046047991383319967:True:=⟨⟩
def tw1829513226343556195:True:=⟨⟩
def tw1358877566347975889:True:=⟨⟩
def tw2336692036490610888:True:=⟨⟩
def tw3970342953266629047:True:=⟨⟩
def tw17951656259494590132:True:=⟨⟩
def tw13452295492328169430:True:=⟨⟩
def tw1389082447432184338:True:=⟨⟩
def tw945201232781895253:True:=⟨⟩
def tw11206215091557266333:True:=⟨⟩
def tw15043693248590802912:True:=⟨⟩
def tw12001175579318059894:True:=⟨⟩
def tw10433326239582626520:True:=⟨⟩
def tw16149692738263546646:True:=⟨⟩
def tw3942581571941203824:True:=⟨⟩
def tw3479151251304283579:True:=⟨⟩
def tw13856494589388929701:True:=⟨⟩
def tw7275082343481178751:True:=⟨⟩
def tw15298879350376566301:True:=⟨⟩
def tw14148385633400051422:True:=⟨⟩
def tw919264535224317602:True:=⟨⟩
def tw461627678904548299:True:=⟨⟩
def tw17643669873868498886:True:=⟨⟩
def tw9009398942606864291:True:=⟨⟩
def tw5758256280605294773:True:=⟨⟩
def tw919130465486016380:True:=⟨⟩
def tw11471552177338363163:True:=⟨⟩
def tw1630962861816497175:True:=⟨⟩
def tw14461306665606830640:True:=⟨⟩
def tw4533093966428978813:True:=⟨⟩
def tw5733113504806452771:True:=⟨⟩
def tw8392720754197891700:True:=⟨⟩
def tw12959505055862717061:True:=⟨⟩
def tw15496277212300307149:True:=⟨⟩
def tw1800744224512034083:True:=⟨⟩
def tw12250034574807714884:True:=⟨⟩
def tw7318076166031195256:True:=⟨⟩
def tw9755200525373805412:True:=⟨⟩
def tw13529346798462932003:True:=⟨⟩
def tw6004885839363379555:True:=⟨⟩
def tw2652367702328052597:True:=⟨⟩
def tw7857375014702762198:True:=⟨⟩
def tw10571820288820231187:True:=⟨⟩
def tw18415742388363197690:True:=⟨⟩
def tw7310366489156390121:True:=⟨⟩
def tw15332619838090534795:True:=⟨⟩
def tw2638033822679513524:True:=⟨⟩
def tw5580412122005789353:True:=⟨⟩
def tw16452636643439480626:True:=⟨⟩
def tw1944445375576869877:True:=⟨⟩
def tw6718222692398793749:True:=⟨⟩
def tw8607668773523661406:True:=⟨⟩
def tw1027976218945464899:True:=⟨⟩
def tw10251818254807922970:True:=⟨⟩
def tw15762261808356996198:True:=⟨⟩
def tw8568696965176761126:True:=⟨⟩
def tw3288376581676667638:True:=⟨⟩
def tw12371348168639117420:True:=⟨⟩
def tw15470780778780904841:True:=⟨⟩
def tw8445869805059332317:True:=⟨⟩
def tw3347475695372448946:True:=⟨⟩
def tw5623547358908179684:True:=⟨⟩
def tw604960237256685438:True:=⟨⟩
def tw14053685621649864782:True:=⟨⟩
def tw14180918137906820494:True:=⟨⟩
def tw8690350708561078416:True:=⟨⟩
def tw17947874344198553020:True:=⟨⟩
def tw16787779467259581890:True:=⟨⟩
def tw9829400564685928228:True:=⟨⟩
def tw13579999835466445506:True:=⟨⟩
def tw12781366776332553771:True:=⟨⟩
def tw7996790534505049794:True:=⟨⟩
def tw12203752642655371397:True:=⟨⟩
def tw7559146017256448533:True:=⟨⟩
def tw13143642699391321443:True:=⟨⟩
def tw2285086091046301167:True:=⟨⟩
def tw12577422271944799713:True:=⟨⟩
def tw9086935717213345325:True:=⟨⟩
def tw5856304056141064343:True:=⟨⟩
def tw17646073004761600640:True:=⟨⟩
def tw13400297165395539084:True:=⟨⟩
def tw2842211714131353728:True:=⟨⟩
def tw978233946353486876:True:=⟨⟩
def tw1290650211915841095:True:=⟨⟩
def tw250208526707012720:True:=⟨⟩
def tw8663140224103867917:True:=⟨⟩
def tw566305842032468958:True:=⟨⟩
def tw3314650877337756919:True:=⟨⟩
def tw18328489217490769592:True:=⟨⟩
def tw9185714234057892548:True:=⟨⟩
def tw9266055531230916286:True:=⟨⟩
def tw15144994131951899019:True:=⟨⟩
def tw17135151704693956004:True:=⟨⟩
def tw13953333301252809959:True:=⟨⟩
def tw11374395105527956414:True:=⟨⟩
def tw8163120929965844392:True:=⟨⟩
def tw12027583804561772642:True:=⟨⟩
def tw1370751665288294851:True:=⟨⟩
def tw4568310662297991623:True:=⟨⟩
def tw9299489203231049855:True:=⟨⟩
def tw1646767260118897710:True:=⟨⟩
def tw14379345045908963058:True:=⟨⟩
def tw3990291656649565064:True:=⟨⟩
def tw10154387341096888819:True:=⟨⟩
def tw16617858050545446963:True:=⟨⟩
def tw5517235403434159970:True:=⟨⟩
def tw15792973290662622594:True:=⟨⟩
def tw13909727828692217072:True:=⟨⟩
def tw4352542494221619638:True:=⟨⟩
def tw9588845448021827175:True:=⟨⟩
def tw5421636187521732245:True:=⟨⟩
def tw24305659983167870:True:=⟨⟩
def tw8018059172522239229:True:=⟨⟩
def tw16883224371211485140:True:=⟨⟩
def tw11015042967340189900:True:=⟨⟩
def tw12745045629339196646:True:=⟨⟩
def tw1653621898671012019:True:=⟨⟩
def tw13022674938373335815:True:=⟨⟩
def tw13908039389401555509:True:=⟨⟩
def tw1189687609424216902:True:=⟨⟩
def tw5790003504517371567:True:=⟨⟩
def tw11838755223539540014:True:=⟨⟩
def tw11304391701740449509:True:=⟨⟩
def tw11801128352741150547:True:=⟨⟩
def tw4345221130636572446:True:=⟨⟩
def tw3697666648805918563:True:=⟨⟩
def tw16705760202299581596:True:=⟨⟩
def tw11225349707626094008:True:=⟨⟩
def tw9704690668282774761:True:=⟨⟩
def tw9106438028171231139:True:=⟨⟩
def tw9338776593608505276:True:=⟨⟩
def tw2138238094183387866:True:=⟨⟩
def tw3488783718903726645:True:=⟨⟩
def tw10000338909159302074:True:=⟨⟩
def tw12968649313567051502:True:=⟨⟩
def tw12989119218638131619:True:=⟨⟩
def tw12648187563066892823:True:=⟨⟩
def tw969464405881840537:True:=⟨⟩
def tw11757467014604242236:True:=⟨⟩
def tw8491749314767763025:True:=⟨⟩
def tw16097049684541175816:True:=⟨⟩
def tw12468778965294794756:True:=⟨⟩
def tw7918544531405762044:True:=⟨⟩
def tw10612223779667421970:True:=⟨⟩
def tw292800208414602452:True:=⟨⟩
def tw18433346851913422132:True:=⟨⟩
def tw17618620331682976376:True:=⟨⟩
def tw13692711659549464301:True:=⟨⟩
def tw17544281326301616026:True:=⟨⟩
def tw37047983295919767:True:=⟨⟩
def tw1630354075110853433:True:=⟨⟩
def tw8495595198290163089:True:=⟨⟩
def tw4928979658469277296:True:=⟨⟩
def tw9224612257265432539:True:=⟨⟩
def tw2528700954412631957:True:=⟨⟩
def tw7182015985441772617:True:=⟨⟩
def tw10438099282832039797:True:=⟨⟩
def tw18124056469256547646:True:=⟨⟩
def tw10768370675460006079:True:=⟨⟩
def tw13421562283822681485:True:=⟨⟩
def tw13123344834570134871:True:=⟨⟩
def tw16100355213231759115:True:=⟨⟩
def tw17824963379560098778:True:=⟨⟩
def tw7303611208099073135:True:=⟨⟩
def tw12554931299230999599:True:=⟨⟩
def tw6034574216770885653:True:=⟨⟩
def tw478884462917304508:True:=⟨⟩
def tw14739792237251298406:True:=⟨⟩
def tw16032194608311007979:True:=⟨⟩
def tw2867682842960075006:True:=⟨⟩
def tw8434429521684592203:True:=⟨⟩
def tw1629391490662892661:True:=⟨⟩
def tw10344228658909870444:True:=⟨⟩
def tw9126847547369692412:True:=⟨⟩
def tw7900719157811905581:True:=⟨⟩
def tw8324092940080248692:True:=⟨⟩
def tw11847582664928379597:True:=⟨⟩
def tw1764192894429782393:True:=⟨⟩
def tw14752236463834877562:True:=⟨⟩
def tw4475695507244098421:True:=⟨⟩
def tw15242088144142606372:True:=⟨⟩
def tw11354095465591208533:True:=⟨⟩
def tw11989838538712871747:True:=⟨⟩
def tw17273481183010068009:True:=⟨⟩
def tw2308746723712849772:True:=⟨⟩
def tw17842578640891472603:True:=⟨⟩
def tw6260388368756247955:True:=⟨⟩
def tw15022161417802742802:True:=⟨⟩
def tw17326957394558316135:True:=⟨⟩
def tw3146983979496739244:True:=⟨⟩
def tw3274794349828733552:True:=⟨⟩
def tw2858564652769884629:True:=⟨⟩
def tw7543768438418312426:True:=⟨⟩
def tw6394357220290429881:True:=⟨⟩
def tw7395909342804978724:True:=⟨⟩
def tw17803566502696183948:True:=⟨⟩
def tw7865933559308054890:True:=⟨⟩
def tw3398021414694127073:True:=⟨⟩
def tw17432535371333171423:True:=⟨⟩
def tw5400636636290590927:True:=⟨⟩
def tw10625433106344533356:True:=⟨⟩
def tw3374969228491909711:True:=⟨⟩
def tw3227124905985033478:True:=⟨⟩
def tw7464231603388306023:True:=⟨⟩
def tw698810380710369666:True:=⟨⟩
end PySem.W.Fast
set_option bootstrap.genMatcherCode false
set_option compiler.extract_closed false
noncomputable section
local macro_rules|`(tactic|omega)=>`(tactic|lia)
abbrev gQm:=@List.getElem?_map
abbrev lQm:=@List.length_map
abbrev mQg:=@List.mem_of_getElem?
abbrev oQm:=@Option.map_eq_some_iff
abbrev gQe:=@List.getElem?_eq_getElem
abbrev gQs:=@List.getElem?_eq_some_iff
abbrev lQa:=@List.length_append
abbrev nQl:=@Nat.le_of_lt
abbrev mQa:=@List.mem_append
abbrev Qaq:=@PySem.wpAny_bind
abbrev Qbq:=@Option.bind_some
abbrev Qcq:=@PySem.Heap.get?_push_of_some
abbrev Qdq:=@decide_eq_false
abbrev Qeq:=@decide_eq_true
abbrev Qfq:=@List.mem_singleton
abbrev Qgq:=@PySem.wpAny_pure
abbrev Qhq:=@if_pos
abbrev Qiq:=@PySem.Heap.lt_size
abbrev Qjq:=@List.size_toArray
abbrev Qkq:=@List.mem_map
abbrev Qlq:=@List.getD_eq_getElem?_getD
abbrev Qmq:=@Nat.le_refl
abbrev Qnq:=@List.length_cons
abbrev Qoq:=@List.mem_append_right
abbrev Qpq:=@List.mem_cons_of_mem
abbrev Qqq:=@Nat.lt_of_lt_of_le
abbrev Qrq:=@PySem.Heap.get?_push_size
abbrev Qsq:=@List.mem_cons
abbrev Qtq:=@Bool.false_ne_true
abbrev Quq:=@if_neg
abbrev Qvq:=@List.append_assoc
abbrev Qwq:=@Nat.ne_of_lt
abbrev Qxq:=@List.length_take
abbrev Qyq:=@List.getElem?_set_self
abbrev Qzq:=@List.map_append
abbrev QAq:=@Nat.le_trans
abbrev QBq:=@List.mem_cons_self
abbrev QCq:=@Bool.and_eq_true
abbrev QDq:=@List.map_cons
abbrev QEq:=@List.take_length
abbrev QFq:=@PySem.W.mg_none_of
abbrev QGq:=@List.length_nil
abbrev QHq:=@List.getElem?_append_left
abbrev QIq:=@List.length_replicate
abbrev QJq:=@List.Perm.append_right
abbrev QKq:=@List.getElem?_set_ne
abbrev QLq:=@PySem.wpAny_holding
abbrev QMq:=@PySem.wpAny_field
abbrev QNq:=@List.replicate_succ
abbrev QOq:=@List.mem_flatMap
abbrev QPq:=@List.map_map
abbrev QQq:=@List.getElem?_append_right
abbrev QRq:=@PySem.wpAny_mono
abbrev QSq:=@List.flatMap_cons
abbrev QTq:=@List.mem_or_eq_of_mem_set
abbrev QUq:=@List.all_eq_true
abbrev QVq:=@List.length_range
abbrev QWq:=@List.drop_eq_getElem_cons
abbrev QXq:=@List.not_mem_nil
abbrev QYq:=@List.take_add_one
abbrev QZq:=@of_decide_eq_true
abbrev QaQ:=@of_decide_eq_false
abbrev QbQ:=@List.getElem_of_mem
abbrev QcQ:=@List.mem_of_getLast?
abbrev QdQ:=@Option.some.inj
abbrev QeQ:=@List.of_mem_zip
abbrev QfQ:=@List.getLast?_map
abbrev QgQ:=@PySem.wpAny_ite_false
abbrev QhQ:=@PySem.wpAny_newObj_type
abbrev QiQ:=@PySem.wpAny_callSpecial?_slot
abbrev QjQ:=@List.Sublist.refl
abbrev QkQ:=@List.eq_of_mem_replicate
abbrev QlQ:=@List.map_replicate
namespace L2
open PySem PySem.Spec PyProof.Rows
abbrev Key:=Sum Int Str
def jl:Key->Value->Bool
 |.inl k,v=>Value.isInt k v
 |.inr x,v=>Value.isStrOf x v
def JS(w:World):Key->Int
 |.inl k=>hashInt k
 |.inr x=>hashStr w x
def cf:∀{k:Key} {v:Value},jl k v=true->(∃i t,k=Sum.inl i/\v=Value.int i t)\/(∃x t,k=Sum.inr x/\v=Value.str x t)
 | .inl i,v,h=>by
   obtain⟨t,e⟩:=Value.isInt_shape (k:=i) (v:=v) h
   exact .inl ⟨i,t,rfl,e⟩
 | .inr x,v,h=>by
   obtain⟨t,e⟩:=Value.isStrOf_shape (x:=x) (v:=v) h
   exact .inr ⟨x,t,rfl,e⟩
def zZ(i:Int)(t:Tok):jl (.inl i) (.int i t)=true:=by simp[jl,Value.isInt]
def mL(x:Str)(t:Tok):jl (.inr x) (.str x t)=true:=by simp[jl,Value.isStrOf]
def FV(a b:Int):decide ((Sum.inl a:Key)=Sum.inl b)=(a==b):=by
 by_cases e:a=b
 ·subst e;simp
 ·have h:¬(Sum.inl a:Key)=Sum.inl b:=λq=>e (Sum.inl.inj q)
  rw[Qdq h]
  exact(beq_eq_false_iff_ne.mpr e).symm
def F0(a b:Str):decide ((Sum.inr a:Key)=Sum.inr b)=decide (a=b):=by
 by_cases e:a=b
 ·subst e;simp
 ·have h:¬(Sum.inr a:Key)=Sum.inr b:=λq=>e (Sum.inr.inj q)
  rw[Qdq h,Qdq e]
def F8(a:Int)(b:Str):decide ((Sum.inl a:Key)=Sum.inr b)=false:=Qdq (λq=>nomatch q)
def Fx(a:Str)(b:Int):decide ((Sum.inr a:Key)=Sum.inl b)=false:=Qdq (λq=>nomatch q)
def aW(prog:Program)(w:World):PySem.KeyKind prog w Key where
 is:=jl
 hash:=JS w
 inj:=λv a b g f=>by
  rcases cf g with⟨i,t,rfl,rfl⟩|⟨x,t,rfl,rfl⟩
  ·rcases cf f with⟨j,u,rfl,e⟩|⟨y,u,rfl,e⟩
   ·injection e with c _;rw[c]
   ·exact nomatch e
  ·rcases cf f with⟨j,u,rfl,e⟩|⟨y,u,rfl,e⟩
   ·exact nomatch e
   ·injection e with c _;rw[c]
 byValue:=λk v h=>by
  rcases cf h with⟨i,t,rfl,rfl⟩|⟨x,t,rfl,rfl⟩ <;>rfl
 pyHash:=λd h=>by
  rcases cf d with⟨i,t,rfl,rfl⟩|⟨x,t,rfl,rfl⟩
  ·exact wpAny_pyHash_int h
  ·exact wpAny_pyHash_str h
 eqBool:=λl d h=>by
  rcases cf l with⟨i,t,rfl,rfl⟩|⟨x,t,rfl,rfl⟩
  ·rcases cf d with⟨j,u,rfl,rfl⟩|⟨y,u,rfl,rfl⟩
   ·rw[FV] at h;exact wpAny_eqBool_int h
   ·rw[F8] at h;exact SeqAt.EqAt.int_str i t y u _ _ _ _ h
  ·rcases cf d with⟨j,u,rfl,rfl⟩|⟨y,u,rfl,rfl⟩
   ·rw[Fx] at h;exact SeqAt.EqAt.str_int x t j u _ _ _ _ h
   ·rw[F0] at h;exact wpAny_eqBool_str h
 «strs»:=λk x t v h=>by
  rcases cf h with⟨i,u,rfl,e⟩|⟨y,u,rfl,e⟩
  ·exact nomatch e
  ·injection e with c _
   subst c
   cases v <;>rfl
def yh(prog:Program)(w:World)(k:Key)(v:Value):(aW prog w).is k v=jl k v:=rfl
def uL(prog:Program)(w:World)(i:Int)(t:Tok):(aW prog w).is (.inl i) (.int i t)=true:=zZ i t
def we(prog:Program)(w:World)(x:Str)(t:Tok):(aW prog w).is (.inr x) (.str x t)=true:=mL x t
inductive V where
 |non|bl (b:Bool)|int (i:Int)|str (x:Str)|byt (b:Array UInt8)|flt (b:UInt64)|ref (a:Addr)|ty (n:String)
 deriving DecidableEq
def RelV:V->Value->Prop
 |.non,u=>u=Value.none
 |.bl b,u=>u=Value.bool b
 |.int i,u=>∃t,u=Value.int i t
 |.str x,u=>∃t,u=Value.str x t
 |.byt b,u=>∃t,u=Value.bytes b t
 |.flt b,u=>∃t,u=Value.float b t
 |.ref a,u=>u=Value.ref a
 |.ty n,u=>u=Value.type n
abbrev aX:List V->List Value->Prop:=Paired RelV
def aX.length{xs:List V}{a:List Value}(r:aX xs a):xs.length=a.length:=Paired.length r
theorem aX.get:∀{xs:List V} {a:List Value} {i:Nat} {x:V},aX xs a->xs[i]?=some x->∃u,a[i]?=some u/\RelV x u
 |_,_,_,_,.nil,e=>by simp at e
 |_,_,0,_,.cons r _,e=>by simp at e;subst e;exact⟨_,rfl,r⟩
 | _,_,i+1,x,.cons _ t,e=>by
   obtain⟨u,c,b⟩:=aX.get (i:=i) (x:=x) t (by simpa using e)
   exact⟨u,by simpa using c,b⟩
theorem aX.set{x:V}{u:Value}(r:RelV x u):∀{xs:List V} {a:List Value} (i:Nat),aX xs a->aX (xs.set i x) (a.set i u)
 |_,_,_,.nil=>.nil
 |_,_,0,.cons _ t=>.cons r t
 |_,_,i+1,.cons q t=>.cons q (aX.set r i t)
theorem aX.append:∀{xs ys:List V} {a ws:List Value},aX xs a->aX ys ws->aX (xs++ys) (a++ws)
 |_,_,_,_,.nil,s=>s
 |_,_,_,_,.cons r t,s=>.cons r (aX.append t s)
theorem aX.take:∀{xs:List V} {a:List Value} (n:Nat),aX xs a->aX (xs.take n) (a.take n)
 |_,_,0,_=>.nil
 |_,_,_+1,.nil=>.nil
 |_,_,n+1,.cons r t=>.cons r (aX.take n t)
theorem aX.drop:∀{xs:List V} {a:List Value} (n:Nat),aX xs a->aX (xs.drop n) (a.drop n)
 |_,_,0,r=>r
 |_,_,_+1,.nil=>.nil
 |_,_,n+1,.cons _ t=>aX.drop n t
def pX:Option V->Option Value->Prop
 |some v,some u=>RelV v u
 |none,none=>True
 |_,_=>False
def KV{a:Type}:List (a×V)->List (a×Value)->Prop:=Paired λ(p:a×V) (q:a×Value)=>p.1=q.1/\RelV p.2 q.2
def kV:Key->V
 |.inl i=>.int i
 |.inr x=>.str x
inductive HO where
 |lst (xs:List V)
 |tup (xs:List V)
 |dK (kvs:List (Key×V))|dT (kvs:List (List Key×V))
 |set (S:Int->Bool) (n:Nat)
 |ins (C dx:Addr) (fs:List (Str×V))
 |own (x:Addr)
 |xd (fs:List (Str×V))
 |met (f x:Addr)
 |rng (lo hi:Int)
 |frz (o:Obj) (u:HO)
 |tbl (ps:Array Value)
 |ext (φ:Heap->Prop)
abbrev Hp:=Addr->Option HO
def upd(H:Hp)(a:Addr)(o:HO):Hp:=λb=>if b=a then some o else H b
def a0{H:Hp}{a:Addr}{o:HO}:upd H a o a=some o:=by unfold upd;rw[Qhq rfl]
def aJ{H:Hp}{a b:Addr}{o:HO}(h:b≠a):upd H a o b=H b:=by unfold upd;rw[Quq h]
def BL{H:Hp}{a b:Addr}{o u:HO}(h:H a=some o)(h':H b=some u)(d:o≠u):a≠b:=by
 intro e;subst e;rw[h] at h';exact d (QdQ h')
def dD{H:Hp}{a b:Addr}{o:HO}(h:H a=some o)(h':H b=none):a≠b:=by
 intro e;subst e;rw[h] at h';cases h'
def sG(h:Heap)(a:Addr)(items:Array Value):Prop:=∃o,h.get? a=some o/\o.cls=.type "tuple" /\o.dict=none/\∃n,o.data=.seq items n
def sG.it{h:Heap}{a:Addr}{items:Array Value}(x:sG h a items):IsTup h a items:=by
 obtain⟨o,e,c,_,d⟩:=x
 exact⟨o,e,c,d⟩
def sG.new(h:Heap)(items:Array Value):sG (h.push {cls:=.type "tuple",data:=.seq items}) h.objs.size items:=⟨_,Qrq _ rfl,rfl,rfl,_,rfl⟩
section
variable(P:Program)(w:World)
def bI(H:Hp)(h:Heap)(a:Addr):HO->Prop
 |.lst d=>d.length<=sizeLine/\∃(c:List Value) (n:Nat),aX d c/\h.get? a=some {cls:=.type "list",data:=.seq c.toArray n}
 |.tup d=>d.length<=sizeLine/\∃c:List Value,aX d c/\sG h a c.toArray
 |.dK b=>b.length<=sizeLine/\(a==sysModules)=false/\∃r,KV b r/\h.DictOf (aW P w) a r
 |.dT b=>b.length<=sizeLine/\(a==sysModules)=false/\∃d:List (List Key×Addr×Value),
   Paired (λ(p:List Key×V) (q:List Key×Addr×Value)=>p.1=q.1/\H q.2.1=some (.tup (p.1.map kV))/\RelV p.2 q.2.2) b d∧
   ∃o k s,h.get? a=some o/\o.ExactDict/\o.data=.dict k s/\k.toList=d.map (entryOfKey (tupleKind (aW P w)))/\(d.map (·.1)).Nodup
 |.set S n=>h.SetOf (intKind P w) a S n
 |.ins C i g=>H i=some (.own a)/\g.length<=1000/\i≠a/\h.get? a=some (PySem.W.instObj C i)∧
   ∃e,h.Ns1 i e/\(∀f,pX (g.lookup f) (e f))/\PySem.Within e (g.map (·.1))
 |.own _=>∃o,h.get? a=some o
 |.xd g=>∃e,h.Ns1 a e/\∀f,pX (g.lookup f) (e f)
 |.rng z A=>∃t u v,h.get? a=some {cls:=.type "range",data:=.fields #[.int z t,.int A u,.int 1 v]}
 |.frz o u=>h.get? a=some o/\bI H h a u
 |.tbl y=>h.get? a=some {cls:=.none,data:=.fields y}
 |.met f x=>h.get? a=some (PySem.W.methodObj (.ref f) (.ref x))
 |.ext j=>j h/\(∃o,h.get? a=some o)/\∀m l:Heap,j m->(∀o,m.get? a=some o->l.get? a=some o)->j l
def kW(H:Hp)(h:Heap):Prop:=∀a o,H a=some o->bI P w H h a o
end
section
variable{P:Program}{w:World}{H H':Hp}{h h':Heap}{a:Addr}{o:HO}
theorem bI.lt(x:bI P w H h a o):a<h.objs.size:=by
 cases o with
 |lst c=>obtain⟨_,_,_,_,e⟩:=x;exact Qiq e
 |tup c=>obtain⟨_,_,_,p⟩:=x;exact p.it.lt
 |dK b=>obtain⟨_,_,_,_,o,_,_,e,_⟩:=x;exact Qiq e
 |dT b=>obtain⟨_,_,_,_,o,_,_,e,_⟩:=x;exact Qiq e
 |set S n=>obtain⟨o,_,_,_,e,_⟩:=x;exact Qiq e
 |ins C k d=>obtain⟨_,_,_,e,_⟩:=x;exact Qiq e
 |own y=>obtain⟨_,e⟩:=x;exact Qiq e
 |xd d=>obtain⟨_,⟨_,_,_,e,_⟩,_⟩:=x;exact Qiq e
 |rng i m=>obtain⟨_,_,_,e⟩:=x;exact Qiq e
 |frz l u=>obtain⟨e,_⟩:=x;exact Qiq e
 |tbl g=>exact Qiq (show h.get? a=some _ from x)
 |met f y=>exact Qiq (show h.get? a=some _ from x)
 |ext j=>obtain⟨_,⟨_,e⟩,_⟩:=x;exact Qiq e
theorem Paired.mapP{α e:Type}{F G:α->e->Prop}:∀{c:List α} {d:List e},Paired F c d->(∀a b,F a b->G a b)->Paired G c d
 |_,_,.nil,_=>.nil
 |_,_,.cons r t,f=>.cons (f _ _ r) (Paired.mapP t f)
def bI.stay(x:bI P w H h a o)(k:∀b u,(b=a\/H b=some (.own a))->h.get? b=some u->h'.get? b=some u)
  (M:∀b,H b=some (.own a)->H' b=some (.own a)) (I:∀b xs,H b=some (.tup xs)->H' b=some (.tup xs)):bI P w H' h' a o:=by
 induction o with
 |lst xs=>obtain⟨z,l,n,r,e⟩:=x;exact⟨z,l,n,r,k _ _ (.inl rfl) e⟩
 |tup xs=>obtain⟨z,l,r,g,e,c⟩:=x;exact⟨z,l,r,g,k _ _ (.inl rfl) e,c⟩
 |dK A=>obtain⟨z,y,L,r,g,j,i,e,c⟩:=x;exact⟨z,y,L,r,g,j,i,k _ _ (.inl rfl) e,c⟩
 | dT A=>
   obtain⟨z,y,xs,r,g,j,i,e,c⟩:=x
   exact⟨z,y,xs,Paired.mapP r λp q z=>⟨z.1,I _ _ z.2.1,z.2.2⟩,g,j,i,k _ _ (.inl rfl) e,c⟩
 |set S n=>obtain⟨g,j,i,t,e,c⟩:=x;exact⟨g,j,i,t,k _ _ (.inl rfl) e,c⟩
 | ins C U J=>
   obtain⟨d,z,K,e,m,⟨s,j,i,N,c⟩,r⟩:=x
   exact⟨M _ d,z,K,k _ _ (.inl rfl) e,m,⟨s,j,i,k _ _ (.inr d) N,c⟩,r⟩
 |own y=>obtain⟨g,e⟩:=x;exact⟨g,k _ _ (.inl rfl) e⟩
 |xd J=>obtain⟨m,⟨s,j,i,e,c⟩,r⟩:=x;exact⟨m,⟨s,j,i,k _ _ (.inl rfl) e,c⟩,r⟩
 |rng Q X=>obtain⟨t,u,v,e⟩:=x;exact⟨t,u,v,k _ _ (.inl rfl) e⟩
 |frz g u G=>obtain⟨e,q⟩:=x;exact⟨k _ _ (.inl rfl) e,G q⟩
 | tbl B=>
   have e:h.get? a=some {cls:=.none,data:=.fields B}:=x
   show h'.get? a=some {cls:=.none,data:=.fields B}
   exact k a _ (.inl rfl) e
 | met f y=>
   have e:h.get? a=some (PySem.W.methodObj (.ref f) (.ref y)):=x
   show h'.get? a=some (PySem.W.methodObj (.ref f) (.ref y))
   exact k a _ (.inl rfl) e
 |ext R=>obtain⟨p,⟨o,e⟩,F⟩:=x;exact⟨F _ _ p λo q=>k _ _ (.inl rfl) q,⟨o,k _ _ (.inl rfl) e⟩,F⟩
def kW.lt(x:kW P w H h)(e:H a=some o):a<h.objs.size:=(x a o e).lt
def kW.fresh(x:kW P w H h)(e:h.objs.size<=a):H a=none:=by
 cases q:H a with
 |none=>rfl
 |some u=>exact absurd (Qqq (x.lt q) e) (Nat.lt_irrefl _)
def kW.kept(x:kW P w H h)(k:∀b u,h.get? b=some u->h'.get? b=some u):kW P w H h':=λa o e=>
 (x a o e).stay (λb u _ q=>k b u q) (λ_ q=>q) λ_ _ q=>q
def kW.laid(x:kW P w H h)(k:∀b u,h.get? b=some u->h'.get? b=some u)(g:h.objs.size<=a)(new:bI P w (upd H a o) h' a o):kW P w (upd H a o) h':=λb u e=>by
 have f:=x.fresh g
 by_cases d:b=a
 ·subst d;rw[a0] at e;cases e;exact new
 ·rw[aJ d] at e
  exact(x b u e).stay (λc v _ q=>k c v q) (λc q=>by rw[aJ (dD q f)];exact q) λc i q=>by rw[aJ (dD q f)];exact q
end
def Rd(H:Hp)(a:Addr)(u:HO):Prop:=H a=some u\/∃o,H a=some (.frz o u)
def Rd.ok{P:Program}{w:World}{H:Hp}{h:Heap}{a:Addr}{u:HO}(r:Rd H a u)(x:kW P w H h):bI P w H h a u:=by
 rcases r with r|⟨o,r⟩
 ·exact x a u r
 ·obtain⟨_,q⟩:=x a _ r
  exact q
def Hy:Option HO->Prop
 |some (.lst _)=>True
 |some (.dK _)=>True
 |some (.dT _)=>True
 |some (.set _ _)=>True
 |some (.ins _ _ _)=>True
 |some (.ext _)=>True
 |_=>False
section
variable{P:Program}{w:World}{H:Hp}{h h':Heap}{x e:Addr}{o':HO}
def kW.write(ok:kW P w H h)(g:Hy (H x))(he:e=x\/H e=some (.own x))(k:∀b u,b≠e->h.get? b=some u->h'.get? b=some u)(m:∃u,h'.get? e=some u)
  (new:bI P w (upd H x o') h' x o'):kW P w (upd H x o') h':=λb u q=>by
 have d:∀c y,H c=some (.own y)->c≠x:=λc y r z=>by subst z;rw[r] at g;exact g
 have f:∀c i,H c=some (.tup i)->c≠x:=λc i r z=>by subst z;rw[r] at g;exact g
 by_cases j:b=x
 ·subst j;rw[a0] at q;cases q;exact new
 ·rw[aJ j] at q
  by_cases a:b=e
  ·have n:H b=some (.own x):=by
    rcases he with z|z
    ·exact absurd (a.trans z) j
    ·rw[a];exact z
   rw[q] at n;cases n
   obtain⟨v,o⟩:=m
   exact⟨v,by rw[a];exact o⟩
  ·refine(ok b u q).stay (λc v l r=>k c v ?_ r) (λc r=>by rw[aJ (d c b r)];exact r) λc i r=>by rw[aJ (f c i r)];exact r
   rcases l with rfl|l
   ·exact a
   ·rintro rfl
    rcases he with z|z
    ·exact d c b l z
    ·rw[l] at z;cases z;exact j rfl
end
structure Un(fs ex:List Addr)(H H':Hp)(h h':Heap):Prop where
 keep:∀b o,h.get? b=some o->H b=none->b∉fs->b∉ex->h'.get? b=some o
 slot:∀b o,h.get? b=some o->H b=none->b∈fs->b∉ex->∃sl,h'.get? b=some {o with slots:=sl}
 free:∀b o,h.get? b=some o->H b=none->b∉ex->H' b=none
 there:∀b o,h.get? b=some o->b∉ex->∃o',h'.get? b=some o'
 tups:∀b xs,H b=some (.tup xs)->H' b=some (.tup xs)
 frzs:∀b o u,H b=some (.frz o u)->H' b=some (.frz o u)
 tbls:∀b ps,H b=some (.tbl ps)->∃more,H' b=some (.tbl (ps++more))
section
variable{fs fs' ex ex':List Addr}{H H1 H2:Hp}{h h1 h2 h':Heap}{a x e:Addr}{o:HO}
def Un.any(u:Un fs ex H H1 h h1){b:Addr}{ob:Obj}(q:h.get? b=some ob)(n:H b=none)(d:b∉ex):∃f,h1.get? b=some {ob with slots:=f}:=by
 by_cases c:b∈fs
 ·exact u.slot b ob q n c d
 ·exact⟨ob.slots,u.keep b ob q n c d⟩
def Un.kept(k:∀b u,h.get? b=some u->h'.get? b=some u):Un fs ex H H h h':=
 ⟨λb c q _ _ _=>k b c q,λb c q _ _ _=>⟨c.slots,k b c q⟩,λ_ _ _ n _=>n,λb c q _=>⟨c,k b c q⟩,λ_ _ q=>q,λ_ _ _ q=>q,λ_ d q=>⟨#[],by rw[q];simp⟩⟩
def Un.refl:Un fs ex H H h h:=Un.kept λ_ _ q=>q
def Un.laid(k:∀b u,h.get? b=some u->h'.get? b=some u)(f:h.objs.size<=a)(c:H a=none):Un fs ex H (upd H a o) h h' where
 keep:=λb u q _ _ _=>k b u q
 slot:=λb u q _ _ _=>⟨u.slots,k b u q⟩
 free:=λb u q n _=>by rw[aJ (Qwq (Qqq (Qiq q) f))];exact n
 there:=λb u q _=>⟨u,k b u q⟩
 tups:=λb d q=>by rw[aJ (dD q c)];exact q
 frzs:=λb u d q=>by rw[aJ (dD q c)];exact q
 tbls:=λb g q=>⟨#[],by rw[aJ (dD q c),q];simp⟩
def Un.write(d:Hy (H x))(he:e=x\/H e=some (.own x))(k:∀b u,b≠e->h.get? b=some u->h'.get? b=some u)(f:∃u,h'.get? e=some u):Un fs ex H (upd H x o) h h':=by
 have j:∀b,H b=none->b≠x:=λb n z=>by subst z;rw[n] at d;exact d
 have i:∀b,H b=none->b≠e:=λb n z=>by
  subst z
  rcases he with r|r
  ·exact j b n r
  ·rw[n] at r;cases r
 have g:∀b u,H b=some u->¬Hy (some u)->b≠x:=λb u q m z=>by subst z;rw[q] at d;exact m d
 refine⟨λb u q n _ _=>k b u (i b n) q,λb u q n _ _=>⟨u.slots,k b u (i b n) q⟩,λb u q n _=>by rw[aJ (j b n)];exact n,λb u q _=> ?_,
  λb l q=>by rw[aJ (g b _ q λz=>z)];exact q,λb u l q=>by rw[aJ (g b _ q λz=>z)];exact q,λb p q=>⟨#[],by rw[aJ (g b _ q λz=>z),q];simp⟩⟩
 by_cases c:b=e
 ·subst c;exact f
 ·exact⟨u,k b u c q⟩
end
def II(h:Heap)(H:Hp):List Addr:=(List.range h.objs.size).filter λa=>(H a).isSome
def um(h:Heap)(H:Hp):Heap:=PySem.W.hideAll h (II h H)
def zX(h:Heap)(H:Hp):(um h H).objs.size=h.objs.size:=PySem.W.hideAll_size _ _
def Bx{h:Heap}{H:Hp}{b:Addr}{o:Obj}(e:h.get? b=some o)(n:H b=none):(um h H).get? b=some o:=
 PySem.W.hideAll_get _ e λa=>by
  have q:(H b).isSome=true:=(List.mem_filter.mp a).2
  rw[n] at q;simp at q
def Dq{h:Heap}{H:Hp}{b:Addr}{o:Obj}(e:(um h H).get? b=some o):h.get? b=some o/\H b=none:=by
 have a:h.get? b=some o:=PySem.W.of_hideAll (II h H) e
 refine⟨a,?_⟩
 cases q:H b with
 |none=>rfl
 | some x=>
   have c:b∈II h H:=List.mem_filter.mpr ⟨List.mem_range.mpr (Qiq a),by simp[q]⟩
   have z:(um h H).get? b=none:=PySem.W.hideAll_none (II h H) c
   rw[z] at e;cases e
structure Mod(K:PySem.W.Frag)(mg:Str->Option Value)(base:Heap):Prop where
 kin:K.In base
 glob:base.Ns mainGlobals mg
 blt:∃mb,base.Ns builtinsNs mb/\∀x:Str,x≠"__name__" ->mb x=bootBuiltins x
 nolimit:base.NoLimit
structure Cx where
 prog:Program
 w:World
 K:PySem.W.Frag
 mg:Str->Option Value
 base:Heap
 A:Around
 N:List Str
 s₀:Shared
 H₀:Hp
 env:Env
 outer:List Env
 stack:List Env
 ex:List Addr
 fn:Str->Bool
 calm:Bool
 pn:List (Addr×Obj)
 xe:Value->Shared->Prop
def Cr(l:List Env):List Addr:=l.filterMap (·.frame)
abbrev Cx.fs(X:Cx):List Addr:=Cr X.outer
def Er(a:Scope)(x:Str):Prop:=a.names.lookup x=some .local\/a.names.lookup x=some .cell\/a.names.lookup x=some .free
def Loc(a:Scope)(x:Str):Prop:=a.names.lookup x=some .local\/a.names.lookup x=some .cell
def Look(env:Env)(h:Heap)(m:Str->Option Value)(x:Str)(u:Value):Prop:=
 (env.kindOf x=some .local/\m x=some u)\/((env.kindOf x=some .cell\/env.kindOf x=some .free)/\∃c,env.cells.lookup x=some c/\h.IsCell c (some u))
structure Cx.Ok(X:Cx):Prop where
 mod:Mod X.K X.mg X.base
 kind:X.env.scope.kind=.function
 glob:X.env.globals=mainGlobals
 blt:X.env.builtins=builtinsNs
 above:X.s₀.heap.objs.size<=X.env.locals
 inj:∀x y c,X.env.cells.lookup x=some c->X.env.cells.lookup y=some c->x=y
 has:∀x,(X.env.kindOf x=some .cell\/X.env.kindOf x=some .free)->∃c,X.env.cells.lookup x=some c
 cab:∀x c,X.fn x=true->X.env.cells.lookup x=some c->X.s₀.heap.objs.size<=c
 hd:X.calm=true->X.A.handled=none
 frames:X.A.frames=some X.stack
 stk:X.stack=X.outer\/(X.stack=X.env::X.outer/\X.env.frame=some X.env.locals)
 exf:∀b∈X.ex,b≠X.env.locals/\∀x c,X.env.cells.lookup x=some c->c≠b
 bs:∀b o,X.base.get? b=some o->X.s₀.heap.get? b=some o/\X.H₀ b=none
 bsz:X.base.objs.size<=X.s₀.heap.objs.size
 noex:∀b o,X.base.get? b=some o->b∉X.ex
 exfs:∀b∈X.ex,b∉X.fs
 funs:X.s₀.heap.FunFrames X.base X.outer
 frf:∀b∈X.fs,X.H₀ b=none
structure Inv(X:Cx)(pins:List (Addr×Obj))(σ:List (Option V))(H:Hp)(s:Shared):Prop where
 ok:X.Ok
 os:s.os=X.s₀.os
 bare:AllBare s.gens
 base:Un X.fs X.ex X.H₀ H X.s₀.heap s.heap
 loc:∃m,s.heap.Ns X.env.locals m/\∀(i:Nat) (x:Str) (v:V),X.N[i]?=some x->σ[i]?=some (some v)->Er X.env.scope x->∃u,RelV v u/\Look X.env s.heap m x u
 cell:∀x c,X.env.cells.lookup x=some c->∃v,s.heap.IsCell c v
 free:H X.env.locals=none
 freeC:∀x c,X.env.cells.lookup x=some c->H c=none
 pin:∀p∈X.pn++pins,s.heap.get? p.1=some p.2/\H p.1=none/\p.1≠X.env.locals/\p.1∉X.fs/\∀v,p.2.data≠.cell v
 hok:kW X.prog X.w H s.heap
 len:σ.length=X.N.length
section
variable{X:Cx}{pins:List (Addr×Obj)}{σ:List (Option V)}{H H':Hp}{s:Shared}{h':Heap}
def Cx.Ok.nofr(ok:X.Ok){b:Addr}{o:Obj}(e:X.base.get? b=some o):b∉X.fs:=λa=>by
 have:=(ok.funs.mem a).1
 rw[e] at this;cases this
def Inv.bs(I:Inv X pins σ H s):∀b o,X.base.get? b=some o->s.heap.get? b=some o/\H b=none:=λb o e=>
 ⟨I.base.keep b o (I.ok.bs b o e).1 (I.ok.bs b o e).2 (I.ok.nofr e) (I.ok.noex b o e),I.base.free b o (I.ok.bs b o e).1 (I.ok.bs b o e).2 (I.ok.noex b o e)⟩
def Inv.bk(I:Inv X pins σ H s):∀b o,X.base.get? b=some o->s.heap.get? b=some o:=λb o e=>(I.bs b o e).1
def Inv.mod(I:Inv X pins σ H s):Mod X.K X.mg X.base:=I.ok.mod
def Inv.kIn(I:Inv X pins σ H s):X.K.In s.heap:=I.ok.mod.kin.keeps I.bk
def Inv.lt(I:Inv X pins σ H s):X.env.locals<s.heap.objs.size:=let ⟨_,hn,_⟩:=I.loc;hn.lt
def Inv.sz(I:Inv X pins σ H s):X.s₀.heap.objs.size<=s.heap.objs.size:=QAq I.ok.above (nQl I.lt)
def Inv.nofs(I:Inv X pins σ H s){a:Addr}(h:s.heap.objs.size<=a):a∉X.fs:=λb=>by
 obtain⟨_,o,c,_⟩:=I.ok.funs.mem b
 exact absurd (Qqq (Qiq c) (QAq I.sz h)) (Nat.lt_irrefl _)
def Inv.cne(I:Inv X pins σ H s):∀x c,X.env.cells.lookup x=some c->c≠X.env.locals:=λx c e z=>by
 obtain⟨v,o,d,f⟩:=I.cell x c e
 obtain⟨m,⟨i,g,h,b,a,_⟩,_⟩:=I.loc
 rw[z,b] at d;cases d;rw[a] at f;cases f
theorem Inv.funs(I:Inv X pins σ H s):s.heap.FunFrames X.base X.outer:=by
 have c:∀(l:List Env),(∀b∈Cr l,b∈X.fs)->X.s₀.heap.FunFrames X.base l->s.heap.FunFrames X.base l:=by
  intro l
  induction l with
  |nil=>intro _ _;trivial
  | cons i r h=>
    intro g n
    obtain⟨j,⟨L,o,f,m,p,k⟩,q⟩:=n
    have a:L∈X.fs:=g L (by unfold Cr;rw[List.filterMap_cons,f];exact QBq)
    obtain⟨t,e⟩:=I.base.slot L o p (I.ok.frf L a) a λz=>I.ok.exfs L z a
    exact⟨j,⟨L,_,f,m,e,k⟩,h (λb d=>g b (by unfold Cr;rw[List.filterMap_cons,f];exact Qpq _ d)) q⟩
 exact c X.outer (λ_ d=>d) I.ok.funs
def Inv.stack(I:Inv X pins σ H s):s.heap.FunFrames X.base X.stack:=by
 rcases I.ok.stk with e|⟨e,b⟩
 ·rw[e];exact I.funs
 ·rw[e]
  obtain⟨m,a,_⟩:=I.loc
  refine .cons (by rw[I.ok.kind];decide) b a ?_ I.funs
  exact Heap.get?_none_of_le (QAq I.ok.bsz I.ok.above)
def Inv.stkSub(I:Inv X pins σ H s):∀b∈Cr X.stack,b∈X.env.locals::X.fs:=λb a=>by
 rcases I.ok.stk with e|⟨e,c⟩
 ·rw[e] at a;exact Qpq _ a
 ·rw[e] at a
  unfold Cr at a
  rw[List.filterMap_cons,c] at a
  exact a
def Inv.stkFree(I:Inv X pins σ H s):∀b∈Cr X.stack,H b=none:=λb a=>by
 rcases Qsq.mp (I.stkSub b a) with e|a
 ·rw[e];exact I.free
 ·obtain⟨_,o,c,_⟩:=I.ok.funs.mem a
  exact I.base.free b o c (I.ok.frf b a) λz=>I.ok.exfs b z a
def Inv.step{g':Array GenState}{t':Nat}{d':Drawn}{ch:List Addr}(I:Inv X pins σ H s)
  (g:∀b∈ch,(b∈X.ex\/X.s₀.heap.objs.size<=b)/\b≠X.env.locals/\(∀x c,X.env.cells.lookup x=some c->c≠b)/\∀p∈X.pn++pins,p.1≠b)
  (keep:∀b o,b≠X.env.locals->b∉X.fs->b∉ch->s.heap.get? b=some o->H b=none->h'.get? b=some o)
  (slot:∀b o,b≠X.env.locals->b∈X.fs->b∉ch->s.heap.get? b=some o->H b=none->∃J,h'.get? b=some {o with slots:=J}) (free:∀b o,b∉ch->s.heap.get? b=some o->H b=none->H' b=none)
  (there:∀b o,b∉ch->s.heap.get? b=some o->∃o',h'.get? b=some o')
  (tups:∀b xs,H b=some (.tup xs)->H' b=some (.tup xs)) (frzs:∀b o u,H b=some (.frz o u)->H' b=some (.frz o u)) (tbls:∀b ps,H b=some (.tbl ps)->∃more,H' b=some (.tbl (ps++more)))
  (ns:∀m,s.heap.Ns X.env.locals m->h'.Ns X.env.locals m) (K:kW X.prog X.w H' h') (U:AllBare g'):
  Inv X pins σ H' {s with heap:=h',gens:=g',drawn:=d',toks:=t'}:=by
 have B:∀b o,X.s₀.heap.get? b=some o->b≠X.env.locals:=λb o e=>Qwq (Qqq (Qiq e) I.ok.above)
 have t:∀b o,X.s₀.heap.get? b=some o->b∉X.ex->b∉ch:=λb o e a y=>by
  rcases(g b y).1 with z|z
  ·exact a z
  ·exact absurd (Qqq (Qiq e) z) (Nat.lt_irrefl _)
 have f:∀x c,X.env.cells.lookup x=some c->∀v,s.heap.IsCell c v->h'.IsCell c v:=λx c e v R=>by
  obtain⟨o,A,F⟩:=R
  have h:c∉ch:=λz=>(g c z).2.2.1 x c e rfl
  by_cases P:c∈X.fs
  ·obtain⟨J,q⟩:=slot c o (I.cne x c e) P h A (I.freeC x c e)
   exact⟨_,q,F⟩
  ·exact⟨o,keep c o (I.cne x c e) P h A (I.freeC x c e),F⟩
 refine⟨I.ok,I.os,U,⟨λb o e n y a=> ?_,λb o e n y a=> ?_,λb o e n a=> ?_,λb o e a=> ?_,λb xs e=>tups b xs (I.base.tups b xs e),λb o xs e=>frzs b o xs (I.base.frzs b o xs e),λb ps e=> ?_⟩,?_,λx c e=> ?_,?_,λx c e=> ?_,λp L=> ?_,K,I.len⟩
 ·exact keep b o (B b o e) y (t b o e a) (I.base.keep b o e n y a) (I.base.free b o e n a)
 ·obtain⟨J,j⟩:=I.base.slot b o e n y a
  obtain⟨G,C⟩:=slot b _ (B b o e) y (t b o e a) j (I.base.free b o e n a)
  exact⟨G,C⟩
 ·obtain⟨o',j⟩:=I.base.there b o e a
  exact free b o' (t b o e a) j (I.base.free b o e n a)
 ·obtain⟨o',j⟩:=I.base.there b o e a
  exact there b o' (t b o e a) j
 ·obtain⟨Q,j⟩:=I.base.tbls b ps e
  obtain⟨Z,C⟩:=tbls b _ j
  exact⟨Q++Z,by rw[C,Array.append_assoc]⟩
 ·obtain⟨m,S,W⟩:=I.loc
  refine⟨m,ns m S,λi x v j C Y=> ?_⟩
  obtain⟨u,r,l⟩:=W i x v j C Y
  refine⟨u,r,?_⟩
  rcases l with l|⟨k,c,e,z⟩
  ·exact .inl l
  ·exact .inr ⟨k,c,e,f x c e _ z⟩
 ·obtain⟨v,z⟩:=I.cell x c e
  exact⟨v,f x c e v z⟩
 ·obtain⟨m,⟨o,_,_,A,_⟩,_⟩:=I.loc
  exact free _ o (λz=>(g _ z).2.1 rfl) A I.free
 ·obtain⟨v,o,A,F⟩:=I.cell x c e
  exact free c o (λz=>(g c z).2.2.1 x c e rfl) A (I.freeC x c e)
 ·obtain⟨e,n,M,N,d⟩:=I.pin p L
  have h:p.1∉ch:=λz=>(g p.1 z).2.2.2 p L rfl
  exact⟨keep p.1 p.2 M N h e n,free p.1 p.2 h e n,M,N,d⟩
def Inv.un{t':Nat}(I:Inv X pins σ H s)(u:Un X.fs [] H H' s.heap h')(f:kW X.prog X.w H' h'):Inv X pins σ H' {s with heap:=h',toks:=t'}:=by
 obtain⟨m,⟨o,t,l,h,r⟩,_⟩:=id I.loc
 obtain⟨v,k⟩:=u.any h I.free (by simp)
 exact I.step (g':=s.gens) (d':=s.drawn) (ch:= []) (λ_ z=>nomatch z) (λb o _ d _ e n=>u.keep b o e n d (by simp)) (λb o _ d _ e n=>u.slot b o e n d (by simp)) (λb o _ e n=>u.free b o e n (by simp)) (λb o _ e=>u.there b o e (by simp)) u.tups u.frzs u.tbls (λp j=>by
  obtain⟨q,c,g,a,i⟩:=j
  rw[h] at a;cases a
  exact⟨_,c,g,k,i⟩) f I.bare
def Inv.call{g':Array GenState}{t':Nat}{d':Drawn}{ch:List Addr}(I:Inv X pins σ H s)(u:Un (Cr X.stack) ch H H' s.heap h')(i:kW X.prog X.w H' h')(t:AllBare g')
  (f:∀b∈ch,(b∈X.ex\/X.s₀.heap.objs.size<=b)/\b≠X.env.locals/\(∀x c,X.env.cells.lookup x=some c->c≠b)/\∀p∈X.pn++pins,p.1≠b):
  Inv X pins σ H' {s with heap:=h',gens:=g',drawn:=d',toks:=t'}:=by
 obtain⟨m,⟨o,C,y,k,r⟩,_⟩:=id I.loc
 obtain⟨F,h⟩:=u.any k I.free λz=>(f _ z).2.1 rfl
 exact I.step (ch:=ch) f (λb o h v a e n=>u.keep b o e n (λz=>(Qsq.mp (I.stkSub b z)).elim h v) a) (λb o _ _ a e n=>u.any e n a) (λb o a e n=>u.free b o e n a) (λb o a e=>u.there b o e a) u.tups u.frzs u.tbls (λA q=>by
  obtain⟨B,g,j,d,l⟩:=q
  rw[k] at d;cases d
  exact⟨_,g,j,h,l⟩) i t
def Inv.turned{t':Nat}{it:Addr}(I:Inv X pins σ H s)(k:∀b o,b≠it->s.heap.get? b=some o->h'.get? b=some o)(i:H it=none)(f:it≠X.env.locals)
  (t:it∈X.ex\/X.s₀.heap.objs.size<=it) (l:∀x c,X.env.cells.lookup x=some c->c≠it) (A:∀p∈X.pn++pins,p.1≠it):Inv X pins σ H {s with heap:=h',toks:=t'}:=by
 have d:∀b u,H b=some u->b≠it:=λb u e z=>by rw[z,i] at e;cases e
 refine I.step (g':=s.gens) (d':=s.drawn) (ch:= [it]) (λb w=> ?_) (λb o _ _ a e _=>k b o (λz=>a (by simp[z])) e) (λb o _ _ a e _=>⟨o.slots,k b o (λz=>a (by simp[z])) e⟩) (λ_ _ _ _ n=>n)
  (λb o a e=>⟨o,k b o (λz=>a (by simp[z])) e⟩) (λ_ _ e=>e) (λ_ _ _ e=>e) (λb B e=>⟨#[],by rw[e];simp⟩) (λm h=> ?_) (λb u e=> ?_) I.bare
 ·have e:b=it:=by simpa using w
  subst e
  exact⟨t,f,l,A⟩
 ·obtain⟨o,j,g,y,r⟩:=h
  exact⟨o,j,g,k _ o (Ne.symm f) y,r⟩
 ·refine(I.hok b u e).stay (λc v a q=>k c v ?_ q) (λ_ q=>q) λ_ _ q=>q
  rcases a with z|z
  ·rw[z];exact d b u e
  ·exact d c _ z
def Inv.tok(I:Inv X pins σ H s)(t:Nat):Inv X pins σ H {s with toks:=t}:=I.un (h':=s.heap) (t':=t) Un.refl I.hok
def Inv.kept{t':Nat}(I:Inv X pins σ H s)(k:∀b u,s.heap.get? b=some u->h'.get? b=some u):Inv X pins σ H {s with heap:=h',toks:=t'}:=I.un (Un.kept k) (I.hok.kept k)
def Inv.laid{a:Addr}{o:HO}{t':Nat}(I:Inv X pins σ H s)(k:∀b u,s.heap.get? b=some u->h'.get? b=some u)(c:s.heap.objs.size<=a)(new:bI X.prog X.w (upd H a o) h' a o):
  Inv X pins σ (upd H a o) {s with heap:=h',toks:=t'}:=I.un (Un.laid k c (I.hok.fresh c)) (I.hok.laid k c new)
def Inv.write{x e:Addr}{o:HO}{t':Nat}(I:Inv X pins σ H s)(c:Hy (H x))(he:e=x\/H e=some (.own x))(k:∀b u,b≠e->s.heap.get? b=some u->h'.get? b=some u)(a:∃u,h'.get? e=some u)
  (new:bI X.prog X.w (upd H x o) h' x o):Inv X pins σ (upd H x o) {s with heap:=h',toks:=t'}:=I.un (Un.write c he k a) (I.hok.write c he k a new)
def Inv.pins_of{a:List (Addr×Obj)}(I:Inv X pins σ H s)(h:∀p∈a,s.heap.get? p.1=some p.2/\H p.1=none/\p.1≠X.env.locals/\p.1∉X.fs/\∀v,p.2.data≠.cell v):Inv X a σ H s:=
 ⟨I.ok,I.os,I.bare,I.base,I.loc,I.cell,I.free,I.freeC,λp b=>(mQa.mp b).elim (λz=>I.pin p (List.mem_append_left _ z)) (h p),I.hok,I.len⟩
def wz{N:List Str}(e:N.Nodup){i j:Nat}{x:Str}(a:N[i]?=some x)(b:N[j]?=some x):i=j:=by
 obtain⟨g,c⟩:=gQs.mp a
 obtain⟨f,d⟩:=gQs.mp b
 exact(List.getElem_inj e).mp (c.trans d.symm)
def zz{M:Model}{A:Around}{E:Value->Shared->Prop}{i:Nat}{x:Str}{v:V}{u:Value}{Q:Unit->Shared->Prop}(I:Inv X pins σ H s)(hN:X.N.Nodup)(hi:X.N[i]?=some x)(B:Loc X.env.scope x)(r:RelV v u)
  (h:∀s',Inv X pins (σ.set i (some v)) H s'->(∃a,Heap.SameBut a s.heap s'.heap/\(a=X.env.locals\/X.env.cells.lookup x=some a))->Q () s') (hf:X.fn x=true\/X.env.scope.names.lookup x=some .local:=by first|exact .inl rfl|exact .inr rfl|assumption):wpAny M A (storeName X.env x u) Q E s:=by
 obtain⟨m,hn,hl⟩:=id I.loc
 have W:(X.env.scope.kind==.class||(X.env.scope.kind==.module&&X.env.locals !=X.env.globals))=false:=by rw[I.ok.kind];rfl
 have J:i<σ.length:=by rw[I.len];exact(gQs.mp hi).1
 have K:=I.cne
 have g:∀{a:Addr} {h':Heap},(∃o,s.heap.get? a=some o/\H a=none)->Heap.SameBut a s.heap h'->kW X.prog X.w H h':=λ{a h'} ha f b ob e=>by
  obtain⟨_,_,C⟩:=ha
  refine(I.hok b ob e).stay (λc w' t q=>(f.2 c ?_).trans q) (λ_ q=>q) λ_ _ q=>q
  rintro rfl
  rcases t with rfl|t
  ·rw[C] at e;cases e
  ·rw[C] at t;cases t
 rcases B with G|G
 ·refine wpAny_storeName_local G hn (λh' a1 f=> ?_) W
  obtain⟨oL,_,_,a2,_⟩:=id hn
  refine h _ ⟨I.ok,I.os,I.bare,⟨λb o e n R B=> ?_,λb o e n R B=> ?_,I.base.free,λb o e B=> ?_,I.base.tups,I.base.frzs,I.base.tbls⟩,⟨_,a1,λj y v' l F e3=> ?_⟩,λy c e=> ?_,I.free,I.freeC,λp hp=> ?_,g ⟨oL,a2,I.free⟩ f,by simpa using I.len⟩ ⟨_,f,.inl rfl⟩
  ·exact(f.2 b (Qwq (Qqq (Qiq e) I.ok.above))).trans (I.base.keep b o e n R B)
  ·obtain⟨sl,l⟩:=I.base.slot b o e n R B
   exact⟨sl,(f.2 b (Qwq (Qqq (Qiq e) I.ok.above))).trans l⟩
  ·obtain⟨o',l⟩:=I.base.there b o e B
   exact⟨o',(f.2 b (Qwq (Qqq (Qiq e) I.ok.above))).trans l⟩
  ·by_cases L:j=i
   ·subst L
    rw[hi] at l;cases l
    rw[Qyq J] at F
    cases F
    exact⟨u,r,.inl ⟨G,by simp⟩⟩
   ·rw[QKq (Ne.symm L)] at F
    obtain⟨u',r',q⟩:=hl j y v' l F e3
    refine⟨u',r',?_⟩
    rcases q with⟨k,e⟩|⟨k,c,e,z⟩
    ·refine .inl ⟨k,?_⟩
     have:y≠x:=λe=>L (wz hN l (e▸hi))
     simp[this,e]
    ·exact .inr ⟨k,c,e,z.sameBut f (K y c e)⟩
  ·obtain⟨w',z⟩:=I.cell y c e
   exact⟨w',z.sameBut f (K y c e)⟩
  ·obtain⟨e,n,ne,nf,d⟩:=I.pin p hp
   exact⟨(f.2 p.1 ne).trans e,n,ne,nf,d⟩
 ·have P:X.fn x=true:=by
   rcases hf with z|z
   ·exact z
   ·rw[z] at G;cases G
  obtain⟨c,t⟩:=I.ok.has x (.inl G)
  obtain⟨w',z⟩:=I.cell x c t
  refine wpAny_storeName_cell I.ok.kind G t z (λh' Y f=> ?_)
  obtain⟨oc,U,Z⟩:=id z
  refine h {s with heap:=h'} ⟨I.ok,I.os,I.bare,⟨λb o e n R B=> ?_,λb o e n R B=> ?_,I.base.free,λb o e B=> ?_,I.base.tups,I.base.frzs,I.base.tbls⟩,⟨m,hn.sameBut f (Ne.symm (K x c t)),λj y v' l F e3=> ?_⟩,λy c' e=> ?_,I.free,I.freeC,λp hp=> ?_,g ⟨oc,U,I.freeC x c t⟩ f,by simpa using I.len⟩ ⟨c,f,.inr t⟩
  ·exact(f.2 b (Qwq (Qqq (Qiq e) (I.ok.cab x c P t)))).trans (I.base.keep b o e n R B)
  ·obtain⟨sl,l⟩:=I.base.slot b o e n R B
   exact⟨sl,(f.2 b (Qwq (Qqq (Qiq e) (I.ok.cab x c P t)))).trans l⟩
  ·obtain⟨o',l⟩:=I.base.there b o e B
   exact⟨o',(f.2 b (Qwq (Qqq (Qiq e) (I.ok.cab x c P t)))).trans l⟩
  ·by_cases L:j=i
   ·subst L
    rw[hi] at l;cases l
    rw[Qyq J] at F
    cases F
    exact⟨u,r,.inr ⟨.inl G,c,t,Y⟩⟩
   ·rw[QKq (Ne.symm L)] at F
    obtain⟨u',r',q⟩:=hl j y v' l F e3
    refine⟨u',r',?_⟩
    rcases q with q|⟨k,c',e,z'⟩
    ·exact .inl q
    ·refine .inr ⟨k,c',e,z'.sameBut f ?_⟩
     rintro rfl
     exact L (wz hN l (I.ok.inj _ _ _ e t▸hi))
  ·by_cases S:c'=c
   ·subst S;exact⟨_,Y⟩
   ·obtain⟨w2,z2⟩:=I.cell y c' e
    exact⟨w2,z2.sameBut f S⟩
  ·obtain⟨e,n,ne,nf,d⟩:=I.pin p hp
   refine⟨(f.2 p.1 ?_).trans e,n,ne,nf,d⟩
   intro q
   rw[q,U] at e
   have q':oc=p.2:=QdQ e
   exact d w' (by rw[←q'];exact Z)
def lN{M:Model}{A:Around}{E:Value->Shared->Prop}{i:Nat}{x:Str}{v:V}{u:Value}{Q:Unit->Shared->Prop}(I:Inv X pins σ H s)(e:X.N.Nodup)(hi:X.N[i]?=some x)(d:Loc X.env.scope x)(r:RelV v u)
  (h:∀a,Inv X pins (σ.set i (some v)) H a->Q () a) (c:X.fn x=true\/X.env.scope.names.lookup x=some .local:=by first|exact .inl rfl|exact .inr rfl|assumption):wpAny M A (storeName X.env x u) Q E s:=
 zz I e hi d r (λa b _=>h a b) c
def Inv.call'{a:Shared}{ch:List Addr}(I:Inv X pins σ H s)(g:a.os=s.os)(u:Un (Cr X.stack) ch H H' s.heap a.heap)(d:kW X.prog X.w H' a.heap)(i:AllBare a.gens)
  (f:∀b∈ch,(b∈X.ex\/X.s₀.heap.objs.size<=b)/\b≠X.env.locals/\(∀x c,X.env.cells.lookup x=some c->c≠b)/\∀p∈X.pn++pins,p.1≠b):Inv X pins σ H' a:=by
 obtain⟨h',g',d',t',h⟩:=a
 have e:h=s.os:=g
 subst e
 exact I.call (g':=g') (t':=t') (d':=d') u d i f
end
abbrev XK:=Value->Option Addr->Hp->Prop
abbrev St:=List (Option V)
abbrev VK:=V->Hp->Prop
abbrev TE:=St->Hp->VK->Prop
abbrev TT:=St->Hp->(Bool->Hp->Prop)->Prop
abbrev TA:=St->Hp->(List V->Hp->Prop)->Prop
structure Ends where
 nx:St->Hp->Prop
 rt:VK
 bk:St->Hp->Prop:=λ_ _=>False
 ct:St->Hp->Prop:=λ_ _=>False
abbrev TS:=Ends->St->Hp->Prop
def EP(X:Cx)(a:List (Addr×Obj))(d:St)(Q:VK)(u:Value)(c:Shared):Prop:=∃v b,Inv X a d b c/\RelV v u/\Q v b
def TP(X:Cx)(a:List (Addr×Obj))(e:St)(Q:Bool->Hp->Prop)(b:Bool)(d:Shared):Prop:=∃c,Inv X a e c d/\Q b c
def AP(X:Cx)(a:List (Addr×Obj))(f:St)(Q:List V->Hp->Prop)(d:List Value)(e:Shared):Prop:=∃b c,Inv X a f c e/\aX b d/\Q b c
def SP(X:Cx)(b:List (Addr×Obj))(D:Ends)(f:Flow)(d:Shared):Prop:=
 match f with
 |.next=>∃a c,Inv X b a c d/\D.nx a c
 |.brk=>∃a c,Inv X b a c d/\D.bk a c
 |.cont=>∃a c,Inv X b a c d/\D.ct a c
 |.ret u=>∃v a c,Inv X b a c d/\RelV v u/\D.rt v c
def PE(X:Cx)(e:Expr)(t:TE):Prop:=
 ∀(a:List (Addr×Obj)) (s:Shared) (b:St) (H:Hp) (Q:VK),Inv X a b H s->t b H Q->wpAny (model X.prog X.w) X.A (eval e X.env) (EP X a b Q) X.xe s
def PT(X:Cx)(e:Expr)(t:TT):Prop:=
 ∀(a:List (Addr×Obj)) (s:Shared) (b:St) (H:Hp) (Q:Bool->Hp->Prop),Inv X a b H s->t b H Q->wpAny (model X.prog X.w) X.A (isTrue e X.env (eval e X.env)) (TP X a b Q) X.xe s
def PW(X:Cx)(e:Expr)(t:TT):Prop:=
 ∀(b:Sem Value) (a:List (Addr×Obj)) (s:Shared) (c:St) (H:Hp) (Q:Bool->Hp->Prop),Inv X a c H s->t c H Q->wpAny (model X.prog X.w) X.A (isTrue e X.env b) (TP X a c Q) X.xe s
def PW.pt{X:Cx}{e:Expr}{t:TT}(h:PW X e t):PT X e t:=h _
def PA(X:Cx)(d:List Expr)(t:TA):Prop:=
 ∀(c:Pos) (a:List (Addr×Obj)) (s:Shared) (b:St) (H:Hp) (Q:List V->Hp->Prop),Inv X a b H s->t b H Q->wpAny (model X.prog X.w) X.A (spliced (backTo c (starEach d X.env))) (AP X a b Q) X.xe s
def PS(X:Cx)(st:Stmt)(t:TS):Prop:=
 ∀(a:List (Addr×Obj)) (s:Shared) (b:St) (H:Hp) (D:Ends),Inv X a b H s->t D b H->wpAny (model X.prog X.w) X.A (exec st X.env) (SP X a D) X.xe s
def qH(X:Cx)(st:List Stmt)(t:TS):Prop:=
 ∀(a:List (Addr×Obj)) (s:Shared) (b:St) (H:Hp) (D:Ends),Inv X a b H s->t D b H->wpAny (model X.prog X.w) X.A (execs st X.env) (SP X a D) X.xe s
def bT{α:Type}{t:Sem α}{Q b:α->Shared->Prop}{M:Model}{A:Around}{E:Value->Shared->Prop}{s:Shared}(h:wpAny M A t Q E s)(c:∀a s,Q a s->b a s):wpAny M A t b E s:=QRq h c λ_ _ x=>x
section
variable{X:Cx}
def EM(i:Nat):TE:=λa H Q=>∃v,a[i]?=some (some v)/\Q v H
def tC(v:V):TE:=λ_ H Q=>Q v H
def AY{i:Nat}{x:Str}{pos:Pos}(p:X.N[i]?=some x)(n:Er X.env.scope x)(hd:(x==("__debug__":Str))=false:=by decide)(g:(x==("__classdict__":Str))=false:=by decide):PE X (.Name x pos) (EM i):=by
 intro f s q H Q I h
 obtain⟨v,e,h⟩:=h
 obtain⟨m,o,t⟩:=I.loc
 obtain⟨u,r,l⟩:=t i x v p e n
 have b:EP X f q Q u s:=⟨v,H,I,r,h⟩
 rcases l with⟨d,k⟩|⟨d,c,j,a⟩
 ·exact wpAny_Name (wpAny_loadName_local I.ok.kind d o k b) hd
 ·rcases d with d|d
  ·exact wpAny_Name (wpAny_loadName_cell I.ok.kind d j a b) hd
  ·exact wpAny_Name (wpAny_loadName_free I.ok.kind d j a b g) hd
def Gb{i j pos}:PE X (.Constant (.int i) j pos) (tC (.int i)):=λ_ _ _ H _ I h=>wpAny_Constant_int ⟨.int i,H,I.tok _,⟨_,rfl⟩,h⟩
def GV{b j pos}:PE X (.Constant (.bool b) j pos) (tC (.bl b)):=λ_ _ _ H _ I h=>Constant_bool ⟨.bl b,H,I,rfl,h⟩
def Fs{j pos}:PE X (.Constant .none j pos) (tC .non):=λ_ _ _ H _ I h=>Constant_none ⟨.non,H,I,rfl,h⟩
def FG{x j pos}:PE X (.Constant (.str x) j pos) (tC (.str x)):=λ_ _ _ H _ I h=>Calls.Constant_str ⟨.str x,H,I.tok _,⟨_,rfl⟩,h⟩
def Gl(X:Cx)(x:Str):Prop:=X.env.kindOf x=some .globalImplicit
def t7{E:Value->Shared->Prop}{a:List (Addr×Obj)}{s:Shared}{c:St}{H:Hp}{x:Str}{u:Value}{pos:Pos}{Q:Value->Shared->Prop}(I:Inv X a c H s)(d:Gl X x)(b:X.mg x=some u)(h:Q u s)
  (hd:(x==("__debug__":Str))=false:=by decide):wpAny (model X.prog X.w) X.A (eval (.Name x pos) X.env) Q E s:=
 Calls.Name_function_global I.ok.kind d (Calls.loadGlobal_global (by rw[I.ok.glob];exact I.mod.glob.keeps I.bk) b h) hd
def jg{E:Value->Shared->Prop}{a:List (Addr×Obj)}{s:Shared}{f:St}{H:Hp}{x:Str}{u:Value}{pos:Pos}{Q:Value->Shared->Prop}(I:Inv X a f H s)(g:Gl X x)(b:X.mg x=none)(c:bootBuiltins x=some u)(h:Q u s)
  (d:x≠"__name__":=by decide) (hd:(x==("__debug__":Str))=false:=by decide):wpAny (model X.prog X.w) X.A (eval (.Name x pos) X.env) Q E s:=by
 obtain⟨j,i,e⟩:=I.mod.blt
 exact Calls.Name_function_global I.ok.kind g (Calls.loadGlobal_builtin (by rw[I.ok.glob];exact I.mod.glob.keeps I.bk) b (by rw[I.ok.blt];exact i.keeps I.bk) ((e x d).trans c) h) hd
def ud{x:Str}{v:V}{u:Value}{pos:Pos}(b:Gl X x)(a:X.mg x=some u)(r:RelV v u)(hd:(x==("__debug__":Str))=false:=by decide):PE X (.Name x pos) (tC v):=
 λ_ _ _ H _ I h=>t7 I b a ⟨v,H,I,r,h⟩ hd
def D4{x:Str}{v:V}{u:Value}{pos:Pos}(c:Gl X x)(b:X.mg x=none)(a:bootBuiltins x=some u)(r:RelV v u)(d:x≠"__name__":=by decide)(hd:(x==("__debug__":Str))=false:=by decide):PE X (.Name x pos) (tC v):=
 λ_ _ _ H _ I h=>jg I c b a ⟨v,H,I,r,h⟩ d hd
variable{a b:Expr}{ta tb:TE}{pos:Pos}
variable{tA tB':TT}{rest:List Expr}
def JI(t u:TT):TT:=λd H Q=>t d H λc H1=>if c=true then u d H1 Q else Q false H1
def K9(t u:TT):TT:=λd H Q=>t d H λc H1=>if c=true then Q true H1 else u d H1 Q
def J1(t:TT):TT:=λd H Q=>t d H λc H1=>Q (!c) H1
def CO(g:PT X a tA):PW X (.BoolOp .And [a] pos) tA:=by
 intro i d s f H Q I h
 refine isTrue_and (bT (g d s f H Q I h) λc j e=> ?_)
 cases c with
 |true=>exact isTrue_and_nil e
 |false=>exact e
def E8(g:PT X a tA):PW X (.BoolOp .Or [a] pos) tA:=by
 intro i d s f H Q I h
 refine isTrue_or (bT (g d s f H Q I h) λc j e=> ?_)
 cases c with
 |false=>exact isTrue_or_nil e
 |true=>exact e
def E4(m:PT X a tA)(i:PW X (.BoolOp .And (b::rest) pos) tB'):PW X (.BoolOp .And (a::b::rest) pos) (JI tA tB'):=by
 intro j d s e H Q I h
 refine isTrue_and (bT (m d s e H _ I h) λc k l=> ?_)
 obtain⟨H1,f,g⟩:=l
 cases c with
 |true=>exact i j d k e H1 Q f g
 |false=>exact⟨H1,f,g⟩
def He(m:PT X a tA)(i:PW X (.BoolOp .Or (b::rest) pos) tB'):PW X (.BoolOp .Or (a::b::rest) pos) (K9 tA tB'):=by
 intro j d s e H Q I h
 refine isTrue_or (bT (m d s e H _ I h) λc k l=> ?_)
 obtain⟨H1,f,g⟩:=l
 cases c with
 |true=>exact⟨H1,f,g⟩
 |false=>exact i j d k e H1 Q f g
def EF(f:PT X a tA):PT X (.UnaryOp .Not a pos) (J1 tA):=by
 intro d s e H Q I h
 exact isTrue_not (f d s e H (λc H1=>Q (!c) H1) I h)
def HN(ta tb:TE):TE:=λd H Q=>ta d H λx H1=>∃c,x=.bl c/\if c=true then tb d H1 Q else Q (.bl false) H1
def Hk(ta:TE):TE:=λd H Q=>ta d H λx H1=>∃c,x=.bl c/\Q (.bl (!c)) H1
def Fi{op}{t:TE}(h:PE X a t):PE X (.BoolOp op [a] pos) t:=λc s d H Q I e=>BoolOp_one (h c s d H Q I e)
def Fu(j:PE X a ta)(k:PE X (.BoolOp .And (b::rest) pos) tb):PE X (.BoolOp .And (a::b::rest) pos) (HN ta tb):=by
 intro d s g H Q I h
 refine BoolOp_and (bT (j d s g H _ I h) λv i l=> ?_)
 obtain⟨x,H1,f,m,e⟩:=l
 obtain⟨c,rfl,e⟩:=e
 cases m
 refine wpAny_truthy_bool ?_
 cases c with
 |true=>exact k d i g H1 Q f e
 |false=>exact⟨.bl false,H1,f,rfl,e⟩
def EW(j:PE X a ta):PE X (.UnaryOp .Not a pos) (Hk ta):=by
 intro d s g H Q I h
 refine UnaryOp_ (bT (j d s g H _ I h) λv l f=> ?_)
 obtain⟨x,H1,k,i,e⟩:=f
 obtain⟨c,rfl,e⟩:=e
 cases i
 exact not_of (wpAny_truthy_bool ⟨.bl (!c),H1,k,rfl,e⟩)
def Lc(t:TT)(ta tb:TE):TE:=λd H Q=>t d H λc H1=>if c=true then ta d H1 Q else tb d H1 Q
def Cq{c:Expr}(n:PT X c tA)(m:PE X a ta)(k:PE X b tb):PE X (.IfExp c a b pos) (Lc tA ta tb):=by
 intro e s f H Q I h
 refine wpAny_IfExp (bT (n e s f H _ I h) λd i l=> ?_)
 obtain⟨H1,g,j⟩:=l
 cases d with
 |true=>exact m e i f H1 Q g j
 |false=>exact k e i f H1 Q g j
end
def gr(K:PySem.W.Frag)(H:Hp)(a:Addr)(xs:List V):Prop:=
 Rd H a (.lst xs)∨
  ∃(o:Obj) (b:Array Value) (n:Nat),K.lookup a=some o/\o.cls=.type "list" /\o.dict=none/\o.data=.seq b n/\b.size<=sizeLine/\aX xs b.toList
def gB(K:PySem.W.Frag)(H:Hp)(a:Addr)(xs:List V):Prop:=
 Rd H a (.tup xs)∨
  ∃(o:Obj) (b:Array Value) (n:Nat),K.lookup a=some o/\o.cls=.type "tuple" /\o.data=.seq b n/\b.size<=sizeLine/\aX xs b.toList
def IV:Value->Option V
 |.none=>some .non
 |.bool b=>some (.bl b)
 |.int i _=>some (.int i)
 |.str x _=>some (.str x)
 |.bytes b _=>some (.byt b)
 |.float b _=>some (.flt b)
 |.ref a=>some (.ref a)
 |.type n=>some (.ty n)
 |_=>none
def RelV.abs{x:V}{u:Value}(r:RelV x u):IV u=some x:=by
 cases x with
 |non=>cases r;rfl
 |bl _=>cases r;rfl
 |int _=>obtain⟨t,rfl⟩:=r;rfl
 |str _=>obtain⟨t,rfl⟩:=r;rfl
 |byt _=>obtain⟨t,rfl⟩:=r;rfl
 |flt _=>obtain⟨t,rfl⟩:=r;rfl
 |ref _=>cases r;rfl
 |ty _=>cases r;rfl
def RelV.inj{x y:V}{u:Value}(r:RelV x u)(q:RelV y u):x=y:=QdQ (r.abs.symm.trans q.abs)
theorem aX.inj:∀{xs ys:List V} {a:List Value},aX xs a->aX ys a->xs=ys
 |_,_,_,.nil,.nil=>rfl
 |_,_,_,.cons r t,.cons r' t'=>by rw[r.inj r',aX.inj t t']
section
variable{X:Cx}{pins:List (Addr×Obj)}{σ:St}{H:Hp}{s:Shared}{a:Addr}{xs ys:List V}
def gr.of{K:PySem.W.Frag}(h:H a=some (.lst xs)):gr K H a xs:=.inl (.inl h)
def gB.of{K:PySem.W.Frag}(h:H a=some (.tup xs)):gB K H a xs:=.inl (.inl h)
def Inv.list(I:Inv X pins σ H s)(h:gr X.K H a xs):∃b:List Value,aX xs b/\PlainL s.heap a b.toArray/\xs.length<=sizeLine:=by
 rcases h with h|⟨o,b,n,c,g,d,f,i,r⟩
 ·obtain⟨z,b,n,r,e⟩:=h.ok I.hok
  exact⟨b,r,⟨_,n,e,rfl,rfl,rfl⟩,z⟩
 ·refine⟨b.toList,r,⟨o,n,I.kIn a o c,g,d,by simpa using f⟩,?_⟩
  have e:=r.length
  simp only[Array.length_toList] at e
  omega
def Inv.tuple(I:Inv X pins σ H s)(h:gB X.K H a xs):∃b:List Value,aX xs b/\IsTup s.heap a b.toArray/\xs.length<=sizeLine:=by
 rcases h with h|⟨o,b,n,c,f,d,g,r⟩
 ·obtain⟨z,b,r,p⟩:=h.ok I.hok
  exact⟨b,r,p.it,z⟩
 ·refine⟨b.toList,r,⟨o,I.kIn a o c,f,n,by simpa using d⟩,?_⟩
  have e:=r.length
  simp only[Array.length_toList] at e
  omega
def Inv.list_inj(I:Inv X pins σ H s)(h:gr X.K H a xs)(h':gr X.K H a ys):xs=ys:=by
 obtain⟨c,r,⟨o,n,e,_,_,d⟩,_⟩:=I.list h
 obtain⟨b,j,⟨l,k,g,_,_,f⟩,_⟩:=I.list h'
 rw[e] at g;cases g
 rw[d] at f
 injection f with i _
 have:c=b:=by simpa using congrArg Array.toList i
 subst this
 exact r.inj j
def Inv.tuple_inj(I:Inv X pins σ H s)(h:gB X.K H a xs)(h':gB X.K H a ys):xs=ys:=by
 obtain⟨c,r,⟨o,e,_,n,d⟩,_⟩:=I.tuple h
 obtain⟨b,j,⟨l,g,_,k,f⟩,_⟩:=I.tuple h'
 rw[e] at g;cases g
 rw[d] at f
 injection f with i _
 have:c=b:=by simpa using congrArg Array.toList i
 subst this
 exact r.inj j
end
abbrev Cx.wish(X:Cx)(E:Value->Shared->Prop):Cx:={X with xe:=E}
abbrev Cx.nox(X:Cx):Cx:=X.wish λ_ _=>False
def Cx.Ok.wish{X:Cx}(ok:X.Ok)(E:Value->Shared->Prop):(X.wish E).Ok:=
 ⟨ok.mod,ok.kind,ok.glob,ok.blt,ok.above,ok.inj,ok.has,ok.cab,ok.hd,ok.frames,ok.stk,ok.exf,ok.bs,ok.bsz,ok.noex,ok.exfs,ok.funs,ok.frf⟩
def Cx.Ok.unwish{X:Cx}{E:Value->Shared->Prop}(ok:(X.wish E).Ok):X.Ok:=
 ⟨ok.mod,ok.kind,ok.glob,ok.blt,ok.above,ok.inj,ok.has,ok.cab,ok.hd,ok.frames,ok.stk,ok.exf,ok.bs,ok.bsz,ok.noex,ok.exfs,ok.funs,ok.frf⟩
section
variable{X:Cx}{pins:List (Addr×Obj)}{σ:St}{H:Hp}{s:Shared}{E:Value->Shared->Prop}
def Inv.wish(I:Inv X pins σ H s)(E:Value->Shared->Prop):Inv (X.wish E) pins σ H s:=⟨I.ok.wish E,I.os,I.bare,I.base,I.loc,I.cell,I.free,I.freeC,I.pin,I.hok,I.len⟩
def Inv.unwish(I:Inv (X.wish E) pins σ H s):Inv X pins σ H s:=⟨I.ok.unwish,I.os,I.bare,I.base,I.loc,I.cell,I.free,I.freeC,I.pin,I.hok,I.len⟩
theorem SP.unwish{D:Ends}{f:Flow}{c:Shared}(h:SP (X.wish E) pins D f c):SP X pins D f c:=by
 cases f with
 |next=>obtain⟨a,b,I,q⟩:=h;exact⟨a,b,I.unwish,q⟩
 |brk=>obtain⟨a,b,I,q⟩:=h;exact⟨a,b,I.unwish,q⟩
 |cont=>obtain⟨a,b,I,q⟩:=h;exact⟨a,b,I.unwish,q⟩
 |ret u=>obtain⟨v,a,b,I,r,q⟩:=h;exact⟨v,a,b,I.unwish,r,q⟩
def qH.nox{st:List Stmt}{t:TS}(h:qH X.nox st t):qH X st t:=λpins s σ H D I a=>
 QRq (h pins s σ H D (I.wish _) a) (λ_ _ q=>q.unwish) λ_ _ z=>False.elim z
end
section
variable{X:Cx}{st:Stmt}{rest:List Stmt}{t u:TS}{e:Expr}{te:TE}{pos:Pos}
def Gv:TS:=λD a H=>D.nx a H
def Jt(t u:TS):TS:=λD a H=>t {D with nx:=u D} a H
def DT:qH X [] Gv:=λ_ _ a H _ I h=>wpAny_execs_nil ⟨a,H,I,h⟩
def Bj(j:PS X st t)(d:qH X rest u):qH X (st::rest) (Jt t u):=by
 intro a s i H D I h
 refine wpAny_execs_cons (bT (j a s i H {D with nx:=u D} I h) λf c q=> ?_)
 cases f with
 | next=>
   obtain⟨b,k,g,q⟩:=q
   exact d a c b k D g q
 |ret v=>exact q
 |brk=>exact q
 |cont=>exact q
def Dv(c:PS X st t):qH X [st] t:=by
 intro a s b H D I h
 refine wpAny_execs_cons (bT (c a s b H D I h) λf d q=> ?_)
 cases f with
 |next=>exact wpAny_execs_nil q
 |ret v=>exact q
 |brk=>exact q
 |cont=>exact q
def Inv.quiet{a:List (Addr×Obj)}{b:St}{H:Hp}{s:Shared}(I:Inv X a b H s):interactive X.env=false:=by simp[interactive,I.ok.kind]
def HF(te:TE):TS:=λD a H=>te a H λ_ H1=>D.nx a H1
def Df(he:PE X e te)(c:swapsWith e none pos.line X.env=pure false:=by rfl):PS X (.Expr e pos) (HF te):=by
 intro a s b H D I h
 exact wpAny_Expr_any (bT (he a s b H _ I h) λv g ⟨x,H1,d,i,f⟩=>⟨b,H1,d,f⟩) I.quiet c
def Jz(te:TE):TS:=λD a H=>te a H D.rt
def Bo(he:PE X e te):PS X (.Return (some e) pos) (Jz te):=by
 intro a s b H D I h
 exact wpAny_Return_some (bT (he a s b H _ I h) λv g ⟨x,H1,d,c,f⟩=>⟨x,b,H1,d,c,f⟩)
def JY(c:TT)(t u:TS):TS:=λD a H=>c a H λb H1=>if b=true then t D a H1 else u D a H1
def HM{c:Expr}{a b:List Stmt}{k:TT}(p:PT X c k)(m:qH X a t)(n:qH X b u):PS X (.If c a b pos) (JY k t u):=by
 intro f s g H D I h
 refine wpAny_If (bT (p f s g H _ I h) λd i o=> ?_)
 obtain⟨H1,j,l⟩:=o
 cases d with
 |true=>exact m f i g H1 D j l
 |false=>exact n f i g H1 D j l
def Fh:TS:=λ_ _ _=>False
def BR:PS X st Fh:=λ_ _ _ _ _ _ h=>h.elim
end
abbrev TG:=V->St->Hp->(St->Hp->Prop)->Prop
abbrev CW:=List V->St->Hp->(St->Hp->Prop)->Prop
def PG(X:Cx)(a:Expr)(t:TG):Prop:=
 ∀ (b:List (Addr×Obj)) (s:Shared) (d:St) (H:Hp) (v:V) (u:Value) (Q:St->Hp->Prop),Inv X b d H s->RelV v u->t v d H Q→
   wpAny (model X.prog X.w) X.A (assign a X.env u) (λ_ f=>∃c e,Inv X b c e f/\Q c e) X.xe s
def CM(X:Cx)(ts:List Expr)(t:CW):Prop:=
 ∀ (a:List (Addr×Obj)) (s:Shared) (e:St) (H:Hp) (d:List V) (c:List Value) (Q:St->Hp->Prop),Inv X a e H s->aX d c->t d e H Q→
   wpAny (model X.prog X.w) X.A (assignInOrder ((assignEach ts X.env).map (·.2)) c) (λ_ g=>∃b f,Inv X a b f g/\Q b f) X.xe s
abbrev Br:=V->V->V->Hp->(Hp->Prop)->Prop
def Fq(X:Cx)(t:Br):Prop:=
 ∀ (a:List (Addr×Obj)) (s:Shared) (b:St) (H:Hp) (o i v:V) (e d u:Value) (Q:Hp->Prop),Inv X a b H s->RelV o e->RelV i d->RelV v u->t o i v H Q→
   wpAny (model X.prog X.w) X.A (setItem e d u) (λ_ f=>∃c,Inv X a b c f/\Q c) X.xe s
abbrev IA:=V->V->Hp->VK->Prop
def Kv(X:Cx)(c:Operator)(t:IA):Prop:=
 ∀ (a:List (Addr×Obj)) (s:Shared) (b:St) (H:Hp) (x y:V) (v u:Value) (Q:VK),Inv X a b H s->RelV x v->RelV y u->t x y H Q→
   wpAny (model X.prog X.w) X.A (inplaceOp c v u) (EP X a b Q) X.xe s
section
variable{X:Cx}{pos:Pos}
def lg(i:Nat):TG:=λv a H Q=>Q (a.set i (some v)) H
def sT{i:Nat}{x:Str}(e:X.N.Nodup)(hi:X.N[i]?=some x)(d:Loc X.env.scope x)(c:X.fn x=true\/X.env.scope.names.lookup x=some .local:=by first|exact .inl rfl|exact .inr rfl|assumption):PG X (.Name x pos) (lg i):=by
 intro a s g H v u Q I r h
 exact wpAny_assign_Name (lN I e hi d r (λf b=>⟨_,H,b,h⟩) c)
def I0:CW:=λb a H Q=>b= []/\Q a H
def Gz(t:TG)(u:CW):CW:=λb c H Q=>∃v r,b=v::r/\t v c H λa d=>u r a d Q
def Dh:CM X [] I0:=by
 intro a s b H d c Q I r h
 obtain⟨e,h⟩:=h
 subst e
 cases r
 exact assignInOrder_nil ⟨b,H,I,h⟩
def A_{e:Expr}{b:List Expr}{t:TG}{u:CW}(m:PG X e t)(k:CM X b u)
  (g:(assignEach (e::b) X.env).map (·.2)=assign e X.env::(assignEach b X.env).map (·.2):=by rfl):CM X (e::b) (Gz t u):=by
 intro a s l H w q Q I r h
 obtain⟨v,p,f,h⟩:=h
 subst f
 cases r with
 | cons r i=>
   rw[g]
   refine assignInOrder_cons (bT (m a s l H _ _ _ I r h) λ_ d o=> ?_)
   obtain⟨c,H1,j,n⟩:=o
   exact k a d c H1 _ _ Q j i n
def Jr(K:PySem.W.Frag)(n:Nat)(t:CW):TG:=λv c H Q=>∃a b,v=.ref a/\gB K H a b/\b.length=n/\t b c H Q
def EJ{d:List Expr}{k:Nat}{t:CW}{n:Nat}(C:X.calm=true)(h:CM X d t)
  (w:(assignEach d X.env).length=n:=by rfl) (g:(assignEach d X.env).findIdx? (·.1)=none:=by rfl):PG X (.Tuple d k pos) (Jr X.K n t):=by
 intro c s j H v u Q I r f
 obtain⟨a,p,l,A,z,f⟩:=f
 subst l
 cases r
 obtain⟨x,i,q,F⟩:=I.tuple A
 refine assign_Tuple_tuple (I.ok.hd C) q (by simp[w,←z,i.length]) g λm B=> ?_
 have y:Inv X c j H {s with heap:=m}:=I.kept (t':=s.toks) λb o e=>B b o (Qwq (Qiq e)) e
 exact h c _ j H p _ Q y (by simpa using i) f
def Ib(b c:TE)(t:Br):TG:=λv a H Q=>b a H λo H1=>c a H1 λi H2=>t o i v H2 λH3=>Q a H3
def EI{o i:Expr}{g f:TE}{t:Br}(C:PE X o g)(hi:PE X i f)(m:Fq X t)
  (w:∀v,assign (.Subscript o i pos) X.env v=(do
   let b←holding [v] (eval o X.env)
   let c←holding [v,b] (eval i X.env)
   standAt pos
   holding [v,b,c] (setItem b c v)
   release [v,b,c] []):=by intro _;rfl):PG X (.Subscript o i pos) (Ib g f t):=by
 intro a s e H v u Q I r h
 rw[w]
 refine Qaq (QLq (bT (C a s e H _ I h) λb k d=> ?_))
 obtain⟨x,H1,n,F,A⟩:=d
 refine Qaq (QLq (bT (hi a k e H1 _ n A) λc B d=> ?_))
 obtain⟨y,H2,j,l,z⟩:=d
 refine Qaq (wpAny_standAt (Qaq (QLq (bT (m a B e H2 x y v b c u _ j F l r z) λ_ G d=> ?_))))
 obtain⟨H3,q,p⟩:=d
 exact wpAny_release ⟨e,H3,q,p⟩
def Ap(b:TE)(g:TG):TS:=λD a H=>b a H λx H1=>g x a H1 D.nx
def EK{b e:Expr}{c:TE}{g:TG}(he:PE X e c)(l:PG X b g)(i:swapsWithSole [b] e pos.line X.env=pure false:=by rfl)(j:swappedStores [b] e X.env=pure none:=by rfl)
  (m:(assignEach [b] X.env).map (·.2)= [assign b X.env]:=by rfl):PS X (.Assign [b] e pos) (Ap c g):=by
 intro a s d H D I h
 refine wpAny_Assign_stores (bT (he a s d H _ I h) λv f ⟨x,H1,k,o,n⟩=> ?_) i j
 rw[m]
 exact bT (l a f d H1 x v _ k o n) λ_ p q=>q
def FD{i:Nat}{x:Str}{e:Expr}{c:TE}{a:Pos}(g:X.N.Nodup)(hi:X.N[i]?=some x)(k:Loc X.env.scope x)(he:PE X e c)(d:swapsWith e (some (.Name x a)) pos.line X.env=pure false:=by rfl)(n:X.fn x=true\/X.env.scope.names.lookup x=some .local:=by first|exact .inl rfl|exact .inr rfl|assumption):
  PS X (.Assign [.Name x a] e pos) (Ap c (lg i)):=by
 intro b s j H D I h
 refine wpAny_Assign_Name (bT (he b s j H _ I h) λv p ⟨y,H1,f,m,l⟩=> ?_) d
 exact lN f g hi k m (λq o=>⟨_,H1,o,l⟩) n
def Gs(i j:Nat)(c:TA):TS:=λD a H=>c a H λb H1=>∃v w,b= [v,w]/\D.nx ((a.set i (some v)).set j (some w)) H1
def EA{i j:Nat}{x y:Str}{a b:Expr}{F:TA}{m n r:Pos}{kt k2 pt2}(hc:X.calm=true)(z:X.N.Nodup)(hi:X.N[i]?=some x)(Q:X.N[j]?=some y)(l:i≠j)
  (C:X.env.scope.names.lookup x=some .local) (u:X.env.scope.names.lookup y=some .local) (W:PA X [a,b] F)
  (M:swappedStores [.Tuple [.Name x m,.Name y n] kt r] (.Tuple [a,b] k2 pt2) X.env=pure (some [x,y]))
  (K:swapsWithSole [.Tuple [.Name x m,.Name y n] kt r] (.Tuple [a,b] k2 pt2) pos.line X.env=pure false:=by rfl):
  PS X (.Assign [.Tuple [.Name x m,.Name y n] kt r] (.Tuple [a,b] k2 pt2) pos) (Gs i j F):=by
 intro c s B H D I h
 rw[exec_Assign_arm]
 refine Qaq (wpAny_standAt ?_)
 rw[K]
 refine Qaq (Qgq ?_)
 rw[Quq (by decide)]
 refine Qaq (Tuple_ (bT (W _ c s B H _ I h) λY d Z=> ?_))
 obtain⟨vs,H1,P,r1,t⟩:=Z
 obtain⟨v,w,J,t⟩:=t
 subst J
 obtain⟨f,g,rfl,rv,rw'⟩:∃f g,Y= [f,g]/\RelV v f/\RelV w g:=by
  cases r1 with
  | cons p q=>
    cases q with
    | cons U S=>
      cases S
      exact⟨_,_,rfl,p,U⟩
 refine QhQ ?_ (by show 2<=_;decide)
 have I2:Inv X c B H1 {d with heap:=d.heap.push {cls:=.type "tuple",data:=.seq [f,g].toArray}}:=P.kept (t':=d.toks) λb o e=>Qcq _ e
 rw[M]
 refine Qaq (Qgq ?_)
 show wpAny (model X.prog X.w) X.A (do rule "assign.swapped-stores";let items←unpackItems (.ref d.heap.objs.size) 2 none;assignInOrder [λv=>bindName X.env y v,λv=>bindName X.env x v] items.reverse;pure Flow.next) _ _ _
 refine Qaq (wpAny_rule (Qaq (unpackItems_tuple (items:= #[f,g]) (I.ok.hd hc) (IsTup.new d.heap _) λh' k=> ?_)))
 have R:=I2.kept (h':=h') (t':=d.toks) λb o e=>k b o (Qwq (Qiq e)) e
 show wpAny _ _ (assignInOrder [λv=>bindName X.env y v,λv=>bindName X.env x v] [g,f] >>= λ_=>pure Flow.next) _ _ _
 refine Qaq (assignInOrder_cons (wpAny_bindName (lN R z Q (.inl u) rw' (λs2 L=> ?_) (.inr u))))
 refine assignInOrder_cons (wpAny_bindName (lN L z hi (.inl C) rv (λs3 G=>assignInOrder_nil (Qgq ?_)) (.inr C)))
 rw[List.set_comm _ _ (Ne.symm l)] at G
 exact⟨_,H1,G,t⟩
def Hm(g f h:TE)(a:V->V->Hp->VK->Prop)(d:IA)(b:Br):TS:=λD c H=>g c H λo H1=>f c H1 λi H2=>a o i H2 λx H3=>h c H3 λy H4=>d x y H4 λz H5=>b o i z H5 λe=>D.nx c e
def HS(X:Cx)(t:V->V->Hp->VK->Prop):Prop:=
 ∀ (a:List (Addr×Obj)) (s:Shared) (b:St) (H:Hp) (o i:V) (d c:Value) (Q:VK),Inv X a b H s->RelV o d->RelV i c->t o i H Q→
   wpAny (model X.prog X.w) X.A (getItem d c) (EP X a b Q) X.xe s
def DZ{o i e:Expr}{q n u:TE}{b:V->V->Hp->VK->Prop}{k:IA}{c:Br}{w:Operator}{l:Pos}(ho:PE X o q)(hi:PE X i n)(Y:HS X b)(he:PE X e u)(P:Kv X w k)(F:Fq X c)
  (Z:∀g f new,augStore i g f new=(do holding [new,g,f] (setItem g f new);release [new,g,f] [];pure .next):=by intros;rfl):PS X (.AugAssign (.Subscript o i l) w e pos) (Hm q n u b k c):=by
 intro a s d H D I h
 refine wpAny_AugAssign_SubscriptAny (bT (ho a s d H _ I h) λg z ⟨t,H1,Q,x,q1⟩=> ?_) Z
 refine bT (hi a z d H1 _ Q q1) λf s2 j=> ?_
 obtain⟨r,H2,y,p,q2⟩:=j
 refine bT (Y a s2 d H2 t r g f _ y x p q2) λm A j=> ?_
 obtain⟨M,H3,U,K,S⟩:=j
 refine bT (he a A d H3 _ U S) λv J j=> ?_
 obtain⟨x4,H4,G,N,C⟩:=j
 refine bT (P a J d H4 M x4 m v _ G K N C) λnew s5 j=> ?_
 obtain⟨L,H5,I5,r5,R⟩:=j
 exact bT (F a s5 d H5 t r L g f new _ I5 x p r5 R) λ_ s6 ⟨B,W,q6⟩=>⟨d,B,W,q6⟩
def K_(f:Int->Int->Int):IA:=λx y H Q=>∃i j,x=.int i/\y=.int j/\Q (.int (f i j)) H
def Fl:Kv X .Add (K_ λi j=>i+j):=by
 intro a s g H x y v u Q I d c h
 obtain⟨i,j,b,e,q⟩:=h
 subst b;subst e
 obtain⟨t,rfl⟩:=d
 obtain⟨f,rfl⟩:=c
 exact iadd_int ⟨.int _,H,I.tok _,⟨_,rfl⟩,q⟩
end
structure It where
 go:Nat->Hp->Prop
 yld:Nat->Hp->V->Hp->Prop
 stop:Nat->Hp->Prop
def mr(X:Cx)(a:List (Addr×Obj))(H:Hp)(b:Addr):Prop:=
 H b=none/\b≠X.env.locals/\b∉X.fs/\(b∈X.ex\/X.s₀.heap.objs.size<=b)/\(∀x c,X.env.cells.lookup x=some c->c≠b)/\∀p∈X.pn++a,p.1≠b
def Inv.fpOk{X:Cx}{a:List (Addr×Obj)}{g:St}{H f:Hp}{s:Shared}{b:Addr}(I:Inv X a g H s)(d:s.heap.objs.size<=b)(i:f b=none):mr X a f b:=by
 refine⟨i,Nat.ne_of_gt (Qqq I.lt d),I.nofs d,.inr (QAq I.sz d),λx c e z=> ?_,λp h z=> ?_⟩
 ·obtain⟨v,q⟩:=I.cell x c e
  exact absurd (Qqq q.lt (by rw[z];exact d)) (Nat.lt_irrefl _)
 ·exact absurd (Qqq (Qiq (I.pin p h).1) (by rw[z];exact d)) (Nat.lt_irrefl _)
structure Turn(P:Program)(w:World)(K:PySem.W.Frag)(tg:Expr)(J:It)(fp:List Addr)(it:Addr)(tn:Nat->Heap->Prop):Prop where
 mem:it∈fp
 obj:∀i h,tn i h->∀b∈fp,∃o,h.get? b=some o/\∀v,o.data≠.cell v
 keep:∀i h h',tn i h->(∀b∈fp,∀o,h.get? b=some o->h'.get? b=some o)->tn i h'
 item:∀(X:Cx),X.prog=P->X.w=w->X.K=K->X.calm=true->∀(i:Nat) (pins:List (Addr×Obj)) (s:Shared) (σ:St) (H:Hp) (E:Value->Shared->Prop),Inv X pins σ H s->(∀b∈fp,mr X pins H b)->tn i s.heap->J.go i H→
  wpAny (model P w) X.A (pyNext (.ref it)) (λr s1=>∃u,r=some u∧
   wpAny (model P w) X.A (letOwnedTupleGo tg (.ref it) u) (λ_ s2=>∃x H',Inv X pins σ H' s2/\RelV x u/\J.yld i H x H'/\tn (i+1) s2.heap/\∀b∈fp,H' b=none) E s1) E s
 done:∀(X:Cx),X.prog=P->X.w=w->X.K=K->X.calm=true->∀(i:Nat) (pins:List (Addr×Obj)) (s:Shared) (σ:St) (H:Hp) (E:Value->Shared->Prop),Inv X pins σ H s->(∀b∈fp,mr X pins H b)->tn i s.heap->J.stop i H→
  wpAny (model P w) X.A (pyNext (.ref it)) (λr s1=>r=none/\Inv X pins σ H s1) E s
 self:∀(A:Around) (i:Nat) (s:Shared) (Q:Value->Shared->Prop) (E:Value->Shared->Prop),tn i s.heap->Q (.ref it) s->wpAny (model P w) A (pyIter (.ref it)) Q E s
abbrev TI:=St->Hp->(It->Hp->Prop)->Prop
def J2(X:Cx)(a:List (Addr×Obj))(i:St)(j:Expr)(R:It->Hp->Prop)(d:Value)(f:Shared):Prop:=
 ∃(h:Addr) (g:List Addr) (e:Nat->Heap->Prop) (J:It) (c:Hp),d=.ref h/\Inv X a i c f/\Turn X.prog X.w X.K j J g h e/\e 0 f.heap/\(∀b∈g,mr X a c b)/\R J c
def PI(X:Cx)(f b:Expr)(e:TI):Prop:=
 ∀ (a:List (Addr×Obj)) (s:Shared) (c:St) (H:Hp) (R:It->Hp->Prop),Inv X a c H s->e c H R→
   wpAny (model X.prog X.w) X.A (eval b X.env) (λv d=>wpAny (model X.prog X.w) X.A (pyIter v) (J2 X a c f R) X.xe d) X.xe s
def zd{M:Model}{A:Around}{E:Value->Shared->Prop}{s:Shared}{b:Expr}{it:Addr}{u:Value}{o:Obj}{n:String}{vs:Array Value}{Q:Unit->Shared->Prop}(c:s.heap.get? it=some o)(e:o.cls=.type n)(hd:o.data=.fields vs)
    (d: ["enumerate","zip","dict_itemiterator","dict_reverseitemiterator","odict_iterator","itertools.zip_longest","itertools.pairwise"].contains n=false) (a:Q () s):wpAny M A (letOwnedTupleGo b (.ref it) u) Q E s:=by
  unfold letOwnedTupleGo
  cases b <;>first
    |exact Qgq a
    |(cases u <;>first
        |exact Qgq a
        |(refine Qaq (wpAny_load c ?_)
          rw[e,hd]
          show wpAny M A (if (["enumerate","zip","dict_itemiterator","dict_reverseitemiterator","odict_iterator","itertools.zip_longest","itertools.pairwise"].contains n&&vs[0]? ==some (rawInt _))=true then _ else _) Q E s
          rw[Quq (by intro h;rw[d,Bool.false_and] at h;cases h)]
          exact Qgq a))
def KO(K:PySem.W.Frag)(a:Addr):It:=
 ⟨λi H=>∃b x,gr K H a b/\b[i]?=some x,λi H x c=>c=H/\∀b,gr K H a b->b[i]?=some x,λi H=>∃b,gr K H a b/\b.length<=i⟩
def Km(K:PySem.W.Frag)(a:Addr):It:=
 ⟨λi H=>∃b x,gB K H a b/\b[i]?=some x,λi H x c=>c=H/\∀b,gB K H a b->b[i]?=some x,λi H=>∃b,gB K H a b/\b.length<=i⟩
def Io(lo:Int)(n:Nat):It:=⟨λi _=>i<n,λi H x a=>a=H/\x=.int (lo+i),λi _=>n<=i⟩
def AA{P:Program}{w:World}{K:PySem.W.Frag}{Y:Expr}(a it:Addr):Turn P w K Y (KO K a) [it] it (λi h=>h.IsListIter it a i) where
 mem:=by simp
 obj:=λi h f b j=>by
  have e:b=it:=by simpa using j
  subst e
  obtain⟨o,e,c,d⟩:=f
  exact⟨o,e,λv z=>by rw[d] at z;cases z⟩
 keep:=λi h m f k=>f.at λo e=>k it (by simp) o e
 item:=by
  intro X r C F R i g s Q H E I q f L
  subst r C F
  obtain⟨Z,x,n,M⟩:=L
  obtain⟨G,B,p,hz⟩:=I.list n
  obtain⟨u,hu,ru⟩:=B.get M
  obtain⟨t,J,S,N,y,A⟩:=q it (by simp)
  refine wpAny_pyNext_list_item f p.isList (x:=u) (by simpa using hu) λm l sb=> ?_
  have I1:Inv X g Q H {s with heap:=m}:=I.turned (t':=s.toks) (λb o j e=>(sb.2 b j).trans e) t J N y A
  obtain⟨o,e,c,d⟩:=id l
  exact⟨u,rfl,zd (s:={s with heap:=m}) e c d (by decide) ⟨x,H,I1,ru,⟨rfl,λys U=>by rw[I.list_inj U n];exact M⟩,l,λb j=>(q b j).1⟩⟩
 done:=by
  intro X r C F R i g s Q H E I q f L
  subst r C F
  obtain⟨Z,n,M⟩:=L
  obtain⟨G,B,p,hz⟩:=I.list n
  obtain⟨t,J,S,N,y,A⟩:=q it (by simp)
  have hl:=B.length
  exact wpAny_pyNext_list_end (I.ok.hd R) f p.isList (by simp;omega) λm eb=>⟨rfl,I.turned (t':=s.toks) (λb o j e=>eb b o j e) t J N y A⟩
 self:=λ_ _ _ _ _ f h=>wpAny_pyIter_listiter f h
def xN{P:Program}{w:World}{K:PySem.W.Frag}{Y:Expr}(a it:Addr):Turn P w K Y (Km K a) [it] it (λi h=>h.IsTupleIter it a i) where
 mem:=by simp
 obj:=λi h f b l=>by
  have e:b=it:=by simpa using l
  subst e
  obtain⟨o,e,c,d⟩:=f
  exact⟨o,e,λv z=>by rw[d] at z;cases z⟩
 keep:=λi h n f k=>f.at λo e=>k it (by simp) o e
 item:=by
  intro X t F G R i g s Q H E I r f L
  subst t F G
  obtain⟨Z,x,q,M⟩:=L
  obtain⟨j,C,p,hz⟩:=I.tuple q
  obtain⟨u,hu,ru⟩:=C.get M
  obtain⟨y,J,S,N,A,B⟩:=r it (by simp)
  refine wpAny_pyNext_tuple_item f (show s.heap.IsTuple a j.toArray from p) (x:=u) (by simpa using hu) λn m sb=> ?_
  have I1:Inv X g Q H {s with heap:=n}:=I.turned (t':=s.toks) (λb o l e=>(sb.2 b l).trans e) y J N A B
  obtain⟨o,e,c,d⟩:=id m
  exact⟨u,rfl,zd (s:={s with heap:=n}) e c d (by decide) ⟨x,H,I1,ru,⟨rfl,λys U=>by rw[I.tuple_inj U q];exact M⟩,m,λb l=>(r b l).1⟩⟩
 done:=by
  intro X t F G R i g s Q H E I r f L
  subst t F G
  obtain⟨Z,q,M⟩:=L
  obtain⟨j,C,p,hz⟩:=I.tuple q
  obtain⟨y,J,S,N,A,B⟩:=r it (by simp)
  have hl:=C.length
  exact wpAny_pyNext_tuple_end (I.ok.hd R) f (show s.heap.IsTuple a j.toArray from p) (by simp;omega) λn eb=>⟨rfl,I.turned (t':=s.toks) (λb o l e=>eb b o l e) y J N A B⟩
 self:=λ_ _ _ _ _ f h=>wpAny_pyIter_tupleiter f h
def xj{P:Program}{w:World}{K:PySem.W.Frag}{J:Expr}(it:Addr)(lo:Int)(n:Nat):Turn P w K J (Io lo n) [it] it (λi h=>IsRangeIter h it (lo+(i:Nat)*1) ((n:Int)-(i:Nat)) 1) where
 mem:=by simp
 obj:=λi h a b d=>by
  have e:b=it:=by simpa using d
  subst e
  exact⟨_,a,λv z=>by
   have M:Data.fields _=Data.cell v:=z
   cases M⟩
 keep:=λi h g a k=>k it (by simp) _ a
 item:=by
  intro X l r u B i c s F H E I j a y
  subst l r u
  obtain⟨m,x,G,A,p,q⟩:=j it (by simp)
  have W:=Walks.range (prog:=X.prog) (w:=X.w) (I.ok.hd B) it lo 1 n
  refine W.item i s _ _ y a λv g C L f Q=> ?_
  obtain⟨t,rfl⟩:=L
  have N:Inv X c F H {s with heap:=g,toks:=C}:=I.turned (λb o d e=>Q b o (by simpa using d) e) m x A p q
  refine⟨_,rfl,zd (s:={s with heap:=g,toks:=C}) (n:="range_iterator") f rfl rfl (by decide) ⟨.int (lo+i),H,N,⟨t,?_⟩,⟨rfl,rfl⟩,f,λb d=>(j b d).1⟩⟩
  rw[Int.mul_one]
 done:=by
  intro X l r u B i c s F H E I j a y
  subst l r u
  obtain⟨m,x,G,A,p,q⟩:=j it (by simp)
  exact wpAny_pyNext_range_end (I.ok.hd B) a (by have:n<=i:=y;omega) λg R=>⟨rfl,I.turned (t':=s.toks) (λb o d e=>R b o d e) m x A p q⟩
 self:=λ_ _ _ _ _ a h=>wpAny_pyIter_rangeiter a h
section
variable{X:Cx}{tg:Expr}
def Bg{a:List (Addr×Obj)}{f:St}{H:Hp}{s:Shared}{R:It->Hp->Prop}{E:Value->Shared->Prop}{lo hi:Int}{t u v:Tok}{c:Nat}(I:Inv X a f H s)(j: -(2^62)<=lo)(i:lo<2^62)(m: -(2^62)<=hi)(l:hi<2^62)
  (q:R (Io lo (hi-lo).toNat) H):wpAny (model X.prog X.w) X.A (pyIter (.ref s.heap.objs.size)) (J2 X a f tg R) E {s with heap:=s.heap.push {cls:=.type "range",data:=.fields #[.int lo t,.int hi u,.int 1 v]},toks:=c}:=by
 refine wpAny_pyIter_range (IsRange.new ..) (small_one j i m l) ?_
 have d:Inv X a f H {s with heap:=s.heap.push {cls:=.type "range",data:=.fields #[.int lo t,.int hi u,.int 1 v]},toks:=c}:=I.kept λb o e=>Qcq _ e
 refine⟨(s.heap.push {cls:=.type "range",data:=.fields #[.int lo t,.int hi u,.int 1 v]}).objs.size,[(s.heap.push {cls:=.type "range",data:=.fields #[.int lo t,.int hi u,.int 1 v]}).objs.size],_,_,H,rfl,
  d.kept (t':=c) λb o e=>Qcq _ e,xj _ lo (hi-lo).toNat,?_,λb k=> ?_,q⟩
 ·have g:lo+((0:Nat):Int)*1=lo:=by simp
  have h:(((hi-lo).toNat:Nat):Int)-((0:Nat):Int)=Builtin.Range.rangeSize lo hi 1:=by rw[rangeSize_one];split <;>omega
  show IsRangeIter _ _ (lo+((0:Nat):Int)*1) ((((hi-lo).toNat:Nat):Int)-((0:Nat):Int)) 1
  rw[g,h]
  exact Qrq _ rfl
 ·have e:b=(s.heap.push {cls:=.type "range",data:=.fields #[.int lo t,.int hi u,.int 1 v]}).objs.size:=by simpa using k
  subst e
  exact d.fpOk (Qmq _) (d.hok.fresh (Qmq _))
def Hi(c:TA):TI:=λb H R=>c b H λa H1=>∃j:Int,a= [.int j]/\ -(2^62)<=j/\j<2^62/\R (Io 0 j.toNat) H1
def zN{a:Expr}{d:TA}{p pos:Pos}(m:Gl X "range")(f:X.mg "range"=none)(n:PA X [a] d)(g:starEach [a] X.env= [(false,eval a X.env)]:=by rfl):PI X tg (.Call (.Name "range" p) [a] [] pos) (Hi d):=by
 intro b s l H R I h
 refine Call_ (jg I m f boot_range (PyProof.Rows.callWith_type1 (bT (n pos b s l H _ I h) λw v ⟨x,H1,k,u,c⟩=> ?_) g rfl))
 obtain⟨j,e,c,o,q⟩:=c
 subst e
 cases u with
 | cons r i=>
   cases i
   obtain⟨t,rfl⟩:=r
   exact call_range_1 (Bg k (by omega) (by omega) c o (by simpa using q))
def Jn(f:TI)(g:TG)(h:TS):TS:=λD a H=>f a H λJ H1=>∃W:Nat->Nat->St->Hp->Prop,(∃m,W 0 m a H1)/\∀i m a H,W i m a H→
 (J.stop i H/\D.nx a H)\/(J.go i H/\∃N:St->Hp->Prop,(∀c b,N c b->∃e,e<m/\W (i+1) e c b)/\∀x b,J.yld i H x b->g x a b λd H2=>h {D with nx:=N,ct:=N,bk:=D.nx} d H2)
def kq(fp:List Addr)(h:Heap):List (Addr×Obj):=fp.filterMap λb=>(h.get? b).map λo=>(b,o)
def cy{fp:List Addr}{h:Heap}{b:Addr}{o:Obj}(a:b∈fp)(e:h.get? b=some o):(b,o)∈kq fp h:=List.mem_filterMap.mpr ⟨b,a,by rw[e];rfl⟩
def AK{fp:List Addr}{h:Heap}{p:Addr×Obj}(c:p∈kq fp h):p.1∈fp/\h.get? p.1=some p.2:=by
 obtain⟨b,a,e⟩:=List.mem_filterMap.mp c
 cases q:h.get? b with
 |none=>rw[q] at e;cases e
 | some o=>
   rw[q] at e
   have d:(b,o)=p:=QdQ e
   subst d
   exact⟨a,q⟩
def Inv.pinned{a:List (Addr×Obj)}{c:St}{H:Hp}{s:Shared}{fp:List Addr}(I:Inv X a c H s)(m:∀b∈fp,mr X a H b)(l:∀b∈fp,∃o,s.heap.get? b=some o/\∀v,o.data≠.cell v):Inv X (a++kq fp s.heap) c H s:=
 I.pins_of λp j=>(mQa.mp j).elim (λz=>I.pin p (Qoq _ z)) λz=>by
  obtain⟨f,e⟩:=AK z
  obtain⟨h,k,i,_⟩:=m p.1 f
  obtain⟨o,g,d⟩:=l p.1 f
  rw[e] at g;cases g
  exact⟨e,h,k,i,d⟩
def Inv.unpinned{a c:List (Addr×Obj)}{b:St}{H:Hp}{s:Shared}(I:Inv X (a++c) b H s):Inv X a b H s:=I.pins_of λp d=>I.pin p (Qoq _ (List.mem_append_left _ d))
def EO{k:Expr}{C:List Stmt}{wi:TI}{g:TG}{tb:TS}{pos:Pos}(P:PassesOwn (model X.prog X.w) X.A X.env X.xe)(hc:X.calm=true)(hi:PI X tg k wi)(hg:PG X tg g)(t:qH X C tb)
  (hs:∀x,foldedSetIterable k X.env x=pure x:=by intro _;rfl):PS X (.For tg k C [] pos) (Jn wi g tb):=by
 intro a s σ H D I h
 refine wpAny_For (bT (hi a s σ H _ I h) λv s1 h1=>bT h1 λa2 s2 h2=> ?_) hs
 obtain⟨it,S,tn,J,H2,e,I2,T,U,f2,W,⟨m0,w0⟩,K⟩:=h2
 subst e
 have y:∀{z:Hp},(∀b∈S,z b=none)->∀b∈S,mr X a z b:=λhn b t=>⟨hn b t,(f2 b t).2⟩
 refine codeAny_forLoop_any (λn s'=>∃i j z,Inv X a j z s'/\tn i s'.heap/\(∀b∈S,z b=none)/\W i n j z) ?_ m0 ⟨0,σ,H2,I2,U,λb t=>(f2 b t).1,w0⟩
 rintro n s3 ⟨i,p,H3,I3,R,M,w3⟩
 rcases K i n p H3 w3 with⟨stop,qn⟩|⟨go,N,hN,L⟩
 ·refine wpAny_passesOwn P (bT (T.done X rfl rfl rfl hc i a s3 p H3 X.xe I3 (y M) R stop) λr s4 G=> ?_)
  obtain⟨hr,I4⟩:=G
  subst hr
  exact wpAny_execs_nil ⟨p,H3,I4,qn⟩
 ·refine wpAny_passesOwn P (bT (T.item X rfl rfl rfl hc i a s3 p H3 X.xe I3 (y M) R go) λr s4 G=> ?_)
  obtain⟨u,hr,h4⟩:=G
  subst hr
  refine wpAny_passesOwn P (bT h4 λ_ s5 G=> ?_)
  obtain⟨x,H5,I5,r5,y5,F,a1⟩:=G
  have Z:=I5.pinned (y a1) (T.obj _ _ F)
  refine wpAny_passesOwn P (bT (hg _ s5 p H5 x u _ Z r5 (L x H5 y5)) λ_ s6 G=> ?_)
  obtain⟨Y,H6,I6,q6⟩:=G
  refine wpAny_passesOwn P (bT (t _ s6 Y H6 _ I6 q6) λf s7 B=> ?_)
  have again:∀{c:St} {l:Hp},Inv X (a++kq S s5.heap) c l s7->N c l->∃m,m<n/\∃i j z,Inv X a j z s7/\tn i s7.heap/\(∀b∈S,z b=none)/\W i m j z:=λ{c l} q Q=>by
   obtain⟨m',hm,w7⟩:=hN c l Q
   refine⟨m',hm,i+1,c,l,q.unpinned,T.keep _ _ _ F λb t o e=>(q.pin (b,o) (Qoq _ (Qoq _ (cy t e)))).1,λb t=> ?_,w7⟩
   obtain⟨o,e,d⟩:=T.obj _ _ F b t
   exact(q.pin (b,o) (Qoq _ (Qoq _ (cy t e)))).2.1
  cases f with
  |next=>obtain⟨c,l,q,Q⟩:=B;exact again q Q
  |cont=>obtain⟨c,l,q,Q⟩:=B;exact again q Q
  |brk=>obtain⟨c,l,q,B⟩:=B;exact⟨c,l,q.unpinned,B⟩
  |ret v=>obtain⟨x7,c,l,q,r7,B⟩:=B;exact⟨x7,c,l,q.unpinned,r7,B⟩
end
abbrev R2:=V->V->Hp->VK->Prop
def jL(X:Cx)(f:Value->Value->Sem Value)(r:R2):Prop:=
 ∀ (a:List (Addr×Obj)) (s:Shared) (b:St) (H:Hp) (x y:V) (v u:Value) (Q:VK),Inv X a b H s->RelV x v->RelV y u->r x y H Q→
   wpAny (model X.prog X.w) X.A (f v u) (EP X a b Q) X.xe s
def Jq(X:Cx)(f:Value->Sem Value)(r:V->Hp->VK->Prop):Prop:=
 ∀ (a:List (Addr×Obj)) (s:Shared) (b:St) (H:Hp) (x:V) (v:Value) (Q:VK),Inv X a b H s->RelV x v->r x H Q→
   wpAny (model X.prog X.w) X.A (f v) (EP X a b Q) X.xe s
def gQ(X:Cx)(f:Value)(r:List V->Hp->VK->Prop):Prop:=
 ∀ (a:List (Addr×Obj)) (s:Shared) (d:St) (H:Hp) (c:List V) (b:List Value) (Q:VK),Inv X a d H s->aX c b->r c H Q→
   wpAny (model X.prog X.w) X.A (call f b) (EP X a d Q) X.xe s
def JT(X:Cx)(r:V->Hp->(Bool->Hp->Prop)->Prop):Prop:=
 ∀ (a:List (Addr×Obj)) (s:Shared) (b:St) (H:Hp) (x:V) (v:Value) (Q:Bool->Hp->Prop),Inv X a b H s->RelV x v->r x H Q→
   wpAny (model X.prog X.w) X.A (truthy v) (TP X a b Q) X.xe s
def CJ(r:R2)(c b:TE):TE:=λa H Q=>c a H λx H1=>b a H1 λy H2=>r x y H2 Q
def Li(r:V->Hp->VK->Prop)(b:TE):TE:=λa H Q=>b a H λx H1=>r x H1 Q
def rI(C:Int->Int->Prop)(g:Int->Int->V):R2:=λx y H Q=>∃i j,x=.int i/\y=.int j/\C i j/\Q (g i j) H
def Ax(g:Int->Int->V):R2:=λx y H Q=>∃i j,x=.int i/\y=.int j/\Q (g i j) H
def rU(g:Int->V):V->Hp->VK->Prop:=λx H Q=>∃i,x=.int i/\Q (g i) H
section
variable{X:Cx}{a b c:Expr}{ta tb tc:TE}{pos:Pos}
def FY(p:PE X a ta)(t:PE X b tb){d:List (Addr×Obj)}{s:Shared}{e:St}{H:Hp}{R:V->V->Hp->Prop}(I:Inv X d e H s)
  (h:ta e H λx H1=>tb e H1 λy H2=>R x y H2) {Q:Value->Shared->Prop} {f:Value->Value->Sem Value}
  (B:∀v u j x y H2,Inv X d e H2 j->RelV x v->RelV y u->R x y H2->wpAny (model X.prog X.w) X.A (f v u) Q X.xe j):
  wpAny (model X.prog X.w) X.A (eval a X.env) (λv i=>wpAny (model X.prog X.w) X.A (eval b X.env) (λu g=>wpAny (model X.prog X.w) X.A (f v u) Q X.xe g) X.xe i) X.xe s:=by
 refine bT (p d s e H _ I h) λv m k=> ?_
 obtain⟨x,H1,o,z,r⟩:=k
 refine bT (t d m e H1 _ o r) λu j k=> ?_
 obtain⟨y,H2,l,n,q⟩:=k
 exact B v u j x y H2 l z n q
def oU{e:Operator}{r:R2}(m:jL X (binaryOp e) r)(j:PE X a ta)(k:PE X b tb):PE X (.BinOp a e b pos) (CJ r ta tb):=by
 intro d s i H Q I h
 exact wpAny_BinOp (FY j k I h λv u l x y H2 n g f q=>m d l i H2 x y v u Q n g f q)
def Hb{f:UnaryOp}{r:V->Hp->VK->Prop}(i:Jq X (unaryOp f) r)(k:PE X a ta):PE X (.UnaryOp f a pos) (Li r ta):=by
 intro d s e H Q I h
 exact UnaryOp_ (bT (k d s e H _ I h) λv g ⟨x,H1,l,j,m⟩=>i d g e H1 x v Q l j m)
def IM{f:Value->Value->Sem Value}{C:Int->Int->Prop}{g:Int->Int->Int}
  (d:∀(i j:Int) (t u:Tok) (s:Shared) (Q:Value->Shared->Prop) (E:Value->Shared->Prop),C i j->Q (.int (g i j) s.toks) {s with toks:=s.toks+1}->wpAny (model X.prog X.w) X.A (f (.int i t) (.int j u)) Q E s):
  jL X f (rI C λi j=>.int (g i j)):=by
 intro e s n H x y v u Q I l k h
 obtain⟨i,j,rfl,rfl,hc,q⟩:=h
 obtain⟨t,rfl⟩:=l
 obtain⟨m,rfl⟩:=k
 exact d i j t m s _ _ hc ⟨.int (g i j),H,I.tok _,⟨_,rfl⟩,q⟩
def Ia{f:Value->Value->Sem Value}{g:Int->Int->Int}
  (d:∀(i j:Int) (t u:Tok) (s:Shared) (Q:Value->Shared->Prop) (E:Value->Shared->Prop),Q (.int (g i j) s.toks) {s with toks:=s.toks+1}->wpAny (model X.prog X.w) X.A (f (.int i t) (.int j u)) Q E s):
  jL X f (Ax λi j=>.int (g i j)):=by
 intro e s n H x y v u Q I l k h
 obtain⟨i,j,rfl,rfl,q⟩:=h
 obtain⟨t,rfl⟩:=l
 obtain⟨m,rfl⟩:=k
 exact d i j t m s _ _ ⟨.int (g i j),H,I.tok _,⟨_,rfl⟩,q⟩
def Du{f:Value->Value->Sem Value}{g:Int->Int->Bool}
  (d:∀(i j:Int) (t u:Tok) (s:Shared) (Q:Value->Shared->Prop) (E:Value->Shared->Prop),Q (.bool (g i j)) s->wpAny (model X.prog X.w) X.A (f (.int i t) (.int j u)) Q E s):
  jL X f (Ax λi j=>.bl (g i j)):=by
 intro e s n H x y v u Q I l k h
 obtain⟨i,j,rfl,rfl,q⟩:=h
 obtain⟨t,rfl⟩:=l
 obtain⟨m,rfl⟩:=k
 exact d i j t m s _ _ ⟨.bl (g i j),H,I,rfl,q⟩
def Cb(i j:Int):Prop:=0<j/\j<1073741824
def Bu(i j:Int):Prop:=0<=j/\j<=1000000/\i.natAbs<2^64
def DB(i j:Int):Prop:=(-(2^64)<i/\i<2^64)\/(-(2^64)<j/\j<2^64)
def DB.ok{i j:Int}(h:DB i j):IntMulOk i j:=by
 rcases h with⟨e,d⟩|⟨e,d⟩
 ·exact .of_left (intBits_le_64 e d)
 ·exact .of_right (intBits_le_64 e d)
def Fm:jL X (binaryOp .Add) (Ax λi j=>.int (i+j)):=Ia λ_ _ _ _ _ _ _ q=>add_int q
def Fd:jL X (binaryOp .Sub) (Ax λi j=>.int (i-j)):=Ia λ_ _ _ _ _ _ _ q=>sub_int q
def D3:jL X (binaryOp .FloorDiv) (rI Cb λi j=>.int (i/j)):=IM λi j _ _ _ _ _ d q=>by
 have f:(0:Int)<j:=d.1
 have e:j<1073741824:=d.2
 exact floordiv_int (by omega) (by rw[Int.fdiv_eq_ediv_of_nonneg i (by omega)];exact q) (.inl (PyProof.noPylong_small (by omega)))
def F6:jL X (binaryOp .Mod) (rI (λ_ j=>0<j) λi j=>.int (i%j)):=IM λi j _ _ _ _ _ d q=>by
 have e:(0:Int)<j:=d
 exact mod_int' (by omega) (by rw[Int.fmod_eq_emod_of_nonneg i (by omega)];exact q)
def FP:jL X (binaryOp .Pow) (rI Bu λi j=>.int (i^j.toNat)):=IM λ_ _ _ _ _ _ _ d q=>pow_int_small d.1 d.2.1 d.2.2 q
def Lg{f:Value->Sem Value}{g:Int->Int}
  (d:∀(i:Int) (t:Tok) (s:Shared) (Q:Value->Shared->Prop) (E:Value->Shared->Prop),Q (.int (g i) s.toks) {s with toks:=s.toks+1}->wpAny (model X.prog X.w) X.A (f (.int i t)) Q E s):
  Jq X f (rU λi=>.int (g i)):=by
 intro e s k H x v Q I j h
 obtain⟨i,rfl,q⟩:=h
 obtain⟨t,rfl⟩:=j
 exact d i t s _ _ ⟨.int (g i),H,I.tok _,⟨_,rfl⟩,q⟩
def FC:Jq X (unaryOp .USub) (rU λi=>.int (-i)):=Lg λ_ _ _ _ _ q=>neg_int q
end
def xq:V->V->Bool
 |.non,.non=>true|.non,.int _=>true|.int _,.non=>true|.non,.bl _=>true|.bl _,.non=>true|.non,.str _=>true|.str _,.non=>true
 |.int _,.int _=>true|.bl _,.bl _=>true|.str _,.str _=>true|.byt _,.byt _=>true
 |.int _,.str _=>true|.str _,.int _=>true|.bl _,.str _=>true|.str _,.bl _=>true
 |_,_=>false
def K1:R2:=λx y H Q=>xq x y=true/\Q (.bl (decide (x=y))) H
def Kt:R2:=λx y H Q=>xq x y=true/\Q (.bl (!decide (x=y))) H
def yn{i j:Int}:decide (V.int i=V.int j)=(i==j):=by
 rw[Bool.eq_iff_iff]
 simp
def Cp{i j:Bool}:decide (V.bl i=V.bl j)=(i==j):=by
 rw[Bool.eq_iff_iff]
 simp
def zc{i j:Str}:decide (V.str i=V.str j)=(i==j):=by
 rw[Bool.eq_iff_iff]
 simp
def zk{i j:Array UInt8}:decide (V.byt i=V.byt j)=(i.toList==j.toList):=by
 rw[Bool.eq_iff_iff]
 cases i
 cases j
 simp
section
variable{X:Cx}{a b c:Expr}{ta tb tc:TE}{pos:Pos}
def bu{d:List (Addr×Obj)}{f:St}{H:Hp}{s:Shared}{Q:VK}{k g:Bool}(I:Inv X d f H s)(q:Q (.bl k) H)(e:k=g):EP X d f Q (.bool g) s:=by
 subst e
 exact⟨.bl k,H,I,rfl,q⟩
def GU:jL X (compareOp .Eq) K1:=by
 intro k s l H x y v u Q I g d h
 obtain⟨f,q⟩:=h
 cases x with
 | non=>
   cases g
   cases y with
   |non=>cases d;exact PySem.EqNone.eq_none_none (bu I q (by simp))
   |bl j=>cases d;exact PySem.EqNone.eq_none_bool (bu I q (by simp))
   |int j=>obtain⟨e,rfl⟩:=d;exact PySem.EqNone.eq_none_int (bu I q (by simp))
   |str j=>obtain⟨e,rfl⟩:=d;exact PySem.EqNone.eq_none_str (bu I q (by simp))
   |_=>exact absurd (show false=true from f) Qtq
 | bl i=>
   cases g
   cases y with
   |non=>cases d;exact PySem.EqNone.eq_bool_none (bu I q (by simp))
   |bl j=>cases d;exact eq_bool (bu I q Cp)
   |str j=>obtain⟨e,rfl⟩:=d;exact PySem.EqMixed.eq_bool_str (bu I q (by simp))
   |_=>exact absurd (show false=true from f) Qtq
 | int i=>
   obtain⟨t,rfl⟩:=g
   cases y with
   |non=>cases d;exact PySem.EqNone.eq_int_none (bu I q (by simp))
   |int j=>obtain⟨e,rfl⟩:=d;exact eq_int (bu I q yn)
   |str j=>obtain⟨e,rfl⟩:=d;exact PySem.EqMixed.eq_int_str (bu I q (by simp))
   |_=>exact absurd (show false=true from f) Qtq
 | str i=>
   obtain⟨t,rfl⟩:=g
   cases y with
   |non=>cases d;exact PySem.EqNone.eq_str_none (bu I q (by simp))
   |bl j=>cases d;exact PySem.EqMixed.eq_str_bool (bu I q (by simp))
   |int j=>obtain⟨e,rfl⟩:=d;exact PySem.EqMixed.eq_str_int (bu I q (by simp))
   |str j=>obtain⟨e,rfl⟩:=d;exact eq_str (bu I q zc)
   |_=>exact absurd (show false=true from f) Qtq
 | byt i=>
   obtain⟨t,rfl⟩:=g
   cases y with
   |byt j=>obtain⟨e,rfl⟩:=d;exact PySem.W.eq_bytes (bu I q zk)
   |_=>exact absurd (show false=true from f) Qtq
 |_=>cases y <;>exact absurd (show false=true from f) Qtq
def Ke:jL X (compareOp .NotEq) Kt:=by
 intro k s l H x y v u Q I g d h
 obtain⟨f,q⟩:=h
 cases x with
 | non=>
   cases g
   cases y with
   |non=>cases d;exact PySem.EqNone.ne_none_none (bu I q (by simp))
   |bl j=>cases d;exact PySem.EqNone.ne_none_bool (bu I q (by simp))
   |int j=>obtain⟨e,rfl⟩:=d;exact PySem.EqNone.ne_none_int (bu I q (by simp))
   |str j=>obtain⟨e,rfl⟩:=d;exact PySem.EqNone.ne_none_str (bu I q (by simp))
   |_=>exact absurd (show false=true from f) Qtq
 | bl i=>
   cases g
   cases y with
   |non=>cases d;exact PySem.EqNone.ne_bool_none (bu I q (by simp))
   |bl j=>cases d;exact ne_bool (bu I q (congrArg not Cp))
   |str j=>obtain⟨e,rfl⟩:=d;exact PySem.EqMixed.ne_bool_str (bu I q (by simp))
   |_=>exact absurd (show false=true from f) Qtq
 | int i=>
   obtain⟨t,rfl⟩:=g
   cases y with
   |non=>cases d;exact PySem.EqNone.ne_int_none (bu I q (by simp))
   |int j=>obtain⟨e,rfl⟩:=d;exact ne_int (bu I q (congrArg not yn))
   |str j=>obtain⟨e,rfl⟩:=d;exact PySem.EqMixed.ne_int_str (bu I q (by simp))
   |_=>exact absurd (show false=true from f) Qtq
 | str i=>
   obtain⟨t,rfl⟩:=g
   cases y with
   |non=>cases d;exact PySem.EqNone.ne_str_none (bu I q (by simp))
   |bl j=>cases d;exact PySem.EqMixed.ne_str_bool (bu I q (by simp))
   |int j=>obtain⟨e,rfl⟩:=d;exact PySem.EqMixed.ne_str_int (bu I q (by simp))
   |str j=>obtain⟨e,rfl⟩:=d;exact ne_str (bu I q (congrArg not zc))
   |_=>exact absurd (show false=true from f) Qtq
 | byt i=>
   obtain⟨t,rfl⟩:=g
   cases y with
   |byt j=>obtain⟨e,rfl⟩:=d;exact PySem.W.ne_bytes (bu I q (congrArg not zk))
   |_=>exact absurd (show false=true from f) Qtq
 |_=>cases y <;>exact absurd (show false=true from f) Qtq
def Kj:jL X (compareOp .Lt) (Ax λi j=>.bl (decide (i<j))):=Du λ_ _ _ _ _ _ _ q=>lt_int q
def Kn:jL X (compareOp .LtE) (Ax λi j=>.bl (decide (i<=j))):=Du λ_ _ _ _ _ _ _ q=>le_int q
def KS:jL X (compareOp .Gt) (Ax λi j=>.bl (decide (j<i))):=Du λ_ _ _ _ _ _ _ q=>gt_int q
def J4:jL X (compareOp .GtE) (Ax λi j=>.bl (decide (j<=i))):=Du λ_ _ _ _ _ _ _ q=>ge_int q
def Jw:jL X (compareOp .Is) (λx y H Q=>y=.non/\Q (.bl (decide (x=.non))) H):=by
 intro d s g H x y v u Q I e f h
 obtain⟨rfl,q⟩:=h
 cases f
 refine is_none_gen (bu I q ?_)
 cases x <;>first
  |(cases e;rfl)
  |(obtain⟨t,rfl⟩:=e;rfl)
def jL.or{f:Value->Value->Sem Value}{r e:R2}(h:jL X f r)(h':jL X f e):jL X f (λx y H Q=>r x y H Q\/e x y H Q):=by
 intro d s g H x y v u Q I j i q
 rcases q with q|q
 ·exact h d s g H x y v u Q I j i q
 ·exact h' d s g H x y v u Q I j i q
def xx(b:Expr){d:CmpOp}(h:d≠.In:=by decide)(e:d≠.NotIn:=by decide):behindInMarks d b=false:=by
 have f:(d==CmpOp.In)=false:=by cases d <;>first|rfl|exact absurd rfl h
 have g:(d==CmpOp.NotIn)=false:=by cases d <;>first|rfl|exact absurd rfl e
 cases b <;>simp[behindInMarks,f,g]
def zr{e:CmpOp}{r:R2}(o:jL X (compareOp e) r)(l:PE X a ta)(m:PE X b tb)(g:behindInMarks e b=false):PE X (.Compare a [e] [b] pos) (CJ r ta tb):=by
 intro d s k H Q I h
 exact wpAny_Compare1 (FY l m I h λv u n x y H2 f j i q=>o d n k H2 x y v u Q f j i q) g
def CA(t:TE):TT:=λd H Q=>t d H λx e=>∃k,x=.bl k/\Q k e
def kZ{g:CmpOp}{r:R2}(F:jL X (compareOp g) r)(t:PE X a ta)(B:PE X b tb)(l:behindInMarks g b=false):PT X (.Compare a [g] [b] pos) (CA (CJ r ta tb)):=by
 intro d s f H Q I h
 refine wpAny_isTrue_Compare1 (bT (t d s f H _ I h) λv j ⟨x,H1,o,G,A⟩=>bT (B d j f H1 _ o A) λu C ⟨y,H2,i,m,w⟩=>
  bT (F d C f H2 x y v u _ i G m w) λc J ⟨z,H3,q,n,k,e,p⟩=> ?_) l
 subst e
 cases n
 exact wpAny_truthy_bool ⟨H3,q,p⟩
def E6(K:PySem.W.Frag)(x:V)(H:Hp)(k:Bool):Prop:=
 match x with
 |.non=>k=false
 |.bl b=>k=b
 |.int i=>k=(i !=0)
 |.str y=>y.length<=sizeLine/\k=((y.length:Int) !=0)
 |.byt y=>y.size<=sizeLine/\k=((y.size:Int) !=0)
 |.ref p=>(∃d,gr K H p d/\k= !d.isEmpty)\/(∃d,gB K H p d/\k= !d.isEmpty)\/∃e,H p=some (.dK e)/\k= !e.isEmpty
 |_=>False
def w4{e:Type}{d:List (e×V)}{vs:List (e×Value)}(r:KV d vs):(!vs.isEmpty)= !d.isEmpty:=by
 cases r <;>rfl
def qv{xs:List V}{d:List Value}(r:aX xs d):(!d.toArray.isEmpty)= !xs.isEmpty:=by
 cases r <;>simp
def jv:(sizeLine:Nat)<2^63:=by rw[sizeLine_eq];decide
def F1:JT X (λx H Q=>∃k,E6 X.K x H k/\Q k H):=by
 intro B s J H x v Q I l h
 obtain⟨k,e,q⟩:=h
 have L:=jv
 have G:sizeLine=16777216:=sizeLine_eq
 cases x with
 | non=>
   cases l
   have d:k=false:=e
   subst d
   exact truthy_none ⟨H,I,q⟩
 | bl b=>
   cases l
   have d:k=b:=e
   subst d
   exact wpAny_truthy_bool ⟨H,I,q⟩
 | int i=>
   obtain⟨t,rfl⟩:=l
   have d:k=(i !=0):=e
   subst d
   exact PySem.P.truthy_int ⟨H,I,q⟩
 | str y=>
   obtain⟨t,rfl⟩:=l
   obtain⟨C,d⟩:y.length<=sizeLine/\k=((y.length:Int) !=0):=e
   subst d
   exact PySem.P.truthy_str (by omega) ⟨H,I.tok _,q⟩
 | byt y=>
   obtain⟨t,rfl⟩:=l
   obtain⟨C,d⟩:y.size<=sizeLine/\k=((y.size:Int) !=0):=e
   subst d
   exact PySem.W.truthy_bytes (by omega) ⟨H,I.tok _,q⟩
 | ref p=>
   cases l
   have d:(∃j,gr X.K H p j/\k= !j.isEmpty)\/(∃j,gB X.K H p j/\k= !j.isEmpty)\/∃f,H p=some (.dK f)/\k= !f.isEmpty:=e
   rcases d with⟨j,n,d⟩|⟨j,n,d⟩|⟨f,n,d⟩
   · subst d
     obtain⟨z,r,u,A⟩:=I.list n
     have g:=r.length
     exact wpAny_truthy_list u.isList (by simp only[Qjq];omega) ⟨H,I.tok _,by rw[qv r];exact q⟩
   · subst d
     obtain⟨z,r,u,A⟩:=I.tuple n
     have g:=r.length
     exact truthy_tuple u (by simp only[Qjq];omega) ⟨H,I.tok _,by rw[qv r];exact q⟩
   · subst d
     obtain⟨A,F,o,r,m⟩:f.length<=sizeLine/\(p==sysModules)=false/\∃o,KV f o/\s.heap.DictOf (aW X.prog X.w) p o:=I.hok p _ n
     have g:f.length=o.length:=Paired.length r
     exact wpAny_truthy_dict F m (by omega) ⟨H,I.tok _,by rw[w4 r];exact q⟩
 |_=>exact(show False from e).elim
def BD(l:PE X a ta)(he:∀d,isTrue a X.env d=(do let v←d;standAt a.pos;holding [v] (truthy v))):
  PT X a (λf H Q=>ta f H λx g=>∃k,E6 X.K x g k/\Q k g):=by
 intro e s f H Q I h
 exact isTrue_plain (bT (l e s f H _ I h) λv i ⟨x,H1,j,n,m⟩=>F1 e i f H1 x v Q j n m) (he _)
def xB:jL X (binaryOp .Add) (λx y H Q=>∃i j,x=.str i/\y=.str j/\i.length+j.length<=sizeLine/\Q (.str (i++j)) H):=by
 intro d s k H x y v u Q I g f h
 obtain⟨i,j,rfl,rfl,hz,q⟩:=h
 obtain⟨t,rfl⟩:=g
 obtain⟨e,rfl⟩:=f
 exact add_str (λe l=>⟨.str (i++j),H,I.tok _,⟨_,rfl⟩,q⟩) hz
def vals1{x:V}{d:List Value}(r:aX [x] d):∃u,d= [u]/\RelV x u:=by
 cases r with
 |cons f e=>cases e;exact⟨_,rfl,f⟩
def vals2{x y:V}{d:List Value}(r:aX [x,y] d):∃u e,d= [u,e]/\RelV x u/\RelV y e:=by
 cases r with
 | cons h f=>
   cases f with
   |cons i g=>cases g;exact⟨_,_,rfl,h,i⟩
def HA:gQ X (.builtin "abs") (λxs H Q=>∃i,xs= [.int i]/\Q (.int (if i<0 then -i else i)) H):=by
 intro d s f H xs e Q I r h
 obtain⟨i,rfl,q⟩:=h
 obtain⟨u,rfl,t,rfl⟩:=vals1 r
 exact call_abs_int λu g=>⟨.int (if i<0 then -i else i),H,I.tok _,⟨_,rfl⟩,q⟩
def Gi(f:X.calm=true):gQ X (.builtin "max") (λxs H Q=>∃i j,xs= [.int i,.int j]/\Q (.int (if j>i then j else i)) H):=by
 intro e s n H xs o Q I r h
 obtain⟨i,j,rfl,q⟩:=h
 obtain⟨u,m,rfl,⟨t,rfl⟩,⟨t',rfl⟩⟩:=vals2 r
 refine max_two_ints (I.ok.hd f) λg l k=>⟨_,H,I.kept k,?_,q⟩
 by_cases d:j>i
 ·rw[Qhq d,Qhq d];exact⟨_,rfl⟩
 ·rw[Quq d,Quq d];exact⟨_,rfl⟩
def Gd(f:X.calm=true):gQ X (.builtin "min") (λxs H Q=>∃i j,xs= [.int i,.int j]/\Q (.int (if j<i then j else i)) H):=by
 intro e s n H xs o Q I r h
 obtain⟨i,j,rfl,q⟩:=h
 obtain⟨u,m,rfl,⟨t,rfl⟩,⟨t',rfl⟩⟩:=vals2 r
 refine min_two_ints (I.ok.hd f) λg l k=>⟨_,H,I.kept k,?_,q⟩
 by_cases d:j<i
 ·rw[Qhq d,Qhq d];exact⟨_,rfl⟩
 ·rw[Quq d,Quq d];exact⟨_,rfl⟩
def Gg:gQ X (.type "int") (λxs H Q=>(∃i,xs= [.int i]/\Q (.int i) H)\/∃k,xs= [.bl k]/\Q (.int (if k then 1 else 0)) H):=by
 intro d s f H xs e Q I r h
 rcases h with⟨i,rfl,q⟩|⟨k,rfl,q⟩
 ·obtain⟨u,rfl,t,rfl⟩:=vals1 r
  exact call_int_int ⟨.int i,H,I,⟨_,rfl⟩,q⟩
 ·obtain⟨u,rfl,r1⟩:=vals1 r
  cases r1
  exact call_int_bool ⟨.int (if k then 1 else 0),H,I.tok _,⟨_,rfl⟩,q⟩
end
structure Fv(h:Heap)(x dx C:Addr)(mA:Str->Option Value):Prop where
 obj:h.get? x=some (PySem.W.instObj C dx)
 ns:h.Ns1 dx mA
 ne:dx≠x
def zL{h:Heap}{g:Addr}{c:Str->Option Value}(n:h.Ns1 g c):∃d,h.get? g=some d/\∀name,PySem.W.lookIn name d=some (c name):=by
 obtain⟨o,f,r,p,l,k,_,i⟩:=n
 refine⟨o,p,λname=> ?_⟩
 have e:=i name
 unfold nsFind findBy at e
 rw[←Array.find?_toList] at e
 unfold PySem.W.lookIn
 rw[l]
 dsimp only
 split
 ·rename_i y q
  rw[q] at e
  exact congrArg some e
 ·rename_i q
  rw[q] at e
  have a:f.toList.any (·.refKey)=false:=by
   rw[List.any_eq_false]
   intro y j
   obtain⟨z,t,b⟩:=k y (Array.mem_toList_iff.mp j)
   simp[DictEntry.refKey,b]
  have m:¬f.toList.any (·.refKey)=true:=by rw[a];exact Qtq
  rw[Quq m]
  exact congrArg some e
def Fv.look{h:Heap}{x b C:Addr}{c:Str->Option Value}(I:Fv h x b C c):∃a,PySem.W.InstAt h x (PySem.W.instObj C b) C (some a)/\∀name,PySem.W.lookIn name a=some (c name):=
 let ⟨a,ho,hl⟩:=zL I.ns
 ⟨a,⟨I.obj,rfl,rfl,ho⟩,hl⟩
def pX.some_of{v:V}{o:Option Value}(r:pX (some v) o):∃u,o=some u/\RelV v u:=by
 cases o with
 |none=>exact(show False from r).elim
 |some u=>exact⟨u,rfl,r⟩
section
variable{P:Program}{w:World}{H H':Hp}{h h':Heap}{a C dx:Addr}{fs fs':List (Str×V)}
def De(c:kW P w H h)(e:H a=some (.ins C dx fs)):∃b,Fv h a dx C b/\(∀f,pX (fs.lookup f) (b f))/\PySem.Within b (fs.map (·.1))/\fs.length<=1000/\H dx=some (.own a):=by
 obtain⟨d,z,i,g,b,n,r,q⟩:=(show bI P w H h a (.ins C dx fs) from c a _ e)
 exact⟨b,⟨g,n,i⟩,r,q,z,d⟩
end
structure Jd(K:PySem.W.Frag)(C:Addr):Prop where
 pg:PySem.W.plainGet K C Str.empty=true
 hd:PySem.W.hasDictIn K C=true
 po:PySem.W.plainOver K C=true
 sa:PySem.W.findIn K (.ref C) "__setattr__"=some (some (.builtin "object.__setattr__"))
def Jd.get{K:PySem.W.Frag}{C:Addr}(c:Jd K C)(f:Str):PySem.W.plainGet K C f=true:=c.pg
section
variable{X:Cx}{pins:List (Addr×Obj)}{σ:St}{H:Hp}{s:Shared}{A:Around}{E:Value->Shared->Prop}{Q:Value->Shared->Prop}{c:Value}{b:Bool}
inductive mY(K:PySem.W.Frag)(H:Hp):V->Value->Prop where
 |non:mY K H .non (.type "NoneType")
 |bl (x:Bool):mY K H (.bl x) (.type "bool")
 |int (i:Int):mY K H (.int i) (.type "int")
 |str (x:Str):mY K H (.str x) (.type "str")
 |flt (x:UInt64):mY K H (.flt x) (.type "float")
 |lst {a:Addr} {xs:List V} (e:H a=some (.lst xs)):mY K H (.ref a) (.type "list")
 |frz {a:Addr} {o:Obj} {xs:List V} (e:H a=some (.frz o (.lst xs))):mY K H (.ref a) (.type "list")
 |tup {a:Addr} {xs:List V} (e:H a=some (.tup xs)):mY K H (.ref a) (.type "tuple")
 |dK {a:Addr} {kvs:List (Key×V)} (e:H a=some (.dK kvs)):mY K H (.ref a) (.type "dict")
 |dT {a:Addr} {kvs:List (List Key×V)} (e:H a=some (.dT kvs)):mY K H (.ref a) (.type "dict")
 |ins {a C dx:Addr} {fs:List (Str×V)} (e:H a=some (.ins C dx fs)) (cl:Jd K C) (ha:PySem.W.findIn K (.ref C) "__class__"=some (some (.builtin "object.__class__")))
   (hn:PySem.W.specialIn K (.builtin "object.__class__") "__get__"=some (some (.builtin "getset_descriptor.__get__"))) (htk:PySem.W.takesIn K (.builtin "object.__class__")=some true)
   (hm:PySem.W.mroIn K C (.type "object")=some true):mY K H (.ref a) (.ref C)
def zE{x:V}{u t:Value}(I:Inv X pins σ H s)(d:RelV x u)(l:mY X.K H x t)(e:PySem.W.kitOne X.K t c=some b)(h:∀m,Q (.bool b) {s with toks:=m}):
  wpAny (model X.prog X.w) A (call (.builtin "isinstance") [u,c]) Q E s:=by
 cases l with
 |non=>cases (show u=Value.none from d);exact PySem.W.kia_one PySem.W.kitx_none I.kIn True.intro e (λz=>nomatch z) h
 |bl y=>cases (show u=Value.bool y from d);exact PySem.W.kia_one PySem.W.kitx_bool I.kIn True.intro e (λz=>nomatch z) h
 |int i=>obtain⟨t,q⟩:=(show∃t,u=Value.int i t from d);cases q;exact PySem.W.kia_one PySem.W.kitx_int I.kIn True.intro e (λz=>nomatch z) h
 |str y=>obtain⟨t,q⟩:=(show∃t,u=Value.str y t from d);cases q;exact PySem.W.kia_one PySem.W.kitx_str I.kIn True.intro e (λz=>nomatch z) h
 |flt y=>obtain⟨t,q⟩:=(show∃t,u=Value.float y t from d);cases q;exact PySem.W.kia_one PySem.W.kitx_float I.kIn True.intro e (λz=>nomatch z) h
 | @lst a g ea=>
   cases (show u=Value.ref a from d)
   obtain⟨_,_,n,_,f⟩:=(show bI X.prog X.w H s.heap a (.lst g) from I.hok a _ ea)
   exact PySem.W.kia_one PySem.W.kitx_list I.kIn ⟨_,f,rfl⟩ e (λz=>nomatch z) h
 | @frz a ob g ea=>
   cases (show u=Value.ref a from d)
   obtain⟨_,_,_,n,_,f⟩:=(show bI X.prog X.w H s.heap a (.frz ob (.lst g)) from I.hok a _ ea)
   exact PySem.W.kia_one PySem.W.kitx_list I.kIn ⟨_,f,rfl⟩ e (λz=>nomatch z) h
 | @tup a g ea=>
   cases (show u=Value.ref a from d)
   obtain⟨_,_,_,p⟩:=(show bI X.prog X.w H s.heap a (.tup g) from I.hok a _ ea)
   obtain⟨o,f,j,_⟩:=p
   exact PySem.W.kia_one PySem.W.kitx_tuple I.kIn ⟨o,f,j⟩ e (λz=>nomatch z) h
 | @dK a kvs ea=>
   cases (show u=Value.ref a from d)
   obtain⟨_,_,F,_,p⟩:=(show bI X.prog X.w H s.heap a (.dK kvs) from I.hok a _ ea)
   obtain⟨o,r,k,f,j,_⟩:=p
   exact PySem.W.kia_one PySem.W.kitx_dict I.kIn ⟨o,f,j.1⟩ e (λz=>nomatch z) h
 | @dT a kvs ea=>
   cases (show u=Value.ref a from d)
   obtain⟨_,_,g,_,o,r,k,f,j,_⟩:=(show bI X.prog X.w H s.heap a (.dT kvs) from I.hok a _ ea)
   exact PySem.W.kia_one PySem.W.kitx_dict I.kIn ⟨o,f,j.1⟩ e (λz=>nomatch z) h
 | @ins a C dx fs ea cl ha hn htk hm=>
   cases (show u=Value.ref a from d)
   obtain⟨v,O,_⟩:=De I.hok ea
   obtain⟨B,J,_⟩:=O.look
   exact PySem.W.kia_one (PySem.W.kitx_own (cl.get _) cl.hd ha hn htk hm) I.kIn J e (λz=>nomatch z) h
end
structure dS(k:Nat)(A:Around):Prop where
 hd:A.handled=none
 dp:A.depth+3*k+5<recursionLimit
 un:A.units+16*k+200<cLine
def dS.mono{j k:Nat}{A:Around}(r:dS k A)(h:j<=k):dS j A:=⟨r.hd,by have:=r.dp;omega,by have:=r.un;omega⟩
def dS.deeper{k:Nat}{A:Around}(r:dS (k+1) A)(env:Env):dS k (A.deeper env):=
 ⟨r.hd,by have:=r.dp;show A.depth+1+3*k+5<_;omega,by have:=r.un;show A.units+3+16*k+200<_;omega⟩
def dS.depth{k:Nat}{A:Around}(r:dS k A):A.depth<recursionLimit:=by have:=r.dp;omega
def dS.units{k:Nat}{A:Around}(r:dS k A):A.units+64<cLine:=by have:=r.un;omega
def dS.units0{k:Nat}{A:Around}(r:dS k A):A.units<cLine:=by have:=r.un;omega
def Ff:TA:=λ_ H Q=>Q [] H
def AN(c:TE)(d:TA):TA:=λa H Q=>c a H λx H1=>d a H1 λb H2=>Q (x::b) H2
section
variable{X:Cx}{e:Expr}{es:List Expr}{te:TE}{t:TA}{pos:Pos}
def eE:PA X [] Ff:=λ_ _ _ _ H Q I h=>Calls.spliced_nil ⟨[],H,I,.nil,h⟩
def cB(k:PE X e te)(o:PA X es t)(g:starEach (e::es) X.env=(false,eval e X.env)::starEach es X.env:=by rfl):PA X (e::es) (AN te t):=by
 intro pos a s b H Q I h
 rw[g]
 show wpAny _ _ (spliced ((false,eval e X.env)::backTo pos (starEach es X.env))) _ _ s
 refine Calls.spliced_cons (bT (k a s b H _ I h) λu d n=> ?_)
 obtain⟨x,H1,j,p,m⟩:=n
 exact bT (o pos a d b H1 _ j m) λq r ⟨i,H2,c,f,l⟩=>⟨x::i,H2,c,.cons p f,l⟩
def JJ(t:TA):TE:=λb H Q=>t b H λa H1=>a.length<=sizeLine/\∀p,H1 p=none->Q (.ref p) (upd H1 p (.tup a))
def JF(t:TA):TE:=λb H Q=>t b H λa H1=>a.length<=sizeLine/\∀p,H1 p=none->Q (.ref p) (upd H1 p (.lst a))
def EG{x1}(h:PA X es t):PE X (.Tuple es x1 pos) (JJ t):=by
 intro a s g H Q I i
 refine wpAny_Tuple_spliced (bT (h pos a s g H _ I i) λj c ⟨f,H1,d,r,z,q⟩=>⟨by rw[←r.length];exact z,?_⟩)
 have k:H1 c.heap.objs.size=none:=d.hok.fresh (Qmq _)
 refine⟨.ref c.heap.objs.size,upd H1 c.heap.objs.size (.tup f),d.laid (t':=c.toks) (λb u e=>Qcq _ e) (Qmq _) ?_,rfl,q _ k⟩
 exact⟨z,j,r,⟨_,Qrq _ rfl,rfl,rfl,_,rfl⟩⟩
def EE(h:PA X es t):PE X (.List es pos) (JF t):=by
 intro a s g H Q I i
 refine wpAny_List_spliced (bT (h pos a s g H _ I i) λj c ⟨f,H1,d,r,z,q⟩=>⟨by rw[←r.length];exact z,?_⟩)
 have k:H1 c.heap.objs.size=none:=d.hok.fresh (Qmq _)
 refine⟨.ref c.heap.objs.size,upd H1 c.heap.objs.size (.lst f),d.laid (t':=c.toks) (λb u e=>Qcq _ e) (Qmq _) ?_,rfl,q _ k⟩
 exact⟨z,j,0,r,Qrq _ rfl⟩
end
abbrev Sp:=List V->Hp->VK->XK->Prop
abbrev AL:=List Env->Hp->Shared->XK->Value->Shared->Prop
structure D5(P:Program)(w:World)(K:PySem.W.Frag)(mg:Str->Option Value)(base:Heap)(A:Around)(outer:List Env)(s:Shared)(H:Hp):Prop where
 frames:A.frames=some outer
 mod:Mod K mg base
 bs:∀b o,base.get? b=some o->s.heap.get? b=some o/\H b=none
 bsz:base.objs.size<=s.heap.objs.size
 funs:s.heap.FunFrames base outer
 frf:∀b∈Cr outer,H b=none
 hok:kW P w H s.heap
 bare:AllBare s.gens
def CE(outer:List Env)(P:Program)(w:World)(H:Hp)(s:Shared)(Q:VK)(u:Value)(a:Shared):Prop:=
 ∃v b,a.os=s.os/\AllBare a.gens/\Un (Cr outer) [] H b s.heap a.heap/\kW P w b a.heap/\RelV v u/\Q v b
def CR(CX:AL)(outer:List Env)(P:Program)(w:World)(H:Hp)(s:Shared)(Q:VK)(E:XK)(r:Result)(a:Shared):Prop:=
 match r with
 |.ok (.ret u)=>CE outer P w H s Q u a
 |.ok _=>False
 |.error e=>CX outer H s E e a
structure aV(P:Program)(w:World)(K:PySem.W.Frag)(mg:Str->Option Value)(base:Heap)(CX:AL)(k:Nat)(f:Addr)(fd:FuncData)(ps:List Str)(sp:Sp):Prop where
 len:∀vs H Q E,sp vs H Q E->vs.length=ps.length
 run:∀(A:Around) (outer:List Env) (s:Shared) (H:Hp) (args:Args) (us:List Value) (vs:List V) (Q:VK) (E:XK),dS k A->D5 P w K mg base A outer s H->BindsTo s fd args (ps.zip us)->aX vs us->sp vs H Q E→
  codeAny (model P w) A (.call (.ref f) args) (CR CX outer P w H s Q E) s
def aV.mono{P:Program}{w:World}{K:PySem.W.Frag}{mg:Str->Option Value}{base:Heap}{CX:AL}{j k:Nat}{f:Addr}{c:FuncData}{ps:List Str}{sp:Sp}(F:aV P w K mg base CX j f c ps sp)(h:j<=k):
  aV P w K mg base CX k f c ps sp:=⟨F.len,λA a s H b d e Q E g=>F.run A a s H b d e Q E (g.mono h)⟩
def aV.imp{P:Program}{w:World}{K:PySem.W.Frag}{mg:Str->Option Value}{base:Heap}{CX:AL}{k:Nat}{f:Addr}{c:FuncData}{ps:List Str}{sp sp':Sp}(F:aV P w K mg base CX k f c ps sp)
  (h:∀vs H Q E,sp' vs H Q E->sp vs H Q E):aV P w K mg base CX k f c ps sp':=
 ⟨λvs H Q E q=>F.len vs H Q E (h _ _ _ _ q),λA a s H b i vs Q E l g j e d=>F.run A a s H b i vs Q E l g j e (h _ _ _ _ d)⟩
section
variable{X:Cx}{pins:List (Addr×Obj)}{σ:St}{H:Hp}{s s':Shared}
def Inv.env0(I:Inv X pins σ H s):D5 X.prog X.w X.K X.mg X.base X.A X.stack s H:=
 ⟨I.ok.frames,I.ok.mod,I.bs,QAq I.ok.bsz I.sz,I.stack,I.stkFree,I.hok,I.bare⟩
def Inv.after{Q:VK}{u:Value}(I:Inv X pins σ H s)(h:CE X.stack X.prog X.w H s Q u s'):EP X pins σ Q u s':=by
 obtain⟨v,f,j,a,k,e,r,q⟩:=h
 obtain⟨i,g,d,t,c⟩:=s'
 obtain rfl:c=s.os:=j
 exact⟨v,f,I.call (h':=i) (g':=g) (d':=d) (t':=t) (ch:= []) k e a (λb z=>absurd z (by simp)),r,q⟩
end
def Be(sp:Sp)(a:List V)(E:XK)(t:TA):TE:=λc H Q=>t c H λb H1=>sp (b++a) H1 Q E
def Binds(K:PySem.W.Frag)(b:FuncData)(ps:List Str)(ds:List Value):Prop:=
 ∀(s:Shared) (a:List Value),K.In s.heap->(a++ds).length=ps.length->BindsTo s b ⟨a,[]⟩ (ps.zip (a++ds))
def Binds.all{K:PySem.W.Frag}{b:FuncData}{ps:List Str}(h:∀a:List Value,a.length=ps.length->bindArgs b ⟨a,[]⟩=pure (ps.zip a)):Binds K b ps []:=λs a _ c=>by
 rw[List.append_nil] at c⊢
 exact .of_eq (h a c)
def xb(CX:AL)(X:Cx)(E:XK):Prop:=∀(a:List (Addr×Obj)) (c:St) (H:Hp) (s:Shared) (e:Value) (b:Shared),Inv X a c H s->CX X.stack H s E e b->X.xe e b
section
variable{X:Cx}{CX:AL}{k:Nat}{f C:Addr}{fd:FuncData}{ps:List Str}{sp:Sp}{dvs:List V}{ds:List Value}{E:XK}{x m:Str}{p pos apos:Pos}{e o:Expr}{es:List Expr}{ta:TE}{t:TA}
def AV{a:List (Addr×Obj)}{d:St}{H:Hp}{s:Shared}{Q:VK}{b:List Value}{vs:List V}(F:aV X.prog X.w X.K X.mg X.base CX k f fd ps sp)(v:dS k X.A)(q:Binds X.K fd ps ds)(hd:aX dvs ds)(n:xb CX X E)
  (I:Inv X a d H s) (r:aX vs b) (h:sp (vs++dvs) H Q E):wpAny (model X.prog X.w) X.A (call (.ref f) b) (EP X a d Q) X.xe s:=by
 have g:aX (vs++dvs) (b++ds):=r.append hd
 have l:(b++ds).length=ps.length:=by rw[←g.length];exact F.len _ _ _ _ h
 refine wpAny_call (codeAny_mono (F.run X.A X.stack s H ⟨b,[]⟩ (b++ds) (vs++dvs) Q E v I.env0 (q s b I.kIn l) g h) λr i c=> ?_)
 cases r with
 |error e=>exact n a d H s e i I c
 | ok j=>
   cases j with
   |ret u=>exact I.after c
   |next=>exact False.elim c
   |brk=>exact False.elim c
   |cont=>exact False.elim c
def yX(F:aV X.prog X.w X.K X.mg X.base CX k f fd ps sp)(v:dS k X.A)(j:Gl X x)(d:X.mg x=some (.ref f))(g:PySem.W.keepIn X.K (.ref f)=true)(u:Binds X.K fd ps ds)(hd:aX dvs ds)(n:xb CX X E)
  (l:PA X (e::es) t) (b:(x==("__debug__":Str))=false:=by decide) (he:starEach (e::es) X.env=(false,eval e X.env)::starEach es X.env:=by rfl) (hpl:(backTo pos (starEach es X.env)).any (·.1)=false:=by rfl):
  PE X (.Call (.Name x p) (e::es) [] pos) (Be sp dvs E t):=by
 intro a s i H Q I h
 refine wpAny_Call_Name_kw (t7 I j d ?_ b)
 refine PySem.W.callWith_K (h₀:=X.base) I.ok.mod.kin g (bT (l pos a s i H _ I h) λz y ⟨B,H1,c,r,q⟩=>⟨c.kIn,?_⟩) he hpl
 exact AV F v u hd n c r q
end
structure aB(N P:List Str)(sc:Scope):Prop where
 kind:sc.kind=.function
 co:sc.isCoroutine=false
 gen:sc.isGenerator=false
 nd:N.Nodup
 pre:N.take P.length=P
 par:∀x∈P,sc.names.lookup x=some .local\/sc.names.lookup x=some .cell
 nofree:∀y∈sc.names,y.2≠.free
theorem rM{b:Str->Option NameKind}{x:Str}:∀{a:List (Str×Value)} {m:Str->Option Value},(∀v,(x,v)∉a)->bindL b a m x=m x
 | [],_,_=>rfl
 | (n,v)::r,m,h=>by
   unfold bindL
   rw[rM λw c=>h w (Qpq _ c)]
   split
   · have:x≠n:=by rintro rfl;exact h v QBq
     simp[this]
   · rfl
theorem rT{b:Str->Option NameKind}{x:Str}:∀{a:List (Str×Value)} {m:Str->Option Value},(∀v,(x,v)∉a)->bindC b a m x=m x
 | [],_,_=>rfl
 | (n,v)::r,m,h=>by
   unfold bindC
   rw[rT λw c=>h w (Qpq _ c)]
   split
   · rfl
   · have:x≠n:=by rintro rfl;exact h v QBq
     simp[this]
theorem rG{a:Str->Option NameKind}{x:Str}{v:Value}:∀{P:List Str} {vs:List Value} {i:Nat} {m:Str->Option Value},P.Nodup->P[i]?=some x->vs[i]?=some v->a x=some .local→
  bindL a (P.zip vs) m x=some v
 | [],_,_,_,_,h,_,_=>by simp at h
 |_::_,[],_,_,_,_,h,_=>by simp at h
 | p::P,w::vs,0,m,nd,h1,h2,hk=>by
   simp at h1 h2;subst h1;subst h2
   show bindL a ((p,w)::P.zip vs) m p=_
   unfold bindL
   rw[rM λv b=>(List.nodup_cons.mp nd).1 (QeQ b).1,Qhq hk]
   simp
 | p::P,w::vs,i+1,m,nd,h1,h2,hk=>by
   show bindL a ((p,w)::P.zip vs) m x=_
   unfold bindL
   exact rG (i:=i) (List.nodup_cons.mp nd).2 (by simpa using h1) (by simpa using h2) hk
theorem r8{a:Str->Option NameKind}{x:Str}{v:Value}:∀{P:List Str} {vs:List Value} {i:Nat} {m:Str->Option Value},P.Nodup->P[i]?=some x->vs[i]?=some v->a x≠some .local→
  bindC a (P.zip vs) m x=some v
 | [],_,_,_,_,h,_,_=>by simp at h
 |_::_,[],_,_,_,_,h,_=>by simp at h
 | p::P,w::vs,0,m,nd,h1,h2,hk=>by
   simp at h1 h2;subst h1;subst h2
   show bindC a ((p,w)::P.zip vs) m p=_
   unfold bindC
   rw[rT λv b=>(List.nodup_cons.mp nd).1 (QeQ b).1,Quq hk]
   simp
 | p::P,w::vs,i+1,m,nd,h1,h2,hk=>by
   show bindC a ((p,w)::P.zip vs) m x=_
   unfold bindC
   exact r8 (i:=i) (List.nodup_cons.mp nd).2 (by simpa using h1) (by simpa using h2) hk
def start(N:List Str)(vs:List V):St:=vs.map some++List.replicate (N.length-vs.length) none
def yd(CX:AL)(P:Program)(w:World)(K:PySem.W.Frag)(mg:Str->Option Value)(base:Heap)(N:List Str)(b:Str)(a:Scope)(f:Addr)(d:Value)(A:Around)(outer:List Env)(s:Shared)(H:Hp)(E:XK):Cx where
 prog:=P
 w:=w
 K:=K
 mg:=mg
 base:=base
 A:=A.deeper (envOfC b a s.heap.objs.size f d)
 N:=N
 s₀:=s
 H₀:=H
 env:=envOfC b a s.heap.objs.size f d
 outer:=outer
 stack:=envOfC b a s.heap.objs.size f d::outer
 ex:= []
 calm:=true
 fn:=λ_=>true
 pn:= []
 xe:=λe g=>wpAny (model P w) (A.deeper (envOfC b a s.heap.objs.size f d)) (leaving (envOfC b a s.heap.objs.size f d) e) (λ_ c=>CX outer H s E e c) (λh c=>CX outer H s E h c) g
def vi{a:Scope}{n:Nat}{x:Str}(h:a.names.lookup x=some .cell):∃c,(cellsFrom n a.names []).lookup x=some c:=by
 have q:=PySem.W.cellsFrom_some a.names n [] (.inl h)
 exact Option.isSome_iff_exists.mp q
def Aw{CX:AL}{P:Program}{w:World}{K:PySem.W.Frag}{mg:Str->Option Value}{base:Heap}{N ps:List Str}{g:Str}{d:Scope}{f:Addr}{C:Value}{A:Around}{outer:List Env}{s J:Shared}{H:Hp}{E:XK}{I:List Value}{vs:List V}
  (S:aB N ps d) (hd:A.handled=none) (l:D5 P w K mg base A outer s H) (X:vs.length=ps.length) (r:aX vs I)
  (x:InCallC s s.heap.objs.size (bindL (envOfC g d s.heap.objs.size f C).kindOf (ps.zip I) λ_=>none) (cellsFrom (s.heap.objs.size+1) d.names []) (bindC (envOfC g d s.heap.objs.size f C).kindOf (ps.zip I) λ_=>none) J):
  Inv (yd CX P w K mg base N g d f C A outer s H E) [] (start N vs) H J:=by
 have M:ps.length<=N.length:=by have:=congrArg List.length S.pre;rw[Qxq] at this;omega
 obtain⟨F,U,rfl,hk⟩:=x.done
 have o:∀b:Addr,b∉(yd CX P w K mg base N g d f C A outer s H E).ex:=λb z=>absurd (show b∈([]:List Addr) from z) (by simp)
 refine⟨⟨l.mod,S.kind,rfl,rfl,Qmq _,λy z c F j=> ?_,λy m=> ?_,λy c _ h=> ?_,λ_=>hd,Around.frames_deeper l.frames,.inr ⟨rfl,rfl⟩,λb z=>absurd z (o b),l.bs,l.bsz,λb _ _=>o b,λb z=>absurd z (o b),l.funs,l.frf⟩,
  rfl,l.bare,Un.kept hk,⟨_,x.toInCall.ns,λi y v F j Y=> ?_⟩,λy c h=>⟨_,x.cell y c h⟩,l.hok.fresh (Qmq _),λy c h=> ?_,λp t=>absurd (show p∈([]:List (Addr×Obj)) from t) (by simp),l.hok.kept hk,?_⟩
 ·exact name_of_addr x.apart (PySem.mem_of_lookup F) (PySem.mem_of_lookup j)
 ·have m:d.names.lookup y=some .cell\/d.names.lookup y=some .free:=m
  rcases m with m|m
  ·exact vi m
  ·exact absurd rfl (S.nofree _ (PySem.mem_of_lookup m))
 ·exact nQl (x.above y c (PySem.mem_of_lookup h))
 ·have G:i<vs.length:=by
   unfold start at j
   by_cases G:i<vs.length
   ·exact G
   ·rw[QQq (by simpa using G)] at j
    rw[List.getElem?_replicate] at j
    split at j <;>cases j
  have R:vs[i]?=some v:=by
   unfold start at j
   rw[QHq (by simpa using G),gQm] at j
   cases e:vs[i]? with
   |none=>rw[e] at j;cases j
   |some a=>rw[e] at j;cases j;rfl
  obtain⟨u,L,Q⟩:=r.get R
  have t:ps[i]?=some y:=by
   rw[←S.pre,List.getElem?_take_of_lt (by omega)];exact F
  have B:ps.Nodup:=by rw[←S.pre];exact S.nd.sublist (List.take_sublist _ _)
  refine⟨u,Q,?_⟩
  rcases S.par y (mQg t) with k|k
  ·exact .inl ⟨k,rG B t L k⟩
  ·obtain⟨c,e⟩:=vi (n:=s.heap.objs.size+1) k
   refine .inr ⟨.inl k,c,e,?_⟩
   have q:=x.cell y c e
   rw[r8 B t L (by show d.names.lookup y≠_;rw[k];decide)] at q
   exact q
 ·exact l.hok.fresh (nQl (x.above y c (PySem.mem_of_lookup h)))
 ·unfold start
  show _=N.length
  rw[lQa,lQm,QIq]
  omega
def HJ{CX:AL}{P:Program}{w:World}{K:PySem.W.Frag}{mg:Str->Option Value}{base:Heap}{k:Nat}{f:Addr}{name c:Str}{g:Arguments}{h:List Stmt}{a:Scope}{dV kV B pm d ct oc:Value}{an od:Option Addr}
  {M:Array (Option Value)} {N ps:List Str} {sp:Sp} (lk:K.lookup f=some ⟨oc,od,.func (PySem.W.fnOf name c g h a dV kV B pm an d ct),M⟩) (X:PySem.W.codeIn K d c=true) (S:aB N ps a)
  (len:∀vs H Q E,sp vs H Q E->vs.length=ps.length)
  (l:∀(A:Around) (outer:List Env) (s:Shared) (H:Hp) (vs:List V) (Q:VK) (E:XK),dS k (A.deeper (envOfC c a s.heap.objs.size f d))->sp vs H Q E→
   ∃t,qH (yd CX P w K mg base N c a f d A outer s H E) h t/\t {nx:=λ_ j=>Q .non j,rt:=Q} (start N vs) H):
  aV P w K mg base CX (k+1) f (PySem.W.fnOf name c g h a dV kV B pm an d ct) ps sp:=by
 refine⟨len,λA outer s H a1 us vs Q E R C hb r F=> ?_⟩
 have hl:=len _ _ _ _ F
 have Y:K.In s.heap:=C.mod.kin.keeps λb o e=>(C.bs b o e).1
 have U:s.heap.NoLimit:=C.mod.nolimit.keeps λb o e=>(C.bs b o e).1
 have m:∀y∈ps.zip us,a.names.lookup y.1=some .local\/(a.names.lookup y.1=some .cell/\((cellsFrom (s.heap.objs.size+1) a.names []).lookup y.1).isSome=true):=λ⟨n,v⟩ hy=>by
  rcases S.par n (QeQ hy).1 with q|q
  ·exact .inl q
  ·exact .inr ⟨q,PySem.W.cellsFrom_some _ _ _ (.inl q)⟩
 refine codeAny_call_function R.depth (Y _ _ lk) rfl S.co S.gen rfl (PySem.W.codeRec_of Y X) (hb _ _ _ _ ?_)
 refine wpAny_newFunctionEnv_cells S.kind m λa2 he Z x=> ?_
 subst he
 refine⟨U.keeps x.toInCall.keep,codeAny_func ?_⟩
 obtain⟨t,ht,hq⟩:=l A outer s H vs Q E (R.deeper _) F
 have I:Inv (yd CX P w K mg base N c a f d A outer s H E) [] (start N vs) H Z:=Aw S R.hd C hl r x
 refine QRq (ht [] Z (start N vs) H _ I hq) (λfl L p=> ?_) λe L p=>p
 have z:∀{i:St} {j:Hp} {v:V} {u:Value},Inv (yd CX P w K mg base N c a f d A outer s H E) [] i j L->RelV v u->Q v j->CE outer P w H s Q u L:=
  λ{i j v u} J G q=>⟨v,j,J.os,J.bare,J.base,J.hok,G,q⟩
 cases fl with
 | ret u=>
   obtain⟨v,i,j,J,G,q⟩:=p
   exact z J G q
 | next=>
   obtain⟨i,j,J,q⟩:=p
   exact z (v:=V.non) (u:=Value.none) J rfl q
 | brk=>
   obtain⟨_,_,_,q⟩:=p
   exact False.elim q
 | cont=>
   obtain⟨_,_,_,q⟩:=p
   exact False.elim q
section
variable{X:Cx}{x:Str}{p pos:Pos}{e:Expr}{es:List Expr}{t:TA}{id T:String}{r:List V->Hp->VK->Prop}
def IS(r:List V->Hp->VK->Prop)(t:TA):TE:=λb H Q=>t b H λa H1=>r a H1 Q
def ju(u:gQ X (.builtin id) r)(k:Gl X x)(f:X.mg x=none)(g:bootBuiltins x=some (.builtin id))(l:PA X (e::es) t)(i:x≠"__name__":=by decide)(b:(x==("__debug__":Str))=false:=by decide)
  (he:starEach (e::es) X.env=(false,eval e X.env)::starEach es X.env:=by rfl) (hpl:(backTo pos (starEach es X.env)).any (·.1)=false:=by rfl):PE X (.Call (.Name x p) (e::es) [] pos) (IS r t):=by
 intro a s c H Q I h
 refine wpAny_Call_Name_kw (jg I k f g ?_ i b)
 exact PyProof.Rows.callWith_builtin1 (bT (l pos a s c H _ I h) λn d ⟨o,H1,j,q,m⟩=>u a d c H1 o n Q j q m) he hpl
def sD(u:gQ X (.type T) r)(k:Gl X x)(f:X.mg x=none)(g:bootBuiltins x=some (.type T))(l:PA X (e::es) t)(i:x≠"__name__":=by decide)(b:(x==("__debug__":Str))=false:=by decide)
  (he:starEach (e::es) X.env=(false,eval e X.env)::starEach es X.env:=by rfl) (hpl:(backTo pos (starEach es X.env)).any (·.1)=false:=by rfl):PE X (.Call (.Name x p) (e::es) [] pos) (IS r t):=by
 intro a s c H Q I h
 refine wpAny_Call_Name_kw (jg I k f g ?_ i b)
 exact PyProof.Rows.callWith_type1 (bT (l pos a s c H _ I h) λn d ⟨o,H1,j,q,m⟩=>u a d c H1 o n Q j q m) he hpl
end
section
variable{κ:Type}[DecidableEq κ]
def mT(a:List (κ×V))(k:κ):Option V:=(a.find? λb=>decide (b.1=k)).map (·.2)
def putK(a:List (κ×V))(k:κ)(v:V):List (κ×V):=
 if (a.any λb=>decide (b.1=k))=true then a.map (λb=>if b.1=k then(b.1,v) else b) else a++ [(k,v)]
def pP{p:κ×V}{r:List (κ×V)}{k:κ}(e:p.1=k):mT (p::r) k=some p.2:=by simp[mT,List.find?_cons,e]
def qB{p:κ×V}{r:List (κ×V)}{k:κ}(e:¬p.1=k):mT (p::r) k=mT r k:=by simp[mT,List.find?_cons,e]
theorem vB(k:κ):∀a:List (κ×V),(a.any λkv=>decide (kv.1=k))=(mT a k).isSome
 | []=>rfl
 | p::r=>by
   rw[List.any_cons]
   by_cases e:p.1=k
   · simp only[pP e,Qeq e,Bool.true_or,Option.isSome_some]
   · rw[qB e,Qdq e,Bool.false_or];exact vB k r
def gn(a:List (κ×V))(k:κ)(v:V):(putK a k v).length<=a.length+1:=by
 unfold putK
 split
 ·rw[lQm];omega
 ·rw[lQa,Qnq,QGq];omega
def pX.isSome_eq{o:Option V}{u:Option Value}(r:pX o u):o.isSome=u.isSome:=by
 cases o with
 | none=>cases u with
   |none=>rfl
   |some _=>exact(show False from r).elim
 | some _=>cases u with
   |none=>exact(show False from r).elim
   |some _=>rfl
def KV.val{a:List (κ×V)}{vs:List (κ×Value)}(r:KV a vs)(k:κ):pX (mT a k) (valueAt vs k):=by
 unfold KV at r
 induction r with
 |nil=>exact True.intro
 | @cons p q ps qs h t ih=>
   obtain⟨d,f⟩:=h
   by_cases e:p.1=k
   · have c:q.1=k:=d.symm.trans e
     have b:valueAt (q::qs) k=some q.2:=by simp[valueAt,List.find?_cons,c]
     rw[pP e,b];exact f
   · have c:¬q.1=k:=λz=>e (d.trans z)
     have b:valueAt (q::qs) k=valueAt qs k:=by simp[valueAt,List.find?_cons,c]
     rw[qB e,b];exact ih
theorem KV.any{a:List (κ×V)}{vs:List (κ×Value)}(r:KV a vs)(k:κ):(a.any λkv=>decide (kv.1=k))=vs.any λkv=>decide (kv.1=k):=by
 unfold KV at r
 induction r with
 |nil=>rfl
 |cons h t b=>rw[List.any_cons,List.any_cons,b,h.1]
def KV.repl{a:List (κ×V)}{vs:List (κ×Value)}(r:KV a vs)(k:κ){y:V}{u:Value}(d:RelV y u):
  KV (a.map λkv=>if kv.1=k then(kv.1,y) else kv) (vs.map λkv=>if kv.1=k then(kv.1,u) else kv):=by
 unfold KV at r⊢
 induction r with
 |nil=>exact .nil
 | @cons p q ps qs h t ih=>
   rw[QDq,QDq]
   refine .cons ?_ ih
   obtain⟨b,c⟩:=h
   by_cases e:p.1=k
   · rw[Qhq e,Qhq (b.symm.trans e)];exact⟨b,d⟩
   · rw[Quq e,Quq (λz=>e (b.trans z))];exact⟨b,c⟩
def KV.put{a:List (κ×V)}{vs:List (κ×Value)}(r:KV a vs)(k:κ){y:V}{u:Value}(b:RelV y u):KV (putK a k y) (stored vs k u):=by
 unfold putK stored
 rw[r.any k]
 by_cases e:(vs.any λc=>decide (c.1=k))=true
 ·rw[Qhq e,Qhq e];exact r.repl k b
 ·rw[Quq e,Quq e];exact Paired.snoc r ⟨rfl,b⟩
def KV.length{a:List (κ×V)}{vs:List (κ×Value)}(r:KV a vs):a.length=vs.length:=Paired.length r
end
def vj{P:Program}{w:World}{k:Key}{u:Value}(r:RelV (kV k) u):(aW P w).is k u=true:=by
 cases k with
 |inl i=>obtain⟨t,e⟩:=(show∃t,u=Value.int i t from r);subst e;exact uL P w i t
 |inr x=>obtain⟨t,e⟩:=(show∃t,u=Value.str x t from r);subst e;exact we P w x t
theorem sk{P:Program}{w:World}:∀{a:List Key} {b:List Value},aX (a.map kV) b->ItemsAre (aW P w) a b
 | [],_,r=>by rw[List.map_nil] at r;cases r;exact .nil
 | k::a,_,r=>by
   rw[QDq] at r
   cases r with
   |cons h t=>exact .cons (vj h) (sk t)
abbrev KT(H:Hp):List (List Key×V)->List (List Key×Addr×Value)->Prop:=Paired λp q=>p.1=q.1/\H q.2.1=some (.tup (p.1.map kV))/\RelV p.2 q.2.2
def KT.val{H:Hp}{a:List (List Key×V)}{xs:List (List Key×Addr×Value)}(r:KT H a xs)(k:List Key):pX (mT a k) ((atKey xs k).map (·.2)):=by
 induction r with
 |nil=>exact True.intro
 | @cons p q ps qs h t ih=>
   obtain⟨d,_,f⟩:=h
   by_cases e:p.1=k
   · have c:q.1=k:=d.symm.trans e
     have b:atKey (q::qs) k=some q.2:=by simp[atKey,List.find?_cons,c]
     rw[pP e,b];exact f
   · have c:¬q.1=k:=λz=>e (d.trans z)
     have b:atKey (q::qs) k=atKey qs k:=by simp[atKey,List.find?_cons,c]
     rw[qB e,b];exact ih
def KT.repl{H:Hp}{a:List (List Key×V)}{xs:List (List Key×Addr×Value)}(r:KT H a xs)(k:List Key){y:V}{u:Value}(d:RelV y u):
  KT H (a.map λkv=>if kv.1=k then(kv.1,y) else kv) (xs.map (putAt k u)):=by
 induction r with
 |nil=>exact .nil
 | @cons p q ps qs h t ih=>
   rw[QDq,QDq]
   refine .cons ?_ ih
   obtain⟨b,c,f⟩:=h
   unfold putAt
   by_cases e:p.1=k
   · rw[Qhq e,Qhq (b.symm.trans e)];exact⟨b,c,d⟩
   · rw[Quq e,Quq (λz=>e (b.trans z))];exact⟨b,c,f⟩
def KT.put{H:Hp}{a:List (List Key×V)}{xs:List (List Key×Addr×Value)}(r:KT H a xs)(k:List Key){b:Addr}{y:V}{u:Value}(d:H b=some (.tup (k.map kV)))(c:RelV y u):
  KT H (putK a k y) (storedH xs k b u):=by
 have e:(a.any λf=>decide (f.1=k))=(atKey xs k).isSome:=by
  rw[vB,(r.val k).isSome_eq,Option.isSome_map]
 unfold putK storedH
 rw[e]
 by_cases q:(atKey xs k).isSome=true
 ·rw[Qhq q,Qhq q];exact r.repl k c
 ·rw[Quq q,Quq q];exact Paired.snoc r ⟨rfl,d,c⟩
def KT.keeps{H c:Hp}{a:List (List Key×V)}{xs:List (List Key×Addr×Value)}(r:KT H a xs)(d:∀b ys,H b=some (.tup ys)->c b=some (.tup ys)):KT c a xs:=
 Paired.mapP r λ_ _ z=>⟨z.1,d _ _ z.2.1,z.2.2⟩
section
variable{P:Program}{w:World}{H:Hp}{h:Heap}{a:Addr}
def Eg{u:HO}(ok:kW P w H h)(e:Rd H a u):bI P w H h a u:=e.ok ok
def Bt{b:List (Key×V)}(ok:kW P w H h)(e:Rd H a (.dK b)):b.length<=sizeLine/\(a==sysModules)=false/\∃vs,KV b vs/\h.DictOf (aW P w) a vs:=
 show bI P w H h a (.dK b) from Eg ok e
def yy{b:List (Key×V)}(ok:kW P w H h)(e:H a=some (.dK b)):b.length<=sizeLine/\(a==sysModules)=false/\∃vs,KV b vs/\h.DictOf (aW P w) a vs:=Bt ok (.inl e)
def w_{b:List Key}(ok:kW P w H h)(e:H a=some (.tup (b.map kV))):(tupleKind (aW P w)).is h b a:=by
 obtain⟨_,c,r,o,g,d,_,n,f⟩:=(show bI P w H h a (.tup (b.map kV)) from ok a _ e)
 exact⟨o,c.toArray,n,g,d,f,by simpa using sk r⟩
def BX{b:List (List Key×V)}(ok:kW P w H h)(e:Rd H a (.dT b)):b.length<=sizeLine/\(a==sysModules)=false∧
  ∃xs,KT H b xs/\h.DictOfH (tupleKind (aW P w)) a xs:=by
 obtain⟨z,y,xs,r,o,g,f,j,i,n,k,s⟩:=(show bI P w H h a (.dT b) from Eg ok e)
 refine⟨z,y,xs,r,o,g,f,j,i,n,k,λx c=> ?_,s⟩
 have d:∀{l:List (List Key×V)} {m:List (List Key×Addr×Value)},KT H l m->∀x∈m,(tupleKind (aW P w)).is h x.1 x.2.1:=by
  intro l m q
  induction q with
  |nil=>intro x c;exact nomatch c
  | @cons p q ps qs hq t ih=>
    intro x c
    rcases Qsq.mp c with e|c
    · subst e
      exact w_ ok (by rw[←hq.1];exact hq.2.1)
    · exact ih x c
 exact d r x c
def G2{b:List (List Key×V)}(ok:kW P w H h)(e:H a=some (.dT b)):b.length<=sizeLine/\(a==sysModules)=false∧
  ∃xs,KT H b xs/\h.DictOfH (tupleKind (aW P w)) a xs:=BX ok (.inl e)
end
def xn(H:Hp)(a:Addr)(y:V)(r:Option V):Prop:=
 (∃c k,Rd H a (.dK c)/\y=kV k/\r=mT c k)\/∃c k b,Rd H a (.dT c)/\y=.ref b/\H b=some (.tup (k.map kV))/\r=mT c k
def Cd(H:Hp)(a:Addr)(y v:V)(d:Hp):Prop:=
 (∃c k,H a=some (.dK c)/\y=kV k/\c.length<sizeLine/\d=upd H a (.dK (putK c k v)))∨
 ∃c k b,H a=some (.dT c)/\y=.ref b/\H b=some (.tup (k.map kV))/\c.length<sizeLine/\d=upd H a (.dT (putK c k v))
def xn.k{H:Hp}{a:Addr}{b:List (Key×V)}{k:Key}(e:H a=some (.dK b)):xn H a (kV k) (mT b k):=.inl ⟨b,k,.inl e,rfl,rfl⟩
def Cd.k{H:Hp}{a:Addr}{b:List (Key×V)}{k:Key}{v:V}(e:H a=some (.dK b))(c:b.length<sizeLine):Cd H a (kV k) v (upd H a (.dK (putK b k v))):=.inl ⟨b,k,e,rfl,c,rfl⟩
section
variable{X:Cx}{pins:List (Addr×Obj)}{σ:St}{H:Hp}{s:Shared}{a:Addr}{y v:V}{u r:Value}{o:Option V}{A:Around}{E:Value->Shared->Prop}
def Inv.big(I:Inv X pins σ H s):sysModules<s.heap.objs.size:=by
 have h:mainGlobals<s.heap.objs.size:=(I.mod.glob.keeps I.bk).lt
 exact Nat.lt_trans (by decide) h
def Aq{Q:Value->Shared->Prop}(K:A.units+1<cLine)(I:Inv X pins σ H s)(g:xn H a y (some v))(t:RelV y u)(h:∀f x,Inv X pins σ H x->RelV v f->Q f x):
  wpAny (model X.prog X.w) A (getItem (.ref a) u) Q E s:=by
 rcases g with⟨m,k,e,n,l⟩|⟨m,k,b,e,n,J,l⟩
 ·subst n
  obtain⟨z,C,G,c,q⟩:=Bt I.hok e
  obtain⟨f,j,d⟩:=pX.some_of (v:=v) (o:=valueAt G k) (by rw[l];exact c.val k)
  exact wpAny_getItem_of (vj t) q.mapOf j (h f _ (I.tok _) d)
 ·subst n
  cases (show u=Value.ref b from t)
  obtain⟨z,C,B,c,q⟩:=BX I.hok e
  obtain⟨f,j,d⟩:=pX.some_of (v:=v) (o:=(atKey B k).map (·.2)) (by rw[l];exact c.val k)
  obtain⟨p,F,i⟩:=oQm.mp j
  refine wpAny_getItem_heap (tupleKind_room_in1 K) (w_ I.hok J) q F ?_
  rw[i]
  exact h f _ (I.tok _) d
def oP{h':Heap}{t':Nat}{ob:HO}(I:Inv X pins σ H s)(f:Hy (H a))(d:Heap.SameBut a s.heap h')(he:∃q,h'.get? a=some q)(new:bI X.prog X.w (upd H a ob) h' a ob):
  Inv X pins σ (upd H a ob) {s with heap:=h',toks:=t'}:=
 I.write (x:=a) (e:=a) f (.inl rfl) (λb q c z=>(d.2 b c).trans z) he new
def mv{P:Program}{w:World}{e:Hp}{h':Heap}{b:List (Key×V)}{vs:List (Key×Value)}(z:b.length<=sizeLine)(hd:(a==sysModules)=false)(c:KV b vs)(d:h'.DictOf (aW P w) a vs):
  bI P w e h' a (.dK b):=⟨z,hd,vs,c,d⟩
def Az{K:Hp}{Q:Unit->Shared->Prop}(hu:A.units+1<cLine)(I:Inv X pins σ H s)(g:Cd H a y v K)(F:RelV y u)(J:RelV v r)(h:∀L,Inv X pins σ K L->Q () L):
  wpAny (model X.prog X.w) A (setItem (.ref a) u r) Q E s:=by
 rcases g with⟨d,k,e,n,l,x⟩|⟨d,k,b,e,n,N,l,x⟩
 ·subst n x
  obtain⟨z,p,Y,f,B⟩:=yy I.hok e
  have t:Y.length<=sizeLine:=by rw[←f.length];exact z
  have C:(putK d k v).length<=sizeLine:=by have:=gn d k v;omega
  refine wpAny_setItem_pairs (hsz:=t) (vj F) B λG i m=>h _ ?_
  have S:∃q,G.get? a=some q:=let ⟨q,_,_,j,_⟩:=i;⟨q,j⟩
  exact oP I (by rw[e];exact True.intro) m S (mv C p (f.put k J) i)
 ·subst n x
  cases (show u=Value.ref b from F)
  obtain⟨z,p,R,f,B⟩:=G2 I.hok e
  have t:R.length<=sizeLine:=by rw[←Paired.length f];exact z
  have C:(putK d k v).length<=sizeLine:=by have:=gn d k v;omega
  refine wpAny_setItem_heap (hsz:=t) (tupleKind_room_in1 hu) (w_ I.hok N) B λG i m=>h _ ?_
  obtain⟨q,U,P,j,W,h3,Z,_,h5⟩:=i
  refine oP I (by rw[e];exact True.intro) m ⟨q,j⟩ ⟨C,p,_,(f.put k N J).keeps λc ys M=> ?_,q,U,P,j,W,h3,Z,h5⟩
  rw[aJ (BL M e (λz=>nomatch z))]
  exact M
end
def B2(i:Expr):Prop:=∀b a,subscripted i false b a=operate [b,a] (getItem b a)
def yB{prog:Program}{w:World}{A:Around}{E:Value->Shared->Prop}{s:Shared}{env:Env}{b a:Expr}{pos:Pos}{T id:String}{Q:Value->Shared->Prop}
  (n:typeLookup (.type T) "__getitem__"=pure (some (.builtin id))) (m:B2 a)
  (h:wpAny (model prog w) A (eval b env) (λo f=>wpAny (model prog w) A (eval a env) (λi c=>c.TypeIs o T/\wpAny (model prog w) A (getItem o i) Q E c) E f) E s):
  wpAny (model prog w) A (eval (.Subscript b a pos) env) Q E s:=by
 refine Subscript_ (QRq h (λo f j=>QRq j (λi c d=> ?_) λ_ _ x=>x) λ_ _ x=>x)
 obtain⟨l,d⟩:=d
 unfold subscriptTail
 refine Qaq ?_
 rw[getitemInPython_of_ne l.not_modules]
 refine Qaq (wpAny_specialOf l n ?_)
 have g:wpAny (model prog w) A (subscripted a false o i) (λr e=>wpAny (model prog w) A (letTemporaryGo b o r >>= λ_=>pure r) Q E e) E c:=by
  rw[m o i]
  exact wpAny_operating (QRq d (λr e k=>Qaq (wpAny_letTemporaryGo (Qgq k))) λ_ _ x=>x)
 first
  |exact Qgq (Qaq g)
  |exact Qaq (Qgq (Qaq g))
  |exact Qaq g
def wF{X:Cx}{c:List (Addr×Obj)}{h:St}{H:Hp}{s:Shared}{a:Addr}{y:V}{o:Option V}(I:Inv X c h H s)(g:xn H a y o):s.TypeIs (.ref a) "dict":=by
 rcases g with⟨d,k,e,_,_⟩|⟨d,k,b,e,_,_,_⟩
 ·obtain⟨_,_,j,_,f⟩:=Bt I.hok e
  exact f.typeIs
 ·obtain⟨_,_,i,_,f⟩:=BX I.hok e
  exact f.typeIs
def Ic(d c:TE):TE:=λb H Q=>d b H λx H1=>c b H1 λy H2=>∃a v,x=.ref a/\xn H2 a y (some v)/\Q v H2
def Hz(e d c:TE):TS:=λD b H=>c b H λv H1=>e b H1 λx H2=>d b H2 λy H3=>∃a H4,x=.ref a/\Cd H3 a y v H4/\D.nx b H4
section
variable{X:Cx}{o i e value:Expr}{pos pos' tpos:Pos}{td ty tv:TE}
def yD(B:X.A.units+1<cLine)(w:PE X o td)(hi:PE X i ty)(l:B2 i):PE X (.Subscript o i pos) (Ic td ty):=by
 intro b s f H Q I h
 refine yB PySem.F.slot_dict_getitem.lookup l (bT (w b s f H _ I h) λu j ⟨x,H1,n,p,t⟩=>bT (hi b j f H1 _ n t) λJ K z=> ?_)
 obtain⟨y,H2,d,k,a,v,m,g,r⟩:=z
 subst m
 obtain rfl:u=Value.ref a:=p
 exact⟨wF d g,Aq B d g k λG C q c=>⟨v,H2,q,c,r⟩⟩
def DF(J:X.A.units+1<cLine)(G:PE X o td)(hi:PE X i ty)(n:PE X value tv)(l:swapsWith value (some (.Subscript o i pos')) pos.line X.env=pure false):
  PS X (.Assign [.Subscript o i pos'] value pos) (Hz td ty tv):=by
 intro b s c H D I h
 refine wpAny_Assign_Subscript (bT (n b s c H _ I h) λr f ⟨v,H1,q,k,C⟩=>bT (G b f c H1 _ q C) λu F ⟨x,H2,d,t,B⟩=>bT (hi b F c H2 _ d B) λM K ⟨y,H3,z,j,a,H4,p,g,w⟩=> ?_) l
 subst p
 obtain rfl:u=Value.ref a:=t
 exact Az J z g j k λL m=>⟨c,H4,m,w⟩
end
def Cv{P:Program}{w:World}{H:Hp}(h:Heap)(a:sysModules<h.objs.size):bI P w H (h.push {cls:=.type "dict",data:=.dict #[]}) h.objs.size (.dK []):=
 ⟨Nat.zero_le _,beq_eq_false_iff_ne.mpr (Ne.symm (Qwq a)),[],.nil,Heap.DictOf.new h⟩
def FZ:TE:=λ_ H Q=>∀p,H p=none->Q (.ref p) (upd H p (.dK []))
section
variable{X:Cx}{pos:Pos}
def B4:PE X (.Dict [] [] pos) FZ:=λb s c H Q I h=>
 wpAny_Dict_empty ⟨.ref s.heap.objs.size,_,I.laid (a:=s.heap.objs.size) (o:=.dK []) (t':=s.toks) (λ_ _ q=>Qcq _ q) (Qmq _) (Cv s.heap I.big),rfl,h _ (I.hok.fresh (Qmq _))⟩
end
def fe(a more:List (Key×V)):List (Key×V):=more.foldl (λb c=>putK b c.1 c.2) a
def KV.merge:∀{more:List (Key×V)} {b:List (Key×Value)} {a:List (Key×V)} {vs:List (Key×Value)},KV more b->KV a vs->KV (fe a more) (merged vs b):=by
 intro more b a vs r
 unfold KV at r
 induction r generalizing a vs with
 |nil=>intro q;exact q
 | @cons p q ps qs h t ih=>
   intro c
   have e:KV (putK a p.1 p.2) (stored vs q.1 q.2):=by
     have:=c.put p.1 h.2
     rw[←h.1];exact this
   exact ih e
theorem eL:∀(more a:List (Key×V)),(fe a more).length<=a.length+more.length
 | [],a=>by show a.length<=a.length+0;omega
 | p::r,a=>by
   have c:=eL r (putK a p.1 p.2)
   have b:=gn a p.1 p.2
   show(fe (putK a p.1 p.2) r).length<=_
   rw[Qnq];omega
end L2
namespace HT
open PySem PyProof.Rows
section
open PySem.SeqAt
open PySem.AutoSeq1 (wpAny_loadPart')
open PySem.MeetsSeq PySem.MeetsSeq2 PySem.MeetsSeq3
end
section
variable{prog:Program}{w:World}{A:Around}{E:Value->Shared->Prop}{s:Shared}
def Ec{t b:Addr}{vs ws:List Value}{Q:Value->Shared->Prop}(u:IsTup s.heap t vs.toArray)(y:IsTup s.heap b ws.toArray)(l:vs≠[])
  (x:ws= []->Q (.ref t) s) (v:ws≠[]->Q (.ref s.heap.objs.size) {s with heap:=s.heap.push {cls:=.type "tuple",data:=.seq (vs++ws).toArray}})
  (hsz:vs.length+ws.length<=sizeLine):wpAny (model prog w) A (binaryOp .Add (.ref t) (.ref b)) Q E s:=by
 obtain⟨⟨cls,o,data,p⟩,i,r,n,m⟩:=id u
 obtain⟨⟨q,d,j,c⟩,a,f,k,g⟩:=id y
 simp only at r m f g
 subst r m f g
 have e:vs.toArray++ws.toArray=(vs++ws).toArray:=by simp
 by_cases h:ws= []
 ·exact concat_meets ⟨_,i,rfl⟩ ⟨_,a,rfl⟩ noFill_tuple_add seq_tuple_add PySem.F.slot_tuple_add PySem.F.entry_tuple_add (PySem.F.args_tuple_add_2 _ _)
   (tuple_addW1 t b vs.toArray ws.toArray n k o d p c (by simpa using l) (by simp[h])) ⟨i,a,x h⟩
 ·refine concat_meets ⟨_,i,rfl⟩ ⟨_,a,rfl⟩ noFill_tuple_add seq_tuple_add PySem.F.slot_tuple_add PySem.F.entry_tuple_add (PySem.F.args_tuple_add_2 _ _)
   (tuple_addW2 t b vs.toArray ws.toArray n k o d p c (by simpa using l) (by simpa using h) (by rw[Qjq,Qjq];exact hsz)) ⟨i,a,?_⟩
  rw[e]
  exact v h
def dB(n d:Nat):Option Int->Nat
 |none=>d
 |some v=>if v<0 then(v+(n:Int)).toNat else min v.toNat n
def o7(n d:Nat):dB n d none=d:=rfl
def zq(n d k:Nat):dB n d (some (k:Int))=min k n:=by
 show(if (k:Int)<0 then((k:Int)+(n:Int)).toNat else min (k:Int).toNat n)=min k n
 rw[Quq (by omega),Int.toNat_natCast]
def FN(n d:Nat)(hd:d<=n)(o:Option Int):dB n d o<=n:=by
 cases o with
 |none=>exact hd
 | some v=>
   show(if v<0 then(v+(n:Int)).toNat else min v.toNat n)<=n
   by_cases a:v<0
   · rw[Qhq a];omega
   · rw[Quq a];exact Nat.min_le_right _ _
def yt(v:Int)(n d:Nat):(if v<0 then max (v+(n:Int)) 0 else min v (n:Int))=((dB n d (some v):Nat):Int):=by
 show(if v<0 then max (v+(n:Int)) 0 else min v (n:Int))=(((if v<0 then(v+(n:Int)).toNat else min v.toNat n):Nat):Int)
 by_cases a:v<0
 ·simp only[Qhq a];omega
 ·simp only[Quq a];omega
def xK(lo hi:Option Int)(n:Nat):Builtin.Slice.sliceAdjust lo hi 1 (n:Int)=(((dB n 0 lo:Nat):Int),((dB n n hi:Nat):Int)):=by
 have a:¬((1:Int)<0):=by omega
 unfold Builtin.Slice.sliceAdjust
 simp only[a,if_false]
 refine Prod.ext ?_ ?_
 ·cases lo with
  |none=>rfl
  |some v=>exact yt v n 0
 ·cases hi with
  |none=>rfl
  |some v=>exact yt v n n
def wX(i j:Nat):Builtin.Slice.slicePlaces (i:Int) (j:Int) 1=j-i:=by
 unfold Builtin.Slice.slicePlaces
 have a:(1:Int)>0:=by omega
 simp only[a,if_true,Int.ediv_one]
 split <;>omega
def pW{v:Value}{o:Option Int}{Q:Option Int->Shared->Prop}(p:IsPart v o)(h:Q o s):wpAny (model prog w) A (Builtin.Slice.slicePartIndex v) Q E s:=by
 cases p with
 |none=>exact slicePart_none h
 |int i t=>exact slicePart_int h
def gL{e:Addr}{d c:Value}{lo hi:Option Int}{n:Nat}{Q:Int×Int×Nat->Shared->Prop}(j:s.heap.IsSliceOf e d c .none)(i:IsPart d lo)(f:IsPart c hi)
  (h:Q (((dB n 0 lo:Nat):Int),1,dB n n hi-dB n 0 lo) s):wpAny (model prog w) A (Builtin.Slice.sliceApplied (.ref e) (pure (n:Int))) Q E s:=by
 obtain⟨k,a,g,b⟩:=id j
 unfold Builtin.Slice.sliceApplied Builtin.Slice.sliceFields
 refine Qaq (Qaq (QMq a b (x:=d) rfl (Qaq (QMq a b (x:=c) rfl (Qaq (QMq a b (x:=.none) rfl (Qgq ?_)))))))
 refine Qaq (slicePart_none ?_)
 show wpAny _ _ (if ((1:Int)==0)=true then _ else _) _ _ s
 rw[Quq (by decide)]
 refine Qaq (pW i (Qaq (pW f (Qaq (Qgq ?_)))))
 show wpAny _ _ (match Builtin.Slice.sliceAdjust lo hi 1 (n:Int) with|(lo,hi)=>pure (lo,(1:Int),Builtin.Slice.slicePlaces lo hi 1)) _ _ s
 rw[xK lo hi n]
 show wpAny _ _ (pure (((dB n 0 lo:Nat):Int),(1:Int),Builtin.Slice.slicePlaces ((dB n 0 lo:Nat):Int) ((dB n n hi:Nat):Int) 1)) _ _ s
 rw[wX]
 exact Qgq h
def BW(xs:Array Value)(i k:Nat):((List.range k).filterMap λ(m:Nat)=>xs[((i:Int)+(m:Int)*1).toNat]?).toArray=((xs.toList.drop i).take k).toArray:=by
 have e:(λ(m:Nat)=>xs[((i:Int)+(m:Int)*1).toNat]?)=λm=>xs[i+m]? :=by
  funext m
  have:((i:Int)+(m:Int)*1).toNat=i+m:=by omega
  rw[this]
 rw[e]
 have:=pick_run xs i k
 rw[List.filterMap_map] at this
 have a:((λx=>xs[x]?)∘λx=>i+x)=λm=>xs[i+m]? :=rfl
 rw[a] at this
 rw[this]
def lF{t e:Addr}{items:Array Value}{j k:Value}{lo hi:Option Int}{Q:Value->Shared->Prop}(b:IsTup s.heap t items)(i:s.heap.IsSliceOf e j k .none)(o:IsPart j lo)(l:IsPart k hi)
  (n:¬(dB items.size 0 lo=0/\dB items.size items.size hi=items.size))
  (h:Q (.ref s.heap.objs.size) {s with heap:=s.heap.push {cls:=.type "tuple",data:=.seq ((items.toList.drop (dB items.size 0 lo)).take (dB items.size items.size hi-dB items.size 0 lo)).toArray}})
  (hsz:items.size<=sizeLine):wpAny (model prog w) A (getItem (.ref t) (.ref e)) Q E s:=by
 have a:sizeOk (.seq ((items.toList.drop (dB items.size 0 lo)).take (dB items.size items.size hi-dB items.size 0 lo)).toArray):=by
  show((items.toList.drop (dB items.size 0 lo)).take (dB items.size items.size hi-dB items.size 0 lo)).toArray.size<=sizeLine
  rw[Qjq,Qxq,List.length_drop,Array.length_toList]
  omega
 have u:dB items.size items.size hi<=items.size:=FN _ _ (Qmq _) hi
 obtain⟨r,f,d,p⟩:=id i
 have g:s.TypeIs (.ref e) "slice":=⟨r,f,d⟩
 unfold getItem
 try with_reducible refine QLq ?_
 first|refine Qaq (Qgq ?_)|skip
 refine Qaq (wpAny_sequenceKey b.typeIs (by decide) ?_)
 refine Qaq (QiQ (name:=Str.ofString "__getitem__") b.typeIs PyProof.Rows.slot_tuple_getitem
  (wpAny_call_entry PyProof.Rows.slot_tuple_getitem b.typeIs entry_tuple_getitem ?_ (args_tuple_getitem _ _)))
 show wpAny _ _ (Builtin.Tuple.tupleItemsOf (.ref t) >>= _) _ _ s
 refine Qaq (tupleItemsOf_ b ?_)
 refine Qaq (wpAny_typeOf g ?_)
 rw[Qhq (by decide)]
 refine Qaq (gL i o l ?_)
 have c:¬((((dB items.size 0 lo:Nat):Int)==0&&(1:Int)==1&&(dB items.size items.size hi-dB items.size 0 lo)==items.size)=true):=by
  intro q
  rw[QCq,QCq] at q
  have x:((dB items.size 0 lo:Nat):Int)=0:=eq_of_beq q.1.1
  have v:dB items.size items.size hi-dB items.size 0 lo=items.size:=eq_of_beq q.2
  exact n ⟨by omega,by omega⟩
 show wpAny _ _ (if (((dB items.size 0 lo:Nat):Int)==0&&(1:Int)==1&&(dB items.size items.size hi-dB items.size 0 lo)==items.size)=true then _ else _) _ _ s
 rw[Quq c,BW]
 first
  |exact Qaq (m:=Builtin.Tuple.tupleExact _) (QhQ (Qgq ⟨_,rfl,Qgq h⟩) a)
  |exact Qaq (m:=Builtin.Tuple.tupleExact _) (QhQ (Qaq (Qgq (Qgq ⟨_,rfl,Qgq h⟩))) a)
  |exact Qaq (Qaq (m:=Builtin.Tuple.tupleExact _) (QhQ (Qgq (Qgq ⟨_,rfl,Qgq h⟩)) a))
  |exact Qaq (Qaq (m:=Builtin.Tuple.tupleExact _) (QhQ (Qgq ⟨_,rfl,Qgq h⟩) a))
end
end HT
namespace L2
open PySem PySem.Spec PyProof.Rows
abbrev TO:=St->Hp->(Option Int->Hp->Prop)->Prop
def PO(X:Cx)(e:Option Expr)(t:TO):Prop:=
 ∀ (a:List (Addr×Obj)) (s:Shared) (b:St) (H:Hp) (Q:Option Int->Hp->Prop),Inv X a b H s->t b H Q→
   wpAny (model X.prog X.w) X.A (evalPart e X.env) (λu d=>∃o c,Inv X a b c d/\IsPart u o/\Q o c) X.xe s
def D0:TO:=λ_ H Q=>Q none H
def HI(t:TE):TO:=λa H Q=>t a H λx H1=>∃i,x=.int i/\Q (some i) H1
section
variable{X:Cx}{e:Expr}{te:TE}{lo hi:Option Expr}{tl th:TO}{pos p2:Pos}
def DG:PO X none D0:=by
 intro a s b H Q I h
 rw[evalPart_none]
 exact Qgq ⟨none,H,I,.none,h⟩
def DM(h:PE X e te):PO X (some e) (HI te):=by
 intro a s f H Q I j
 rw[evalPart_some]
 refine bT (h a s f H _ I j) λu k c=> ?_
 obtain⟨x,H1,b,g,d⟩:=c
 obtain⟨i,rfl,q⟩:=d
 obtain⟨t,rfl⟩:=g
 exact⟨some i,H1,b,.int i t,q⟩
def JA(X:Cx)(r:V->Option Int->Option Int->Hp->VK->Prop):Prop:=
 ∀ (a:List (Addr×Obj)) (s:Shared) (d:St) (H:Hp) (x:V) (v c b:Value) (lo hi:Option Int) (f:Addr) (Q:VK),Inv X a d H s->RelV x v->s.heap.IsSliceOf f c b .none->IsPart c lo->IsPart b hi->r x lo hi H Q→
   ∃T id,typeLookup (.type T) "__getitem__"=pure (some (.builtin id))/\s.TypeIs v T/\wpAny (model X.prog X.w) X.A (getItem v (.ref f)) (EP X a d Q) X.xe s
def K8(r:V->Option Int->Option Int->Hp->VK->Prop)(te:TE)(tl th:TO):TE:=λa H Q=>te a H λx H1=>tl a H1 λl H2=>th a H2 λu H3=>r x l u H3 Q
def CB{r:V->Option Int->Option Int->Hp->VK->Prop}(G:JA X r)(he:PE X e te)(z:PO X lo tl)(K:PO X hi th):PE X (.Subscript e (.Slice lo hi none p2) pos) (K8 r te tl th):=by
 intro a s d H Q I h
 refine Subscript_ (bT (he a s d H _ I h) λv k i=> ?_)
 obtain⟨x,H1,p,J,C⟩:=i
 refine wpAny_Slice (bT (z a k d H1 _ p C) λf F ⟨l,H2,j,o,B⟩=>bT (K a F d H2 _ j B) λg c i=> ?_)
 obtain⟨u,H3,y,n,t⟩:=i
 rw[evalPart_none]
 refine Qgq ?_
 have m:Inv X a d H3 {c with heap:=c.heap.push {cls:=.type "slice",data:=.fields #[f,g,.none]}}:=y.kept (t':=c.toks) λb L q=>Qcq _ q
 obtain⟨T,id,hT,ht,hg⟩:=G a {c with heap:=c.heap.push {cls:=.type "slice",data:=.fields #[f,g,.none]}} d H3 x v f g l u c.heap.objs.size Q m J (Heap.IsSliceOf.new ..) o n t
 show wpAny (model X.prog X.w) X.A (subscriptTail e (.Slice lo hi none p2) v (.ref c.heap.objs.size)) (EP X a d Q) X.xe {c with heap:=c.heap.push {cls:=.type "slice",data:=.fields #[f,g,.none]}}
 exact tail_any (ops:= [.ref c.heap.objs.size,v]) ht hT hg (by with_unfolding_all rfl)
def yb(xs:List V)(lo hi:Option Int):List V:=(xs.drop (HT.dB xs.length 0 lo)).take (HT.dB xs.length xs.length hi-HT.dB xs.length 0 lo)
def u6(xs:List V)(lo hi:Option Int):(yb xs lo hi).length<=xs.length:=by
 unfold yb
 rw[Qxq,List.length_drop]
 omega
def JM(K:PySem.W.Frag):V->Option Int->Option Int->Hp->VK->Prop:=λx lo hi H Q=>∃a b,x=.ref a/\gB K H a b∧
 ¬(HT.dB b.length 0 lo=0/\HT.dB b.length b.length hi=b.length)/\∀p,H p=none->Q (.ref p) (upd H p (.tup (yb b lo hi)))
def F7:JA X (JM X.K):=by
 intro j s u H x v p t lo hi w Q I n k m l h
 obtain⟨a,d,rfl,hx,hw,q⟩:=h
 cases n
 obtain⟨f,r,g,i⟩:=I.tuple hx
 have c:f.toArray.size=d.length:=by rw[Qjq];exact r.length.symm
 refine⟨"tuple",_,PyProof.Rows.slot_tuple_getitem.lookup,g.typeIs,?_⟩
 refine HT.lF g k m l (by rw[c];exact hw) ?_ (by rw[c];exact i)
 rw[c]
 refine⟨.ref s.heap.objs.size,_,I.laid (t':=s.toks) (o:=.tup (yb d lo hi)) (λb y q=>Qcq _ q) (Qmq _) ?_,rfl,q _ (I.hok.fresh (Qmq _))⟩
 exact⟨QAq (u6 d lo hi) i,_,(r.drop (HT.dB d.length 0 lo)).take (HT.dB d.length d.length hi-HT.dB d.length 0 lo),sG.new _ _⟩
def El(K:PySem.W.Frag):R2:=λx y H Q=>∃a b d c,x=.ref a/\y=.ref b/\gB K H a d/\gB K H b c/\d≠[]/\d.length+c.length<=sizeLine∧
 (c= []->Q (.ref a) H)/\(c≠[]->∀p,H p=none->Q (.ref p) (upd H p (.tup (d++c))))
def aX.nil_iff{xs:List V}{a:List Value}(r:aX xs a):a= []↔xs= []:=by
 cases r with
 |nil=>simp
 |cons _ _=>simp
def D1:jL X (binaryOp .Add) (El X.K):=by
 intro f s p H x y v u Q I m i h
 obtain⟨a,b,j,n,rfl,rfl,ha,hb,hx,hz,q1,q2⟩:=h
 cases m
 cases i
 obtain⟨l,d,k,_⟩:=I.tuple ha
 obtain⟨g,c,p2,_⟩:=I.tuple hb
 refine HT.Ec k p2 (λz=>hx (d.nil_iff.mp z)) (λz=>⟨.ref a,H,I,rfl,q1 (c.nil_iff.mp z)⟩) (λz=> ?_) (by rw[←d.length,←c.length];exact hz)
 refine⟨.ref s.heap.objs.size,_,I.laid (t':=s.toks) (o:=.tup (j++n)) (λb r q=>Qcq _ q) (Qmq _) ?_,rfl,q2 (λw=>z (c.nil_iff.mpr w)) _ (I.hok.fresh (Qmq _))⟩
 exact⟨by rw[lQa];exact hz,_,d.append c,sG.new _ _⟩
end
def yu(n:Nat)(i:Int):Option Nat:=if 0<=i then(if i<n then some i.toNat else none) else if -(n:Int)<=i then some (i+n).toNat else none
def lW{α:Type}(xs:List α)(i:Int):Option α:=(yu xs.length i).bind λj=>xs[j]?
def t_{n:Nat}{i:Int}{j:Nat}(h:yu n i=some j):seqIndex? i n=some j/\j<n/\ -(n:Int)<=i/\i<n:=by
 unfold yu at h
 by_cases b:0<=i
 ·rw[Qhq b] at h
  by_cases a:i<n
  ·rw[Qhq a] at h
   have e:i.toNat=j:=QdQ h
   exact⟨by rw[seqIndex_of b a,e],by omega,by omega,a⟩
  ·rw[Quq a] at h;cases h
 ·rw[Quq b] at h
  by_cases a: -(n:Int)<=i
  ·rw[Qhq a] at h
   have e:(i+n).toNat=j:=QdQ h
   exact⟨by rw[seqIndex_neg (by omega) a,e],by omega,a,by omega⟩
  ·rw[Quq a] at h;cases h
def uJ{α:Type}{xs:List α}{i:Int}{v:α}(h:lW xs i=some v):∃j,seqIndex? i xs.length=some j/\xs[j]?=some v/\j<xs.length/\ -(xs.length:Int)<=i/\i<xs.length:=by
 unfold lW at h
 cases e:yu xs.length i with
 |none=>rw[e] at h;cases h
 | some j=>
   rw[e] at h
   obtain⟨d,a,c,b⟩:=t_ e
   exact⟨j,d,h,a,c,b⟩
def yQ(b:Expr):Prop:=∀o i,subscripted b false o i=operate [o,i] (getItem o i)
def DN(X:Cx)(r:R2):Prop:=
 ∀ (c a:Expr) (b:List (Addr×Obj)) (s:Shared) (d:St) (H:Hp) (x y:V) (v u:Value) (Q:VK),Inv X b d H s->RelV x v->RelV y u->r x y H Q→
   subscripted a false v u=operate [v,u] (getItem v u)->wpAny (model X.prog X.w) X.A (subscriptTail c a v u) (EP X b d Q) X.xe s
def Jf(X:Cx)(id:String)(r:V->List V->Hp->VK->Prop):Prop:=
 ∀ (a:List (Addr×Obj)) (s:Shared) (d:St) (H:Hp) (x:V) (b:List V) (v:Value) (c:List Value) (Q:VK),Inv X a d H s->RelV x v->aX b c->r x b H Q→
   wpAny (model X.prog X.w) X.A (call (.builtin id) (v::c)) (EP X a d Q) X.xe s
section
variable{X:Cx}{a b:Expr}{ta tb:TE}{pos:Pos}
def DN.or{r f:R2}(h:DN X r)(h':DN X f):DN X (λx y H Q=>r x y H Q\/f x y H Q):=by
 intro c d e s k H x y v u Q I j g q i
 rcases q with q|q
 ·exact h c d e s k H x y v u Q I j g q i
 ·exact h' c d e s k H x y v u Q I j g q i
def Ie{r:R2}(l:DN X r)(i:PE X a ta)(j:PE X b tb)(e:yQ b):PE X (.Subscript a b pos) (CJ r ta tb):=by
 intro c s g H Q I h
 exact Subscript_ (FY i j I h λv u k x y H2 m f d q=>l a b c k g H2 x y v u Q m f d q (e _ _))
def Ho(K:PySem.W.Frag):R2:=λx y H Q=>∃p c i v,x=.ref p/\y=.int i/\gr K H p c/\lW c i=some v/\Q v H
def Hc(K:PySem.W.Frag):R2:=λx y H Q=>∃p c i v,x=.ref p/\y=.int i/\gB K H p c/\lW c i=some v/\Q v H
def G9:R2:=λx y H Q=>∃z i c,x=.str z/\y=.int i/\z.length<=sizeLine/\lW z.cps.toList i=some c/\Q (.str ⟨#[c]⟩) H
def D2:DN X (Ho X.K):=by
 intro f m c s A H x y v u Q I G F h o
 obtain⟨p,R,i,z,rfl,rfl,hq,he,q⟩:=h
 cases G
 obtain⟨t,rfl⟩:=F
 obtain⟨k,r,g,S⟩:=I.list hq
 obtain⟨j,e,L,W,N,P⟩:=uJ he
 obtain⟨w,B,n⟩:=r.get L
 have M:=r.length
 have U:=jv
 have d:EP X c A Q w s:=⟨z,H,I,n,q⟩
 by_cases C:0<=i
 ·have l:i.toNat=j:=by
   rw[seqIndex_of C P] at e
   exact QdQ e
  exact item_listR g.isList C (by omega) (by rw[l];simpa using B) d o
 ·have l:(i+(k.toArray.size:Int)).toNat=j:=by
   rw[seqIndex_neg (by omega) N] at e
   rw[Qjq,←M]
   exact QdQ e
  exact subscriptTail_builtinR (x:=w) g.isList.typeIs slot_list_getitem.lookup
   (wpAny_getItem_list_neg (Q:=λr J=>r=w/\EP X c A Q r J) g.isList (by omega) (by rw[Qjq] <;>omega) (by omega) (by rw[l];simpa using B) ⟨rfl,d⟩) o
def FW:DN X (Hc X.K):=by
 intro e f c s l H x y v u Q I o m h n
 obtain⟨p,L,i,z,rfl,rfl,hq,he,q⟩:=h
 cases o
 obtain⟨t,rfl⟩:=m
 obtain⟨A,r,k,M⟩:=I.tuple hq
 obtain⟨j,G,C,R,P,S⟩:=uJ he
 obtain⟨w,J,g⟩:=r.get C
 have F:=r.length
 have N:=jv
 have d:EP X c l Q w s:=⟨z,H,I,g,q⟩
 exact subscriptTail_builtinR (x:=w) k.typeIs slot_tuple_getitem.lookup
  (getItem_tuple (j:=j) (Q:=λr B=>r=w/\EP X c l Q r B) k (by omega) (by omega) (by rw[Qjq,←F];exact G) (by simpa using J) ⟨rfl,d⟩) n
def F_:DN X G9:=by
 intro d e g s F H x y v u Q I o l h m
 obtain⟨z,i,c,rfl,rfl,hz,he,q⟩:=h
 obtain⟨t,rfl⟩:=o
 obtain⟨C,rfl⟩:=l
 obtain⟨j,f,p,G,w,A⟩:=uJ he
 have r:z.cps.toList.length=z.length:=by simp[Str.length]
 rw[r] at f w A
 have B:=jv
 exact tail_any (typeIs_str s z t) slot_str_getitem.lookup (getItem_str (c:=c) (by
  have k:decide (i< -(2^63:Int))=false:=Qdq (by omega)
  have n:decide (i>=2^63)=false:=Qdq (by omega)
  rw[k,n,Bool.or_false]) (by rw[f];simpa using p) ⟨.str ⟨#[c]⟩,H,I.tok _,⟨_,rfl⟩,q⟩) m
def KD(K:PySem.W.Frag):R2:=λx y H Q=>Ho K x y H Q\/Hc K x y H Q\/G9 x y H Q
def F9:DN X (KD X.K):=D2.or (FW.or F_)
def xC(c:List Value)(n j:Nat)(u:Value):Obj.mapSeq (·.setIfInBounds j u) {cls:=.type "list",data:=.seq c.toArray n}={cls:=.type "list",data:=.seq (c.set j u).toArray n}:=by
 simp[Obj.mapSeq]
def Inv.lst{d:List (Addr×Obj)}{f:St}{H:Hp}{s:Shared}{p:Addr}{xs:List V}(I:Inv X d f H s)(h:H p=some (.lst xs)):
  ∃(c:List Value) (n:Nat),aX xs c/\s.heap.get? p=some {cls:=.type "list",data:=.seq c.toArray n}/\xs.length<=sizeLine:=by
 obtain⟨z,c,n,r,e⟩:=I.hok p _ h
 exact⟨c,n,r,e,z⟩
def Inv.lstUpd{c:List (Addr×Obj)}{i:St}{H:Hp}{s:Shared}{p:Addr}{xs ys:List V}{d its':List Value}{n g:Nat}{f:Obj->Obj}(I:Inv X c i H s)(h:H p=some (.lst xs))
  (l:s.heap.get? p=some {cls:=.type "list",data:=.seq d.toArray n}) (j:f {cls:=.type "list",data:=.seq d.toArray n}={cls:=.type "list",data:=.seq its'.toArray g}) (r:aX ys its') (hz:ys.length<=sizeLine) (t:Nat):
  Inv X c i (upd H p (.lst ys)) {s with heap:=s.heap.update p f,toks:=t}:=by
 have e:(s.heap.update p f).get? p=some {cls:=.type "list",data:=.seq its'.toArray g}:=by
  rw[Heap.get?_update_self f l (by rw[j] <;>rfl),j]
 refine I.write (x:=p) (e:=p) (by rw[h];trivial) (.inl rfl) (λb u k q=>(Heap.get?_update_other _ _ (Ne.symm k)).trans q) ⟨_,e⟩ ?_
 exact⟨hz,its',g,r,e⟩
def Eo:V->V->V->Hp->(Hp->Prop)->Prop:=λo i v H Q=>∃p c k j,o=.ref p/\i=.int k/\H p=some (.lst c)/\yu c.length k=some j/\Q (upd H p (.lst (c.set j v)))
def set_list:Fq X Eo:=by
 intro d s F H o i v M L u Q I A G z h
 obtain⟨p,B,k,j,rfl,rfl,hp,hj,q⟩:=h
 cases A
 obtain⟨t,rfl⟩:=G
 obtain⟨c,n,r,l,C⟩:=I.lst hp
 obtain⟨e,K,y,x⟩:=t_ hj
 have g:=r.length
 have J:=jv
 have m:Inv X d F (upd H p (.lst (B.set j v))) {s with heap:=s.heap.update p (Obj.mapSeq (·.setIfInBounds j u))}:=
  I.lstUpd hp l (xC c n j u) (r.set z j) (by rw[List.length_set];exact C) s.toks
 by_cases w:0<=k
 ·have f:k.toNat=j:=by
   rw[seqIndex_of w x] at e
   exact QdQ e
  exact PySem.W.ki_setAt l w (by omega) (by rw[Qjq,←g];exact x) (by rw[f];exact⟨_,m,q⟩)
 ·have f:(k+(c.toArray.size:Int)).toNat=j:=by
   rw[seqIndex_neg (by omega) y] at e
   rw[Qjq,←g]
   exact QdQ e
  exact PySem.W.ki_setBack l (by omega) (by rw[Qjq,←g];exact y) (by omega) (by rw[f];exact⟨_,m,q⟩)
def fm:V->Bool
 |.non=>true
 |.bl _=>true
 |.int _=>true
 |.str _=>true
 |_=>false
def oz:V->V->Bool
 |.non,.non=>true
 |.bl a,.bl b=>a==b
 |.bl a,.int b=>(if a then 1 else 0)==b
 |.int a,.bl b=>a==(if b then 1 else 0)
 |.int a,.int b=>a==b
 |.str a,.str b=>a==b
 |_,_=>false
def BU{A:Around}{s:Shared}{y x:V}{u v:Value}(f:RelV y u)(c:RelV x v)(g:fm y=true)(e:fm x=true):SeqAt.EqAt A s u v (oz y x):=by
 cases y with
 | non=>
   cases f
   cases x with
   |non=>cases c;exact SeqAt.EqAt.same _
   |bl b=>cases c;exact SeqAt.EqAt.none_bool b
   |int b=>obtain⟨t,rfl⟩:=c;exact SeqAt.EqAt.none_int b t
   |str b=>obtain⟨t,rfl⟩:=c;exact SeqAt.EqAt.none_str b t
   |_=>exact absurd (show false=true from e) Qtq
 | bl a=>
   cases f
   cases x with
   |non=>cases c;exact SeqAt.EqAt.bool_none a
   |bl b=>cases c;exact SeqAt.EqAt.bool_bool a b
   |int b=>obtain⟨t,rfl⟩:=c;exact SeqAt.EqAt.bool_int a b t
   |str b=>obtain⟨t,rfl⟩:=c;exact SeqAt.EqAt.bool_str a b t
   |_=>exact absurd (show false=true from e) Qtq
 | int a=>
   obtain⟨d,rfl⟩:=f
   cases x with
   |non=>cases c;exact SeqAt.EqAt.int_none a d
   |bl b=>cases c;exact SeqAt.EqAt.int_bool a d b
   |int b=>obtain⟨t,rfl⟩:=c;exact SeqAt.EqAt.int_int a d b t
   |str b=>obtain⟨t,rfl⟩:=c;exact SeqAt.EqAt.int_str a d b t
   |_=>exact absurd (show false=true from e) Qtq
 | str a=>
   obtain⟨d,rfl⟩:=f
   cases x with
   |non=>cases c;exact SeqAt.EqAt.str_none a d
   |bl b=>cases c;exact SeqAt.EqAt.str_bool a d b
   |int b=>obtain⟨t,rfl⟩:=c;exact SeqAt.EqAt.str_int a d b t
   |str b=>obtain⟨t,rfl⟩:=c;exact SeqAt.EqAt.str_str a d b t
   |_=>exact absurd (show false=true from e) Qtq
 |_=>exact absurd (show false=true from g) Qtq
def wK(x:V)(u:Value):Bool:=match u with
 |.none=>oz .non x
 |.bool b=>oz (.bl b) x
 |.int i _=>oz (.int i) x
 |.str z _=>oz (.str z) x
 |_=>false
def ug{x y:V}{u:Value}(r:RelV y u)(f:fm y=true):wK x u=oz y x:=by
 cases y with
 |non=>cases r;rfl
 |bl b=>cases r;rfl
 |int i=>obtain⟨t,rfl⟩:=r;rfl
 |str z=>obtain⟨t,rfl⟩:=r;rfl
 |_=>exact absurd (show false=true from f) Qtq
theorem lE{x:V}:∀{xs:List V} {c:List Value},aX xs c->xs.all fm=true->c.any (wK x)=xs.any λy=>oz y x
 |_,_,.nil,_=>rfl
 | y::xs,u::c,.cons r t,f=>by
   rw[List.all_cons,QCq] at f
   rw[List.any_cons,List.any_cons,ug r f.1,lE t f.2]
theorem gW{A:Around}{s:Shared}{x:V}{v:Value}(g:RelV x v)(e:fm x=true):∀{xs:List V} {d:List Value},aX xs d->xs.all fm=true->∀u∈d,SeqAt.EqAt A s u v (wK x u)
 |_,_,.nil,_=>λu c=>by cases c
 | y::xs,u::d,.cons r t,f=>λh c=>by
   rw[List.all_cons,QCq] at f
   rcases Qsq.mp c with rfl|c
   · rw[ug r f.1];exact BU r g f.1 e
   · exact gW g e t f.2 h c
def B5(x:V)(xs:List V):Bool:=xs.any λy=>oz y x
def IL(K:PySem.W.Frag)(d:Bool):R2:=λx y H Q=>∃p c,y=.ref p/\(gr K H p c\/gB K H p c)/\fm x=true/\c.all fm=true/\Q (.bl (if d then !B5 x c else B5 x c)) H
def rR:jL X (compareOp .In) (IL X.K false):=by
 intro i s m H x y v u Q I g j h
 obtain⟨p,l,rfl,d,fx,fs,q⟩:=h
 cases j
 rcases d with d|d
 ·obtain⟨c,r,f,k⟩:=I.list d
  refine SeqAt.in_listAt (wK x) f.isList (λw e=>gW g fx r fs w (by simpa using e)) ⟨.bl _,H,I,rfl,?_⟩
  rw[show c.toArray.any (wK x)=c.any (wK x) by simp,lE r fs]
  exact q
 ·obtain⟨c,r,f,k⟩:=I.tuple d
  refine SeqAt.in_tupleAt (wK x) f (λw e=>gW g fx r fs w (by simpa using e)) ⟨.bl _,H,I,rfl,?_⟩
  rw[show c.toArray.any (wK x)=c.any (wK x) by simp,lE r fs]
  exact q
def uw:jL X (compareOp .NotIn) (IL X.K true):=by
 intro i s m H x y v u Q I g j h
 obtain⟨p,l,rfl,d,fx,fs,q⟩:=h
 cases j
 rcases d with d|d
 ·obtain⟨c,r,f,k⟩:=I.list d
  refine SeqAt.notIn_listAt (wK x) f.isList (λw e=>gW g fx r fs w (by simpa using e)) ⟨.bl _,H,I,rfl,?_⟩
  rw[show c.toArray.any (wK x)=c.any (wK x) by simp,lE r fs]
  exact q
 ·obtain⟨c,r,f,k⟩:=I.tuple d
  refine SeqAt.notIn_tupleAt (wK x) f (λw e=>gW g fx r fs w (by simpa using e)) ⟨.bl _,H,I,rfl,?_⟩
  rw[show c.toArray.any (wK x)=c.any (wK x) by simp,lE r fs]
  exact q
def sV:gQ X (.builtin "len") (λxs H Q=>∃p ys,xs= [.ref p]/\(gr X.K H p ys\/gB X.K H p ys)/\Q (.int ys.length) H):=by
 intro i s l H xs m Q I r h
 obtain⟨p,ys,rfl,d,q⟩:=h
 obtain⟨u,rfl,rx⟩:=vals1 r
 cases rx
 have k:=jv
 rcases d with d|d
 ·obtain⟨g,e,f,j⟩:=I.list d
  have c:=e.length
  exact Calls.call_len_list f.isList (by simp only[Qjq] <;>omega) ⟨.int ys.length,H,I.tok _,⟨s.toks+1,by rw[Qjq,c]⟩,q⟩
 ·obtain⟨g,e,f,j⟩:=I.tuple d
  have c:=e.length
  exact len_tuple f (by simp only[Qjq] <;>omega) ⟨.int ys.length,H,I.tok _,⟨s.toks+1,by rw[Qjq,c]⟩,q⟩
def qN:gQ X (.type "tuple") (λxs H Q=>∃p ys,xs= [.ref p]/\((gr X.K H p ys/\∀l,H l=none->Q (.ref l) (upd H l (.tup ys)))\/(gB X.K H p ys/\Q (.ref p) H))):=by
 intro c s t H xs y Q I r h
 obtain⟨p,ys,rfl,h⟩:=h
 obtain⟨u,rfl,rx⟩:=vals1 r
 cases rx
 rcases h with⟨j,q⟩|⟨j,q⟩
 ·obtain⟨d,g,i,m⟩:=I.list j
  have k:=g.length
  refine call_tuple_list i.isList (λf v=> ?_) (by simp only[Qjq] <;>omega)
  have n:Inv X c t H {s with heap:=f}:=I.kept (t':=s.toks) v
  have x:Inv X c t (upd H f.objs.size (.tup ys)) {s with heap:=f.push {cls:=.type "tuple",data:=.seq d.toArray}}:=
   n.laid (t':=s.toks) (λb o e=>Qcq _ e) (Qmq _) (show bI X.prog X.w _ _ _ (.tup ys) from⟨m,d,g,sG.new _ _⟩)
  exact⟨.ref f.objs.size,_,x,rfl,q _ (n.hok.fresh (Qmq _))⟩
 ·obtain⟨d,g,i,m⟩:=I.tuple j
  exact call_tuple_same i ⟨.ref p,H,I,rfl,q⟩
def KB(K:PySem.W.Frag)(T:String)(x:V)(H:Hp):Prop:=match x with
 |.str _=>T="str"
 |.int _=>T="int"
 |.ref p=>(T="list" /\∃d,gr K H p d)\/(T="tuple" /\∃o,K.lookup p=some o/\o.cls=.type "tuple" /\o.dict=none)∨
   (T="dict" /\((∃c,H p=some (.dK c))\/∃c,H p=some (.dT c)))\/(T="set" /\∃S n,H p=some (.set S n))
 |_=>False
def FL{g:List (Addr×Obj)}{u:St}{H:Hp}{s:Shared}{T:String}{x:V}{v:Value}(I:Inv X g u H s)(r:RelV x v)(h:KB X.K T x H):
  s.TypeIs v T/\∀a,v=.ref a->∃ob,s.heap.get? a=some ob/\ob.dict=none:=by
 cases x with
 | str z=>
   obtain⟨t,rfl⟩:=r
   cases (show T="str" from h)
   exact⟨typeIs_str s z t,λ_ e=>nomatch e⟩
 | int i=>
   obtain⟨t,rfl⟩:=r
   cases (show T="int" from h)
   exact⟨typeIs_int s i t,λ_ e=>nomatch e⟩
 | ref p=>
   cases r
   rcases h with⟨rfl,xs,hq⟩|⟨rfl,o,d,hc,k⟩|⟨rfl,d⟩|⟨rfl,S,n,d⟩
   · obtain⟨q,_,m,_⟩:=I.list hq
     refine⟨m.isList.typeIs,λa e=> ?_⟩
     cases e
     obtain⟨o,n,e,c,k,_⟩:=m
     exact⟨o,e,k⟩
   · refine⟨⟨o,I.kIn p o d,hc⟩,λa e=> ?_⟩
     cases e
     exact⟨o,I.kIn _ o d,k⟩
   · have z:∃o,s.heap.get? p=some o/\o.ExactDict:=by
       rcases d with⟨j,d⟩|⟨j,d⟩
       · obtain⟨_,_,_,_,o,_,_,e,f,_⟩:=I.hok p _ d
         exact⟨o,e,f⟩
       · obtain⟨_,_,_,_,o,_,_,e,f,_⟩:=I.hok p _ d
         exact⟨o,e,f⟩
     obtain⟨o,e,f⟩:=z
     refine⟨⟨o,e,f.1⟩,λa l=> ?_⟩
     cases l
     exact⟨o,e,f.2.1⟩
   · obtain⟨o,_,_,_,e,f,_⟩:=I.hok p _ d
     refine⟨⟨o,e,f.1⟩,λa l=> ?_⟩
     cases l
     exact⟨o,e,f.2.1⟩
 |_=>exact False.elim h
def IR(K:PySem.W.Frag)(T:String)(r:V->List V->Hp->VK->Prop)(e:TE)(t:TA):TE:=λc H Q=>e c H λx H1=>KB K T x H1/\t c H1 λd H2=>r x d H2 Q
variable{o e:Expr}{es:List Expr}{to:TE}{t:TA}{name:Str}{apos cpos:Pos}{T id:String}{r:V->List V->Hp->VK->Prop}
def sC(A:PlainAttrs T)(slot:Slot T name id)(k:typeOf (.builtin id)=pure (.type "method_descriptor"))(u:Jf X id r)(P:PE X o to)(C:PA X (e::es) t)
  (f:attributeBase o name X.env (eval o X.env)=eval o X.env:=by rfl)
  (i:((backTo cpos (starEach (e::es) X.env)).all (λx=> !x.1)&&(backToKw cpos (keywordEach [] X.env)).all (λx=>x.1.isSome)
   &&decide ((e::es).length+([]:List Keyword).length+(if ([]:List Keyword).isEmpty then 0 else 1)<30))=true:=by rfl)
  (g:(apos.endLine==cpos.line)=true:=by rfl) (z:starEach (e::es) X.env=(false,eval e X.env)::starEach es X.env:=by rfl) (d:(backTo cpos (starEach es X.env)).any (·.1)=false:=by rfl):
  PE X (.Call (.Attribute o name apos) (e::es) [] cpos) (IR X.K T r to t):=by
 intro c s j H Q I h
 refine wpAny_Call_method_late f i g rfl (bT (P c s j H _ I h) λv q R=> ?_)
 obtain⟨x,H1,l,n,y,J⟩:=R
 obtain⟨F,B⟩:=FL l n y
 refine⟨T,id,A,slot,k,F,B,?_⟩
 have m:=C cpos c q j H1 _ l J
 rw[z] at m⊢
 refine Calls.callWith_builtin (by show(false||(backTo cpos (starEach es X.env)).any (·.1))=false;rw[d] <;>rfl) (Calls.evalArgs_plain ?_)
 exact bT m λL M ⟨N,H2,p,w,G⟩=>u c M j H2 x N v L Q p n w G
end
def Il(X:Cx)(id:String)(r:V->List V->Hp->VK->Prop):Prop:=
 ∀ (a:List (Addr×Obj)) (s:Shared) (d:St) (H:Hp) (x:V) (b:List V) (v:Value) (c:List Value) (Q:VK),Inv X a d H s->RelV x v->aX b c->r x b H Q→
   wpAny (model X.prog X.w) X.A (call (.builtin id) (v::c)) (EP X a d Q) X.xe s
def aX.one:∀{x:V} {a:List Value},aX [x] a->∃u,a= [u]/\RelV x u
 |_,_,.cons r .nil=>⟨_,rfl,r⟩
theorem aX.eraseIdx:∀{xs:List V} {a:List Value} (i:Nat),aX xs a->aX (xs.eraseIdx i) (a.eraseIdx i)
 |_,_,_,.nil=>.nil
 |_,_,0,.cons _ t=>t
 |_,_,i+1,.cons r t=>.cons r (aX.eraseIdx i t)
theorem aX.rep{xs:List V}{a:List Value}(h:aX xs a):∀k:Nat,aX (List.replicate k xs).flatten (List.replicate k a).flatten
 |0=>.nil
 | k+1=>by
   rw[QNq,QNq,List.flatten_cons,List.flatten_cons]
   exact aX.append h (aX.rep h k)
theorem sr{α:Type}:∀(l:List α) (i:Nat),(l.eraseIdx i).length<=l.length
 | [],_=>Qmq _
 |_::_,0=>Nat.le_succ _
 |_::r,i+1=>Nat.succ_le_succ (sr r i)
theorem foldl_rep(b:List Value):∀(k:Nat) (a:List Value),
  List.foldl (λf c=>f++c) a.toArray (List.replicate k b.toArray)=(a++(List.replicate k b).flatten).toArray
 |0,a=>by simp
 | k+1,a=>by
   have e:a.toArray++b.toArray=(a++b).toArray:=by simp
   have d:(a++b)++(List.replicate k b).flatten=a++(List.replicate (k+1) b).flatten:=by
     rw[QNq,List.flatten_cons,Qvq]
   rw[←d,←foldl_rep b k (a++b),←e,QNq,List.foldl_cons]
section
variable{X:Cx}{pins:List (Addr×Obj)}{σ:St}{H:Hp}{s:Shared}{l b:Addr}{xs ys zs:List V}
def Inv.lset{a its':List Value}{n:Nat}{f:Array Value->Array Value}{t':Nat}(I:Inv X pins σ H s)(g:H l=some (.lst xs))
  (e:s.heap.get? l=some {cls:=.type "list",data:=.seq a.toArray n}) (i:f a.toArray=its'.toArray) (c:aX ys its') (hz:ys.length<=sizeLine):
  Inv X pins σ (upd H l (.lst ys)) {s with heap:=s.heap.update l (Obj.mapSeq f),toks:=t'}:=by
 have q:=PySem.IsL.update e f
 rw[i] at q
 refine I.write (x:=l) (e:=l) (by rw[g];exact trivial) (.inl rfl) (λj u d h=>(Heap.get?_update_other s.heap (Obj.mapSeq f) (Ne.symm d)).trans h) ⟨_,q⟩ ?_
 exact⟨hz,its',_,c,q⟩
def Inv.lnew{a:List Value}{t':Nat}(I:Inv X pins σ H s)(c:aX ys a)(hz:ys.length<=sizeLine):
  Inv X pins σ (upd H s.heap.objs.size (.lst ys)) {s with heap:=s.heap.push {cls:=.type "list",data:=.seq a.toArray},toks:=t'}:=
 I.laid (λ_ _ q=>Qcq _ q) (Qmq _) ⟨hz,a,0,c,Qrq _ rfl⟩
def Inv.fresh(I:Inv X pins σ H s):H s.heap.objs.size=none:=I.hok.fresh (Qmq _)
def Inv.lstM(I:Inv X pins σ H s)(c:H l=some (.lst xs)):xs.length<=sizeLine/\∃(a:List Value) (n:Nat),aX xs a/\xs.length=a.length/\s.heap.get? l=some {cls:=.type "list",data:=.seq a.toArray n}:=by
 obtain⟨z,a,n,r,e⟩:=I.hok l _ c
 exact⟨z,a,n,r,r.length,e⟩
def p8{n:Nat}(h:n<=sizeLine):Builtin.List.listTooLong n=false:=by
 unfold Builtin.List.listTooLong
 exact Qdq (by omega)
end
section
variable{X:Cx}
def yJ:V->List V->Hp->VK->Prop:=λx b H Q=>∃l a y,x=.ref l/\b= [y]/\H l=some (.lst a)/\a.length<sizeLine/\Q .non (upd H l (.lst (a++ [y])))
def mB:Il X "list.append" yJ:=by
 intro b s g H x k v j Q I d c h
 obtain⟨l,f,y,rfl,rfl,hH,hz,q⟩:=h
 cases d
 obtain⟨u,rfl,ru⟩:=c.one
 obtain⟨z,a,n,r,i,e⟩:=I.lstM hH
 refine call_meets F.slot_list_append ⟨_,e,rfl⟩ F.entry_list_append (F.args_list_append_2 _ _) (PySem.list_append l a.toArray n u (by rw[Qjq];omega)) ⟨e,?_⟩
 refine⟨.non,_,I.lset (its':=a++ [u]) hH e (by simp) (r.append (.cons ru .nil)) ?_,rfl,q⟩
 rw[lQa,List.length_singleton]
 omega
def zf:V->List V->Hp->VK->Prop:=λx d H Q=>∃l b a c,x=.ref l/\d= [.ref b]/\H l=some (.lst a)/\H b=some (.lst c)/\a.length+c.length<=sizeLine/\Q .non (upd H l (.lst (a++c)))
def AD:Il X "list.extend" zf:=by
 intro g s A H x G v C Q I m j h
 obtain⟨l,b,y,w,rfl,rfl,hH,hB,hz,q⟩:=h
 cases m
 obtain⟨u,rfl,ru⟩:=j.one
 cases ru
 obtain⟨z,c,n,r,B,e⟩:=I.lstM hH
 obtain⟨t,a,k,i,o,p⟩:=I.lstM hB
 have f:c.toArray.size+a.toArray.size<=sizeLine:=by rw[Qjq,Qjq];omega
 have d:¬(!c.toArray.isEmpty&&Builtin.List.listTooLong (c.toArray.size+a.toArray.size))=true:=by
  rw[p8 f,Bool.and_false]
  exact Qtq
 refine call_meets F.slot_list_extend ⟨_,e,rfl⟩ F.entry_list_extend (F.args_list_extend_2 _ _)
  (AutoSeq1.list_extend_list_list_0 l c.toArray n b a.toArray k d (by rw[Qjq];omega) (by omega)) ⟨e,p,?_⟩
 refine⟨.non,_,I.lset (its':=c++a) hH e (by simp) (r.append i) ?_,rfl,q⟩
 rw[lQa]
 omega
def BH:V->List V->Hp->VK->Prop:=λx b H Q=>∃l a i k y,x=.ref l/\b= [.int i]/\H l=some (.lst a)/\ -(2^63)<=i/\i<2^63/\seqIndex? i a.length=some k/\a[k]?=some y/\Q y (upd H l (.lst (a.eraseIdx k)))
def CF:Il X "list.pop" BH:=by
 intro c s o H x A v p Q I j d h
 obtain⟨l,g,i,k,y,rfl,rfl,hH,h1,h2,hk,hy,q⟩:=h
 cases j
 obtain⟨u,rfl,ru⟩:=d.one
 obtain⟨t,rfl⟩:=ru
 obtain⟨z,a,n,r,m,e⟩:=I.lstM hH
 obtain⟨w,f,b⟩:=r.get hy
 refine call_meets F.slot_list_pop ⟨_,e,rfl⟩ F.entry_list_pop (F.args_list_pop_2 _ _)
  (MeetsSeq.list_pop_at l a.toArray n i t k w (fitsIndex_both h1 h2) (by rw[Qjq,←m];exact hk) (by rw[←Array.getElem?_toList];exact f) (by rw[Qjq];omega)) ⟨e,?_⟩
 refine⟨y,_,I.lset (its':=a.eraseIdx k) hH e ?_ (r.eraseIdx k) ?_,b,q⟩
 ·show a.toArray.eraseIdxIfInBounds k=(a.eraseIdx k).toArray
  rw[List.eraseIdxIfInBounds_toArray]
 ·have:=sr g k
  omega
def JH:R2:=λx y H Q=>∃l k a,x=.ref l/\y=.int k/\H l=some (.lst a)/\ -(2^63)<=k/\k<2^63/\a.length*k.toNat<=sizeLine∧
 ∀p,H p=none->Q (.ref p) (upd H p (.lst (List.replicate k.toNat a).flatten))
def len_rep{α:Type}(xs:List α)(k:Nat):(List.replicate k xs).flatten.length=k*xs.length:=by
 induction k with
 |zero=>simp
 |succ k a=>rw[QNq,List.flatten_cons,lQa,a,Nat.succ_mul,Nat.add_comm]
def Ga:jL X (binaryOp .Mult) JH:=by
 intro p s L H x y v u Q I B A h
 obtain⟨l,k,K,rfl,rfl,hH,h1,h2,hz,q⟩:=h
 cases B
 obtain⟨t,rfl⟩:=A
 obtain⟨z,b,n,r,G,e⟩:=I.lstM hH
 have f:b.toArray.size*k.toNat<=sizeLine:=by rw[Qjq,←G];exact hz
 have d:¬b.toArray.size*k.toNat>(2^63-1)/8:=by
  have:(sizeLine:Nat)<=(2^63-1)/8:=by decide
  omega
 have i:¬(!Builtin.List.listFitsIndex k)=true:=by
  rw[fitsIndex_both h1 h2]
  exact Qtq
 have c:¬Builtin.List.listTooLong (b.toArray.size*k.toNat)=true:=by
  rw[p8 f]
  exact Qtq
 have g:List.foldl (λo j=>o++j) #[] (List.replicate (if b.toArray.isEmpty=true then 0 else k.toNat) b.toArray)=(List.replicate k.toNat b).flatten.toArray:=by
  have w:∀m:Nat,List.foldl (λo j=>o++j) #[] (List.replicate m b.toArray)=(List.replicate m b).flatten.toArray:=λm=>by
   have:=foldl_rep b m []
   rw[List.nil_append] at this
   exact this
  rw[w]
  cases b with
  |nil=>simp
  |cons a J=>rw[Quq (by simp)]
 refine wpAny_binaryOp_repeat_ref (T:="list") (U:="int") (by decide) ⟨_,e,rfl⟩ (λC=>typeIs_int C k t) noFill_list_mul F.fills_int_mul F.slot_int_rmul repeat_list F.slot_int_index.lookup
  (call_meets F.slot_int_rmul (typeIs_int s k t) F.entry_int_rmul (F.args_int_rmul_2 _ _) (int___rmul___int_list k t l b.toArray n)
   ⟨e,rfl,⟨_,e,rfl⟩,call_meets F.slot_list_mul ⟨_,e,rfl⟩ F.entry_list_mul (F.args_list_mul_2 _ _) (AutoListH.list___mul___list_int_3 l b.toArray n k t i d c) ⟨e,?_⟩⟩)
 rw[g]
 exact⟨.ref _,_,I.lnew (t':=s.toks) (r.rep k.toNat) (by rw[len_rep,Nat.mul_comm];exact hz),rfl,q _ I.fresh⟩
end
end L2
namespace Att
open PySem PySem.W PySem.Calls PyProof.Rows
def oB{P:Params}{h:Heap}:∀(ns:List Int) (vs:List Value),WellAll P h vs (ns.map WData.int)->IntsAre vs ns:=by
 intro ns
 induction ns with
 | nil=>
   intro vs w
   rw[List.map_nil] at w
   cases w
   exact .nil
 | cons n ns c=>
   intro vs w
   rw[QDq] at w
   cases w with
   | cons a b=>
     cases a
     exact .cons _ _ (c _ b)
def Ag{l:OpenLaw}{n:Nat}(p:l.most=some n){P:Params}{h:Heap}{args:List WData}{vals:List Value}
  (b:l.row.toRowW.claim.pre args=true) (i:WellAll P h vals args):
  ∃a vs ns,vals= [Value.ref a]/\args= [WData.list (ns.map WData.int)]/\h.get? a=some {cls:=.type "list",data:=.seq vs.toArray}/\IntsAre vs ns/\ns.length<=n:=by
 have j:WShape.hasAll [] args [.list .int]=true:=(pre_splitW b).1
 have k:l.pre.holds [] {args:=args}=true:=(pre_splitW b).2
 obtain⟨d,r,rfl,h1,h2⟩:=hasAllW_cons j
 obtain rfl:=hasAllW_nil h2
 obtain⟨u,rfl,h3⟩:=hasW_list h1
 obtain⟨ns,rfl⟩:=items_int h3
 have c:ns.length<=n:=by
  unfold OpenLaw.pre at k
  have f:(WTm.not (.lt (.lit (.int (n:Int))) (.len (.arg 0)))).holds [] {args:= [.list (ns.map .int)]}=true:=by
   have f:=(holds_andW k).1
   rw[p] at f
   exact f
  have g:=condW_of f (w_not (w_lt w_lit (w_len_list (w_arg rfl))))
  rw[lQm] at g
  refine Nat.le_of_not_lt λq=> ?_
  have s:(n:Int)<((ns.length:Nat):Int):=by omega
  first
   |(rw[Qeq s] at g;exact absurd g (by decide))
   |(simp at g;omega)
 cases i with
 | cons m o=>
   cases o
   cases m with
   |list t e=>exact⟨_,_,ns,rfl,rfl,t,oB ns _ e,c⟩
def Ar(l:OpenLaw)(args:List WData):l.row.toRowW.claim.post args (.bool true) args=true:=
 postW_of (r:=l.row.toRowW) (X:=(true==true))
  (show WShape.has [] (.bool true) .bool=true by first|rfl|decide|simp[WShape.has,WShape.arms,WShape.armsAll])
  (show(WTm.eq .res (.lit (.bool true))).value [] {args:=args,res:=some (.bool true),after:=args}=some (.bool (true==true)) from w_eq_bool (w_res rfl) w_lit) rfl
def vY{l:OpenLaw}{n:Nat}{q:Program}{c:List Str}{y:(Str->Option Value)->Heap->Prop}{A:World->Heap->Prop}{d:DefRec}
  (I:l.most=some n) (u:d.params.defaults= [])
  (h:∀(w:World) (s₀ b:Shared) (mg t:Str->Option Value) (i:Addr) (o:Obj) (m j e:Value) (a:Addr) (vs:List Value) (ns:List Int),
   Ground q c [] y w s₀ mg t b.heap->A w b.heap→
   b.heap.get? i=some o->o.data=.func (docDef d.name d.params d.body d.scope m j e)->b.heap.CodeRec j d.name->mg d.name=some (.ref i)→
   b.heap.get? a=some {cls:=.type "list",data:=.seq vs.toArray}->IntsAre vs ns->ns.length<=n->b.gens= #[]→
   codeAny (model l.prog w) callerA (.call (.ref i) ⟨[.ref a],[]⟩) (λr k=>r=.ok (.ret (.bool true))/\OldK b.heap k.heap/\k.os=b.os/\AllBare k.gens) b):
  WalkO q c y A l.row.toRowW d [] (λf vs=>PySem.call f vs):=by
 intro w s₀ b mg t G Y i o m j e L kV P H v C s M B x Q g z K p J
 obtain rfl:L=.none:=Dflts.none C u
 obtain rfl:kV=.none:=Dflts.noKw C
 obtain⟨a,vs,ns,rfl,rfl,hobj,hints,hlen⟩:=Ag I g p
 refine enter_call (codeAny_mono (h w s₀ b mg t i o m j e a vs ns G Y P (fd_plain H) v s hobj hints hlen M) λr k N=> ?_)
 obtain⟨rfl,h2,h3,h4⟩:=N
 exact⟨.inl ⟨.bool true,.bool true,[],rfl,λ_=>rfl,.bool true,Ar l _,λ_=>⟨List.Pairwise.nil,λ_ F=>(nomatch F)⟩⟩,h2,h3,h4⟩
end Att
namespace L2
open PySem PySem.Spec PyProof.Rows
theorem rH:∀{vs:List Value} {ns:List Int},IntsAre vs ns->aX (ns.map V.int) vs
 |_,_,.nil=>.nil
 |_,_,.cons n t h=>.cons ⟨t,rfl⟩ (rH h)
def DY(H:Hp):Prop:=∀b,H b=none\/∃o a,H b=some (.frz o (.lst a))
def B_{P:Program}{w:World}{K:PySem.W.Frag}{mg Z:Str->Option Value}{CX:AL}{k:Nat}{R a:Addr}{fd:FuncData}{x:Str}{sp:Sp}{c:Shared}{vs:List Value}{ns:List Int}
  (KX:K.In c.heap) (L:c.heap.Ns mainGlobals mg) (g:c.heap.Ns builtinsNs Z) (Q:∀x:Str,x≠"__name__" ->Z x=bootBuiltins x) (t:c.heap.NoLimit) (hg:c.gens= #[])
  (N:c.heap.get? a=some {cls:=.type "list",data:=.seq vs.toArray}) (hi:IntsAre vs ns) (hl:ns.length<=sizeLine) (hr:dS k callerA)
  (F:∀base:Heap,K.In base->base.Ns mainGlobals mg->aV P w K mg base CX k R fd [x] sp) (p:∀(s:Shared) (u:Value),BindsTo s fd ⟨[u],[]⟩ [(x,u)])
  (a1:∀H:Hp,DY H->gr K H a (ns.map V.int)->sp [.ref a] H (λv _=>v=.bl true) λ_ _ _=>False)
  (U:∀H e i,CX [] H c (λ_ _ _=>False) e i->False):
  codeAny (model P w) callerA (.call (.ref R) ⟨[.ref a],[]⟩) (λr i=>r=.ok (.ret (.bool true))/\OldK c.heap i.heap/\i.os=c.os/\AllBare i.gens) c:=by
 have rv:=rH hi
 have A:=hi.length
 have l:∀H:Hp,DY H->gr K H a (ns.map V.int)->kW P w H c.heap->(∀b,H b≠none->b=a)->(H a≠none->K.lookup a=none)→
   codeAny (model P w) callerA (.call (.ref R) ⟨[.ref a],[]⟩) (λr i=>r=.ok (.ret (.bool true))/\OldK c.heap i.heap/\i.os=c.os/\AllBare i.gens) c:=by
  intro H hO hS M hA hK
  have f:∀{b:Addr} {o:Obj},c.heap.get? b=some o->H b=none->(um c.heap H).get? b=some o:=λe n=>Bx e n
  have S:∀{b:Addr} {o:Obj} {G:Array DictEntry} {J:Nat},c.heap.get? b=some o->o.data=.dict G J->H b=none:=λ{b o G J} e d=>by
   cases q:H b with
   |none=>rfl
   | some u=>
     have X:b=a:=hA b (by rw[q];simp)
     subst X
     rw[N] at e;cases e
     have d':Data.seq vs.toArray _=Data.dict G J:=d
     cases d'
  have j:∀{b:Addr} {m:Str->Option Value},c.heap.Ns b m->(um c.heap H).Ns b m:=λ{b m} ⟨o,G,J,e,d,r⟩=>⟨o,G,J,f e (S e d),d,r⟩
  have I:K.In (um c.heap H):=λb o e=>f (KX b o e) (by
   cases q:H b with
   |none=>rfl
   | some u=>
     have X:b=a:=hA b (by rw[q];simp)
     subst X
     rw[hK (by rw[q];simp)] at e;cases e)
  have hM:Mod K mg (um c.heap H):=⟨I,j L,⟨Z,j g,Q⟩,let ⟨mc,h1,h2⟩:=t;⟨mc,j h1,h2⟩⟩
  have e0:D5 P w K mg (um c.heap H) callerA [] c H:=⟨rfl,hM,λb o e=>Dq e,Nat.le_of_eq (zX _ _),trivial,λb g=>absurd (show b∈([]:List Addr) from g) (by simp),M,.of_eq hg⟩
  refine codeAny_mono ((F _ I (j L)).run callerA [] c H ⟨[.ref a],[]⟩ [.ref a] [.ref a] _ _ hr e0 (p c (.ref a)) (.cons rfl .nil) (a1 H hO hS)) λr i h=> ?_
  cases r with
  |error e=>exact(U H e i h).elim
  | ok fl=>
    cases fl with
    |next=>exact False.elim h
    |brk=>exact False.elim h
    |cont=>exact False.elim h
    | ret u=>
      obtain⟨v,H',os,B,un,y,r',q⟩:=h
      have q':v=.bl true:=q
      subst q'
      obtain rfl:u=Value.bool true:=r'
      refine⟨rfl,OldK.of_keep λb o e=> ?_,os,B⟩
      cases q:H b with
      |none=>exact un.keep b o e q (by intro z;exact absurd (show b∈([]:List Addr) from z) (by simp)) (by simp)
      | some u=>
        rcases hO b with z|⟨ob,xs,z⟩
        · rw[q] at z;cases z
        · have z2:=un.frzs b ob _ z
          obtain⟨e1,_⟩:=M b _ z
          obtain⟨e2,_⟩:=y b _ z2
          rw[e] at e1;cases e1
          exact e2
 cases Y:K.lookup a with
 | some o=>
   have e:=KX a o Y
   rw[N] at e
   cases e
   refine l (λ_=>none) (λ_=>.inl rfl) (.inr ⟨_,vs.toArray,_,Y,rfl,rfl,rfl,by rw[Qjq,A];exact hl,by simpa using rv⟩) (λb u z=>by have C:(none:Option HO)=some u:=z;cases C) (λb z=>absurd rfl z) λz=>absurd rfl z
 | none=>
   refine l (λb=>if b=a then some (.frz {cls:=.type "list",data:=.seq vs.toArray} (.lst (ns.map V.int))) else none) (λb=> ?_) (.inl (.inr ⟨{cls:=.type "list",data:=.seq vs.toArray},Qhq rfl⟩)) (λb u z=> ?_) (λb z=> ?_) λ_=>Y
   · by_cases g:b=a
     · exact .inr ⟨_,_,Qhq g⟩
     · exact .inl (Quq g)
   · by_cases g:b=a
     · have C:=(Qhq g).symm.trans z
       cases C
       subst g
       exact⟨N,by rw[lQm];exact hl,vs,_,rv,N⟩
     · have C:=(Quq g).symm.trans z
       cases C
   · by_cases g:b=a
     · exact g
     · exact absurd (Quq g) z
def Dl{l:PySem.W.OpenLaw}{n k:Nat}{q:Program}{j:List Str}{Q:(Str->Option Value)->Heap->Prop}{M:World->Heap->Prop}{d:DefRec}{K:Params->PySem.W.Frag}{CX:World->AL}{sp:World->Sp}{x:Str}
  (S:l.most=some n) (I:n<=sizeLine) (A:d.params.defaults= []) (hr:dS k callerA)
  (hY:∀(w:World) (h:Heap),M w h->(K w.params).In h)
  (F:∀(w:World) (mg:Str->Option Value) (r:Addr) (h:Heap),(K w.params).In h->h.Ns mainGlobals mg->mg d.name=some (.ref r)→
   ∃ y:FuncData,(∀(s:Shared) (u:Value),BindsTo s y ⟨[u],[]⟩ [(x,u)])∧
     ∀base:Heap,(K w.params).In base->base.Ns mainGlobals mg->aV l.prog w (K w.params) mg base (CX w) k r y [x] (sp w))
  (B:∀(w:World) (H:Hp) (a:Addr) (ns:List Int),ns.length<=n->DY H->gr (K w.params) H a (ns.map V.int)->sp w [.ref a] H (λv _=>v=.bl true) λ_ _ _=>False)
  (C:∀(w:World) (H:Hp) (s:Shared) (e:Value) (z:Shared),CX w [] H s (λ_ _ _=>False) e z->False):
  PySem.W.WalkO q j Q M l.row.toRowW d [] (λf vs=>PySem.call f vs):=by
 refine Att.vY S A λw L p mg mb r o pm cd P a vs ns G Y ho hd a1 t m i c U=> ?_
 have J:=hY w _ Y
 obtain⟨y,Z,N⟩:=F w mg r _ J G.T.g t
 exact B_ J G.T.g G.T.b G.T.builtins G.T.nolimit U m i (QAq c I) hr N Z (λH X R=>B w H a ns c X R) λH e z=>C w H p e z
def fq(s:Stmt):Arguments:=match s with
 |.FunctionDef _ a _ _ _ _ _ _ _ _=>a
 |_=>{posonlyargs:= [],args:= [],vararg:=none,kwonlyargs:= [],kw_defaults:= [],kwarg:=none,defaults:= []}
def dX(s:Stmt):List Stmt:=match s with
 |.FunctionDef _ _ b _ _ _ _ _ _ _=>b
 |_=> []
def ay(s:Stmt):Scope:=match s with
 |.FunctionDef _ _ _ _ _ _ a _ _ _=>a
 |_=>{kind:=.function,names:= [],isGenerator:=false,isCoroutine:=false}
abbrev de:AL:=λ_ _ _ _ _ _=>False
abbrev E0:XK:=λ_ _ _=>False
def BC{X:Cx}:xb de X E0:=λ_ _ _ _ _ _ _ h=>h.elim
structure dr(K:PySem.W.Frag)(x qual:Str)(st:Stmt)(f:Addr)(fd:FuncData):Prop where
 ex:∃(oc:Value) (od:Option Addr) (kV doc pm:Value) (an:Option Addr) (cdv ct:Value) (osl:Array (Option Value)),
  fd=PySem.W.fnOf x qual (fq st) (dX st) (ay st) .none kV doc pm an cdv ct/\K.lookup f=some ⟨oc,od,.func fd,osl⟩/\PySem.W.codeIn K cdv qual=true
 kp:PySem.W.keepIn K (.ref f)=true
section
variable{P:Program}{w:World}{K:PySem.W.Frag}{mg:Str->Option Value}{base:Heap}
def dr.ok{x a:Str}{st:Stmt}{f:Addr}{e:FuncData}{N ps:List Str}{k:Nat}{sp:Sp}(F:dr K x a st f e)(S:aB N ps (ay st))(len:∀vs H Q E,sp vs H Q E->vs.length=ps.length)
  (c:∀(b:Value) (A:Around) (outer:List Env) (s:Shared) (H:Hp) (vs:List V) (Q:VK) (E:XK),dS k (A.deeper (envOfC a (ay st) s.heap.objs.size f b))->sp vs H Q E→
   ∃t,qH (yd de P w K mg base N a (ay st) f b A outer s H E).nox (dX st) t/\t {nx:=λ_ i=>Q .non i,rt:=Q} (start N vs) H):aV P w K mg base de (k+1) f e ps sp:=by
 obtain⟨p,n,kV,g,o,r,b,m,j,rfl,lk,hcd⟩:=F.ex
 refine HJ lk hcd S len λA outer s H vs Q E l d=> ?_
 obtain⟨t,h,q⟩:=c b A outer s H vs Q E l d
 exact⟨t,h.nox,q⟩
def dr.binds{x a:Str}{st:Stmt}{f:Addr}{i:FuncData}{ps:List Str}(F:dr K x a st f i)
  (h:∀(kV c g:Value) (e:Option Addr) (b ct:Value) (d:List Value),d.length=ps.length->bindArgs (PySem.W.fnOf x a (fq st) (dX st) (ay st) .none kV c g e b ct) ⟨d,[]⟩=pure (ps.zip d)):Binds K i ps []:=by
 obtain⟨l,k,kV,c,g,e,b,ct,j,rfl,lk,hcd⟩:=F.ex
 exact .all (h kV c g e b ct)
def xR{x a:Str}{st:Stmt}{f:Addr}{j:Value}{i g:Option Addr}{e:Array (Option Value)}{kV d h b ct:Value}(l:K.lookup f=some ⟨j,i,.func (PySem.W.fnOf x a (fq st) (dX st) (ay st) .none kV d h g b ct),e⟩)
  (c:PySem.W.codeIn K b a=true) (k:PySem.W.keepIn K (.ref f)=true):dr K x a st f (PySem.W.fnOf x a (fq st) (dX st) (ay st) .none kV d h g b ct):=⟨⟨j,i,kV,d,h,g,b,ct,e,rfl,l,c⟩,k⟩
end
def vR{A:Around}{k:Nat}(a:dS k A):A.units+1<cLine:=Nat.lt_of_le_of_lt (Nat.add_le_add_left (by decide:1<=64) _) a.units
def aM{n:Nat}(h:n<=1000):n<sizeLine:=Nat.lt_of_le_of_lt h (by decide)
section
variable{X:Cx}
def pv(i:Nat){x:Str}{pos:Pos}(c:X.N[i]?=some x:=by rfl)(b:Er X.env.scope x:=by first|exact Or.inl rfl|exact Or.inr (Or.inl rfl)|exact Or.inr (Or.inr rfl))(hd:(x==("__debug__":Str))=false:=by decide)
  (a:(x==("__classdict__":Str))=false:=by decide):PE X (.Name x pos) (EM i):=AY c b hd a
end
section
variable{prog:Program}{w:World}{A:Around}{s:Shared}
def l_{o a l:Expr}{p:List Expr}{b:Scope}{pos:Pos}{it q:Value}{env:Env}{R:Result->Shared->Prop}(I:Nat->Shared->Prop)
  (z:∀n s,I n s->wpAny (model prog w) A (pyNext it) (λr e=>match r with
   |none=>R (.ok .next) e
   |some v=>wpAny (model prog w) A (letOwnedTupleGo a it v) (λ_ f=>wpAny (model prog w) A (assign a env v) (λ_ k=>
     wpAny (model prog w) A (forIn p true λc r=>if r=true then do let ok←isTrue c env (eval c env);pure (ForInStep.yield ok) else pure (ForInStep.yield r)) (λok s₃=>
      if ok=true then wpAny (model prog w) A (eval o env) (λx g=>
       wpAny (model prog w) A (call (.builtin "list.append") [q,x]) (λ_ i=>∃m,m<n/\I m i) (λ_ _=>False) g) (λ_ _=>False) s₃
      else∃m,m<n/\I m s₃) (λ_ _=>False) k) (λ_ _=>False) f) (λ_ _=>False) e) (λ_ _=>False) s)
  (n:Nat) (h:I n s):codeAny (model prog w) A (.compLoop (.ListComp o [⟨a,l,p,0⟩] b pos) 0 it q env) R s:=by
 refine codeAny_loop rfl I (λn s C=> ?_) n h
 show wpAny _ A ((compTurn (.ListComp o [⟨a,l,p,0⟩] b pos) 0 it q env).onRaise (λx=>do noteFrame x env;theTreesLotGoes x)) _ _ s
 refine wpAny_noted ?_
 rw[compTurn_list]
 refine Qaq (wpAny_standAt (Qaq (QRq (z n s C) (λr e j=> ?_) λ_ _ d=>d.elim)))
 cases r with
 |none=>exact Qgq j
 | some v=>
   refine Qaq (QRq j (λ_ f t=> ?_) λ_ _ d=>d.elim)
   refine Qaq (QRq t (λ_ k B=>Qaq (QRq B (λok s₃ h₃=> ?_) λ_ _ d=>d.elim)) λ_ _ d=>d.elim)
   cases ok with
   |false=>exact Qgq ⟨rfl,h₃⟩
   | true=>
     exact Qaq (Qaq (QRq h₃ (λx g y=>Qaq (QRq y (λ_ i u=>Qgq (Qgq ⟨rfl,u⟩)) λ_ _ d=>d.elim)) λ_ _ d=>d.elim))
end
def aC(X:Cx)(N:List Str)(a:Scope)(b:List (Str×Addr))(C:Addr)(s:Shared)(H:Hp)(fp:List Addr):Cx where
 prog:=X.prog
 w:=X.w
 K:=X.K
 mg:=X.mg
 base:=X.base
 A:=X.A
 N:=N
 s₀:=s
 H₀:=H
 env:=compEnvC a b C X.env
 outer:=X.stack
 stack:=X.stack
 ex:=fp
 fn:=λ_=>false
 calm:=X.calm
 pn:= []
 xe:=λ_ _=>False
def iq(js:List (Option Nat))(a:St):St:=js.map λo=>o.bind λj=>a.getD j none
structure aH(X:Cx)(N:List Str)(js:List (Option Nat))(scope:Scope)(cl:List (Str×Addr)):Prop where
 kind:scope.kind=.function
 nocell:∀y∈scope.names,y.2≠.cell
 names:∀y∈scope.names,y.2=.local->scope.names.lookup y.1=some .local
 clos:closureFor scope X.env=pure cl
 sub:∀x c,cl.lookup x=some c->X.env.cells.lookup x=some c
 has:∀x,((relabel scope X.env).names.lookup x=some .cell\/(relabel scope X.env).names.lookup x=some .free)->∃c,cl.lookup x=some c
 cap:∀(k j:Nat) (x:Str),js[k]?=some (some j)->N[k]?=some x->X.N[j]?=some x/\(X.env.kindOf x=some .cell\/X.env.kindOf x=some .free)/\((relabel scope X.env).names.lookup x=some .cell\/(relabel scope X.env).names.lookup x=some .free)
 len:js.length=N.length
def j_(X:Cx)(d:List Expr)(t:TT):Prop:=
 ∀ (a:List (Addr×Obj)) (s:Shared) (b:St) (H:Hp) (Q:Bool->Hp->Prop),Inv X a b H s->t b H Q→
   wpAny (model X.prog X.w) X.A (forIn d true λc r=>if r=true then do let ok←isTrue c X.env (eval c X.env);pure (ForInStep.yield ok) else pure (ForInStep.yield r)) (TP X a b Q) X.xe s
def Fy{X:Cx}:j_ X [] (λ_ H Q=>Q true H):=λ_ _ _ H _ I h=>wpAny_tests_nil ⟨H,I,h⟩
def FJ{X:Cx}{c:Expr}{t:TT}(d:PT X c t):j_ X [c] t:=λa s b H Q I h=>
 wpAny_tests_one (bT (d a s b H Q I h) λok s' h'=>h')
def Gr(J:It)(g:TG)(k:TT)(l:TE)(Q:VK)(D:Addr)(n:St)(H:Hp):Prop:=
 ∃ W:Nat->Nat->St->Hp->Prop,(∃m,W 0 m n H)/\∀i m e c,W i m e c→
   (J.stop i c/\Q (.ref D) c)\/(J.go i c/\∃h:St->Hp->Prop,(∀b d,h b d->∃j,j<m/\W (i+1) j b d)∧
     ∀ x H2,J.yld i c x H2->g x e H2 λa H3=>k a H3 λok H4=>
       if ok=true then l a H4 λy H5=>∃f,H5 D=some (.lst f)/\f.length<sizeLine/\h a (upd H5 D (.lst (f++ [y]))) else h a H4)
def B9(js:List (Option Nat))(c:TI)(g:TG)(b:TT)(d:TE):TE:=λa H Q=>c a H λJ H1=>∀D,H1 D=none->Gr J g b d Q D (iq js a) (upd H1 D (.lst []))
def CP{X:Cx}{N:List Str}{js:List (Option Nat)}{a:Scope}{P:List (Str×Addr)}{tg R b0:Expr}{b4:List Expr}{pos:Pos}{wi:TI}{g:TG}{tt:TT}{te:TE}
  (S:aH X N js a P) (hc:X.calm=true) (hi:PI X tg R wi)
  (hg:∀C s H fp,PG (aC X N a P C s H fp) tg g) (ht:∀C s H fp,j_ (aC X N a P C s H fp) b4 tt) (he:∀C s H fp,PE (aC X N a P C s H fp) b0 te)
  (hs:∀x,foldedSetIterable R X.env x=pure x:=by intro _;rfl):PE X (.ListComp b0 [⟨tg,R,b4,0⟩] a pos) (B9 js wi g tt te):=by
 intro a8 s σ H Q I h
 rw[eval_ListComp]
 refine wpAny_comprehension_free (use:=none) rfl hs S.clos S.kind S.names (bT (hi a8 s σ H _ I h) λv s1 h1=>bT h1 λd3 f h2=> ?_)
 obtain⟨it,fp,tn,J,H2,e,B,T,a9,f2,hD⟩:=h2
 subst e
 refine QhQ (wpAny_newFunctionEnv S.nocell (by intro y hy;simp at hy) (λL F t=> ?_) S.kind)
 dsimp only at F t⊢
 generalize b1:f.heap.push {cls:=.type "list",dict:=none,data:=.seq ([]:List Value).toArray}=P2 at F t⊢
 have hC:P2.objs.size=f.heap.objs.size+1:=by rw[←b1,Heap.size_push]
 have c5:f.heap.objs.size≠P2.objs.size:=by rw[hC];exact Qwq (Nat.lt_succ_self _)
 have a6:f.heap.objs.size<=P2.objs.size:=by rw[hC];exact Nat.le_succ _
 have G:∀b,b<f.heap.objs.size->b≠P2.objs.size:=λb k=>by rw[hC];exact Qwq (Nat.lt_succ_of_lt k)
 have U:∀b o,f.heap.get? b=some o->L.get? b=some o:=λb o e=>t.extBut b o (G b (Qiq e)) (Qcq _ (b1▸Qcq _ e))
 have c4:L.get? f.heap.objs.size=some {cls:=.type "list",dict:=none,data:=.seq ([]:List Value).toArray}:=t.extBut _ _ c5 (Qcq _ (b1▸Qrq _ rfl))
 have nD:H2 f.heap.objs.size=none:=B.fresh
 have nC:H2 P2.objs.size=none:=B.hok.fresh a6
 have b2:∀b∈fp,b<f.heap.objs.size:=λb k=>by
  obtain⟨o,e,_⟩:=T.obj _ _ a9 b k
  exact Qiq e
 obtain⟨W,⟨m0,w0⟩,b5⟩:=hD f.heap.objs.size nD
 have b8:(aC X N a P P2.objs.size f H2 fp).Ok:=by
  refine⟨B.ok.mod,S.kind,B.ok.glob,B.ok.blt,a6,λx y c h1 h2=>B.ok.inj x y c (S.sub x c h1) (S.sub y c h2),S.has,(λx c h=>by cases h),B.ok.hd,B.ok.frames,.inl rfl,
   λb k=>⟨G b (b2 b k),λx c h=>(f2 b k).2.2.2.2.1 x c (S.sub x c h)⟩,B.bs,QAq B.ok.bsz B.sz,λb o e k=> ?_,λb k z=> ?_,B.stack,B.stkFree⟩
  ·rcases(f2 b k).2.2.2.1 with z|z
   ·exact B.ok.noex b o e z
   ·exact absurd (Qqq (Qqq (Qiq e) B.ok.bsz) z) (Nat.lt_irrefl _)
  ·rcases Qsq.mp (B.stkSub b z) with q|q
   ·exact(f2 b k).2.1 q
   ·exact(f2 b k).2.2.1 q
 have c0:bI X.prog X.w (upd H2 f.heap.objs.size (.lst [])) L f.heap.objs.size (.lst []):=⟨Nat.zero_le _,[],0,.nil,c4⟩
 have I4:Inv (aC X N a P P2.objs.size f H2 fp) [] (iq js σ) (upd H2 f.heap.objs.size (.lst [])) {f with heap:=L,toks:=f.toks+([]:List (Str×Value)).length}:=by
  refine⟨b8,rfl,B.bare,Un.laid U (Qmq _) nD,⟨_,F,λi x v h1 h2 h3=> ?_⟩,λx c h=> ?_,by show upd H2 _ _ P2.objs.size=none;rw[aJ c5.symm];exact nC,λx c h=> ?_,λp hp=>absurd (show p∈([]:List (Addr×Obj)) from hp) (by simp),B.hok.laid U (Qmq _) c0,by show(iq js σ).length=N.length;unfold iq;rw[lQm];exact S.len⟩
  ·unfold iq at h2
   rw[gQm] at h2
   cases e:js[i]? with
   |none=>rw[e] at h2;cases h2
   | some o=>
     rw[e] at h2
     cases o with
     |none=>cases h2
     | some j=>
       have a2:σ.getD j none=some v:=QdQ h2
       have hj:σ[j]?=some (some v):=by
         rw[Qlq] at a2
         cases q:σ[j]? with
         |none=>rw[q] at a2;cases a2
         |some y=>rw[q] at a2;exact congrArg some a2
       obtain⟨c1,c2,c3⟩:=S.cap i j x e h1
       obtain⟨m,hn,hl⟩:=B.loc
       have d1:Er X.env.scope x:=by
         rcases c2 with z|z
         · exact .inr (.inl z)
         · exact .inr (.inr z)
       obtain⟨u,r,l⟩:=hl j x v c1 hj d1
       refine⟨u,r,.inr ⟨c3,?_⟩⟩
       obtain⟨c,c7⟩:=S.has x c3
       refine⟨c,c7,?_⟩
       rcases l with⟨z,_⟩|⟨_,c',e',z⟩
       · rcases c2 with y|y <;>rw[y] at z <;>cases z
       · rw[S.sub x c c7] at e'
         cases e'
         obtain⟨o,ho,hd⟩:=z
         exact⟨o,U _ _ ho,hd⟩
  ·obtain⟨v,o,ho,hd⟩:=B.cell x c (S.sub x c h)
   exact⟨v,o,U _ _ ho,hd⟩
  ·obtain⟨v,o,ho,hd⟩:=B.cell x c (S.sub x c h)
   rw[aJ (Qwq (Qiq ho))]
   exact B.freeC x c (S.sub x c h)
 have a3:∀{M:List (Addr×Obj)} {Z:Hp},M= []->(∀b∈fp,Z b=none)->∀b∈fp,mr (aC X N a P P2.objs.size f H2 fp) M Z b:=λ{M Z} ep hn b k=>by
  subst ep
  refine⟨hn b k,G b (b2 b k),λz=>b8.exfs b k z,.inl k,λx c h=>(f2 b k).2.2.2.2.1 x c (S.sub x c h),λp hp=>absurd (show p∈([]:List (Addr×Obj)) from hp) (by simp)⟩
 have a7:codeAny (model X.prog X.w) X.A (.compLoop (.ListComp b0 [⟨tg,R,b4,0⟩] a pos) 0 (.ref it) (.ref f.heap.objs.size) (compEnvC a P P2.objs.size X.env))
   (compPost (model X.prog X.w) X.A X.xe none (EP X a8 σ Q) (.ref f.heap.objs.size) P2.objs.size) {f with heap:=L,toks:=f.toks+([]:List (Str×Value)).length}:=by
  refine l_ (λn s'=>∃i a1 Z,Inv (aC X N a P P2.objs.size f H2 fp) [] a1 Z s'/\tn i s'.heap/\(∀b∈fp,Z b=none)/\W i n a1 Z) ?_ m0
   ⟨0,_,_,I4,T.keep _ _ _ a9 λb _ o e=>U b o e,λb k=>by rw[aJ (Qwq (b2 b k))];exact(f2 b k).1,w0⟩
  rintro n s3 ⟨i,a5,H3,I3,c6,b7,w3⟩
  rcases b5 i n a5 H3 w3 with⟨stop,q⟩|⟨go,Nx,hN,b6⟩
  ·refine bT (T.done (aC X N a P P2.objs.size f H2 fp) rfl rfl rfl hc i [] s3 a5 H3 _ I3 (a3 rfl b7) c6 stop) λr s4 Y=> ?_
   obtain⟨hr,I5⟩:=Y
   subst hr
   obtain⟨m,hn,_⟩:=id I5.loc
   refine⟨m,hn,λh' a4=>⟨.ref f.heap.objs.size,H3,?_,rfl,q⟩⟩
   have u:=I5.base
   have ne:∀b o,f.heap.get? b=some o->b≠P2.objs.size:=λb o e=>G b (Qiq e)
   refine B.call' (ch:=fp) I5.os ⟨λb o e n k hx=>(a4.2 b (ne b o e)).trans (u.keep b o e n k hx),λb o e n k hx=> ?_,u.free,λb o e hx=> ?_,u.tups,u.frzs,u.tbls⟩ (λb ob e=> ?_) I5.bare λb k=>⟨(f2 b k).2.2.2.1,(f2 b k).2.1,(f2 b k).2.2.2.2.1,(f2 b k).2.2.2.2.2⟩
   ·obtain⟨sl,e1⟩:=u.slot b o e n k hx
    exact⟨sl,(a4.2 b (ne b o e)).trans e1⟩
   ·obtain⟨o',e1⟩:=u.there b o e hx
    exact⟨o',(a4.2 b (ne b o e)).trans e1⟩
   ·refine(I5.hok b ob e).stay (λc w' hc q=>(a4.2 c ?_).trans q) (λ_ q=>q) λ_ _ q=>q
    have fC:H3 P2.objs.size=none:=I5.free
    rintro rfl
    rcases hc with z|z
    ·rw[←z,fC] at e;cases e
    ·rw[fC] at z;cases z
  ·refine bT (T.item (aC X N a P P2.objs.size f H2 fp) rfl rfl rfl hc i [] s3 a5 H3 _ I3 (a3 rfl b7) c6 go) λr s4 Y=> ?_
   obtain⟨u,hr,h4⟩:=Y
   subst hr
   refine bT h4 λ_ s5 Y=> ?_
   obtain⟨x,H5,I5,r5,y5,b3,d2⟩:=Y
   have c8:=I5.pinned (a3 rfl d2) (T.obj _ _ b3)
   refine bT (hg P2.objs.size f H2 fp _ s5 a5 H5 x u _ c8 r5 (b6 x H5 y5)) λ_ s6 Y=> ?_
   obtain⟨K,H6,I6,q6⟩:=Y
   refine bT (ht P2.objs.size f H2 fp _ s6 K H6 _ I6 q6) λok s7 Y=> ?_
   obtain⟨H7,I7,q7⟩:=Y
   have again:∀{s8:Shared} {H8:Hp},Inv (aC X N a P P2.objs.size f H2 fp) ([]++kq fp s5.heap) K H8 s8->Nx K H8->∃m,m<n/\∃i a1 Z,Inv (aC X N a P P2.objs.size f H2 fp) [] a1 Z s8/\tn i s8.heap/\(∀b∈fp,Z b=none)/\W i m a1 Z:=λ{s8 H8} I8 n8=>by
    obtain⟨m',hm,w8⟩:=hN K H8 n8
    refine⟨m',hm,i+1,K,H8,I8.unpinned,T.keep _ _ _ b3 λb k o e=>(I8.pin (b,o) (Qoq _ (Qoq _ (cy k e)))).1,λb k=> ?_,w8⟩
    obtain⟨o,e,d⟩:=T.obj _ _ b3 b k
    exact(I8.pin (b,o) (Qoq _ (Qoq _ (cy k e)))).2.1
   cases ok with
   |false=>exact again I7 q7
   | true=>
     refine bT (he P2.objs.size f H2 fp _ s7 K H7 _ I7 q7) λyv s8 Y=> ?_
     obtain⟨y,H8,I8,ry,xs,hx,hl,n8⟩:=Y
     refine bT (mB (X:=aC X N a P P2.objs.size f H2 fp) _ s8 K H8 (.ref f.heap.objs.size) [y] (.ref f.heap.objs.size) [yv] (λ_ Z=>Nx K Z) I8 rfl (.cons ry .nil) ⟨_,xs,y,rfl,rfl,hx,hl,n8⟩) λ_ s9 Y=> ?_
     obtain⟨z,H9,I9,_,q9⟩:=Y
     exact again I9 q9
 exact codeAny_compStart_list a7 (T.self _ 0 _ _ _ (T.keep _ _ _ a9 λb _ o e=>U b o e) a7)
section
variable{X:Cx}
def A8:gQ X (.builtin "isinstance") (λxs H Q=>∃x T t b,xs= [x,.ty T]/\mY X.K H x t/\PySem.W.kitOne X.K t (.type T)=some b/\Q (.bl b) H):=by
 intro a s g H xs f Q I r h
 obtain⟨x,T,t,b,rfl,ty,e,q⟩:=h
 obtain⟨u,c,rfl,rx,rt⟩:=vals2 r
 cases (show c=Value.type T from rt)
 exact zE I rx ty e λd=>⟨.bl b,H,I.tok d,rfl,q⟩
def yO:List V->List V->Bool
 | [],[]=>true
 |x::xs,y::ys=>oz x y&&yO xs ys
 |_,_=>false
theorem yY:∀{xs ys:List V},xs.length≠ys.length->yO xs ys=false
 | [],[],h=>absurd rfl h
 | [],_::_,_=>rfl
 |_::_,[],_=>rfl
 | x::xs,y::ys,h=>by
   have:=yY (xs:=xs) (ys:=ys) λe=>h (by simp[e])
   show(oz x y&&yO xs ys)=false
   rw[this,Bool.and_false]
theorem y_:∀{xs ys:List V},xs.length=ys.length->(List.range xs.length).all (λj=>oz (xs.getD j .non) (ys.getD j .non))=yO xs ys
 | [],[],_=>rfl
 | [],_::_,h=>by cases h
 |_::_,[],h=>by cases h
 | x::xs,y::ys,h=>by
   have a:=y_ (xs:=xs) (ys:=ys) (Nat.succ.inj h)
   rw[Qnq,List.range_succ_eq_map,List.all_cons,List.all_map]
   show(oz x y&&_)=(oz x y&&yO xs ys)
   rw[←a]
   rfl
def Fj{A:Around}{s:Shared}{xs ys:List V}{a vs:List Value}(r:aX xs a)(d:aX ys vs)(f:xs.all fm=true)(f':ys.all fm=true)(j:Nat)(m:j<a.toArray.size)(l:j<vs.toArray.size):
  SeqAt.EqAt A s a.toArray[j] vs.toArray[j] (oz (xs.getD j .non) (ys.getD j .non)):=by
 have p:=r.length
 have k:=d.length
 have c:j<xs.length:=by rw[p];simpa using m
 have b:j<ys.length:=by rw[k];simpa using l
 obtain⟨u,h,o⟩:=r.get (gQe c)
 obtain⟨v,i,n⟩:=d.get (gQe b)
 have e:xs.getD j .non=xs[j]:=by rw[Qlq,gQe c];rfl
 have g:ys.getD j .non=ys[j]:=by rw[Qlq,gQe b];rfl
 have q:a.toArray[j]=u:=by
  have:=(gQs.mp h).2
  simpa using this
 have t:vs.toArray[j]=v:=by
  have:=(gQs.mp i).2
  simpa using this
 rw[q,t,e,g]
 exact BU o n (QUq.mp f _ (List.getElem_mem c)) (QUq.mp f' _ (List.getElem_mem b))
def Gq(K:PySem.W.Frag)(e:Bool):R2:=λx y H Q=>∃a b c d,x=.ref a/\y=.ref b/\gr K H a c/\gr K H b d/\c.all fm=true/\d.all fm=true/\Q (.bl (if e then !yO c d else yO c d)) H
def A0(t:X.A.units<cLine):jL X (compareOp .NotEq) (Gq X.K true):=by
 intro p s J H x y v u Q I z w h
 obtain⟨a,b,f,l,rfl,rfl,ha,hb,fa,fb,q⟩:=h
 cases z
 cases w
 obtain⟨c,r,n,G⟩:=I.list ha
 obtain⟨m,i,d,B⟩:=I.list hb
 by_cases g:f.length=l.length
 ·have k:c.toArray.size=m.toArray.size:=by simp[←r.length,←i.length,g]
  refine SeqAt.RcNeAt.lists (e:=λj=>oz (f.getD j .non) (l.getD j .non)) n.isList d.isList k t (λj F C=>Fj r i fa fb j F C) _ _ _ _ ⟨.bl _,H,I,rfl,?_⟩
  rw[show c.toArray.size=f.length by simp[r.length],y_ g]
  exact q
 ·refine SeqAt.RcNeAt.lists_lengths n.isList d.isList (by simpa [←r.length,←i.length] using g) t _ _ _ _ ⟨.bl _,H,I,rfl,?_⟩
  have o:Q (.bl (!yO f l)) H:=q
  rw[yY g] at o
  exact o
end
section
variable{X:Cx}
def v8{bs:List Bool}{a:List Value}(r:aX (bs.map V.bl) a){i:Nat}{v:Value}(h:a.toArray[i]?=some v):v=.bool (bs.getD i false):=by
 have f:i<a.length:=by
  have:=(Array.getElem?_eq_some_iff.mp h).1
  simpa using this
 have l:=r.length
 rw[lQm] at l
 have b:i<bs.length:=by omega
 obtain⟨u,e,q⟩:=r.get (i:=i) (x:=V.bl bs[i]) (by rw[gQm,gQe b];rfl)
 have c:a[i]?=some v:=by simpa using h
 rw[e] at c
 cases c
 have d:bs.getD i false=bs[i]:=by rw[Qlq,gQe b];rfl
 rw[d]
 exact q
theorem v7:∀bs:List Bool,(List.range bs.length).all (λi=>bs.getD i false)=bs.all id
 | []=>rfl
 | b::bs=>by
   rw[Qnq,List.range_succ_eq_map,List.all_cons,List.all_map,List.all_cons,←v7 bs]
   rfl
theorem vI:∀bs:List Bool,(List.range bs.length).any (λi=>bs.getD i false)=bs.any id
 | []=>rfl
 | b::bs=>by
   rw[Qnq,List.range_succ_eq_map,List.any_cons,List.any_map,List.any_cons,←vI bs]
   rfl
def Eh(K:PySem.W.Frag)(f:List Bool->Bool):List V->Hp->VK->Prop:=λc H Q=>∃a b,c= [.ref a]/\gr K H a (b.map V.bl)/\Q (.bl (f b)) H
def zw(p:X.calm=true):gQ X (.builtin "all") (Eh X.K λbs=>bs.all id):=by
 intro j s B H x F Q I r h
 obtain⟨a,bs,rfl,ha,q⟩:=h
 obtain⟨u,rfl,rx⟩:=vals1 r
 cases (show u=Value.ref a from rx)
 obtain⟨c,g,f,y⟩:=I.list ha
 have m:c.toArray.size=bs.length:=by have:=g.length;simp at this;simp[this]
 have d:a<s.heap.objs.size:=by obtain⟨o,e,_⟩:=f.isList;exact Qiq e
 refine call_all_walk (wpAny_pyIter_list f.isList ⟨s.heap.objs.size,_,_,_,_,_,λi=>bs.getD i false,rfl,Walks.list (A:=X.A.in1) (show X.A.in1.handled=none from I.ok.hd p) s.heap.objs.size a (Qwq d) c.toArray,⟨⟨_,Qrq _ rfl,rfl,rfl⟩,f.isList.at λo e=>Qcq _ e⟩,?_,λh' w l=> ?_⟩)
 ·intro i v z t C k n
  rw[v8 g k]
  exact wpAny_truthy_bool n
 ·rw[m,v7]
  refine⟨.bl _,H,I.kept (h':=h') λb o e=>l b o ?_ (Qcq _ e),rfl,q⟩
  have:=Qiq e
  simp
  exact Qwq this
def zG(p:X.calm=true):gQ X (.builtin "any") (Eh X.K λbs=>bs.any id):=by
 intro j s B H x F Q I r h
 obtain⟨a,bs,rfl,ha,q⟩:=h
 obtain⟨u,rfl,rx⟩:=vals1 r
 cases (show u=Value.ref a from rx)
 obtain⟨c,g,f,y⟩:=I.list ha
 have m:c.toArray.size=bs.length:=by have:=g.length;simp at this;simp[this]
 have d:a<s.heap.objs.size:=by obtain⟨o,e,_⟩:=f.isList;exact Qiq e
 refine call_any_walk (wpAny_pyIter_list f.isList ⟨s.heap.objs.size,_,_,_,_,_,λi=>bs.getD i false,rfl,Walks.list (A:=X.A.in1) (show X.A.in1.handled=none from I.ok.hd p) s.heap.objs.size a (Qwq d) c.toArray,⟨⟨_,Qrq _ rfl,rfl,rfl⟩,f.isList.at λo e=>Qcq _ e⟩,?_,λh' w l=> ?_⟩)
 ·intro i v z t C k n
  rw[v8 g k]
  exact wpAny_truthy_bool n
 ·rw[m,vI]
  refine⟨.bl _,H,I.kept (h':=h') λb o e=>l b o ?_ (Qcq _ e),rfl,q⟩
  have:=Qiq e
  simp
  exact Qwq this
end
end L2
namespace Dk
open PySem
def pL:mroOf (Value.type "dict")=pure [Value.type "dict",Value.type "object"]:=by
 rw[mroOf_type]
 rfl
def oh:typeLookup (Value.type "dict") (Str.ofString "__new__")=pure (some (Value.builtin "dict.__new__")):=by
 rw[typeLookup_type,builtinLookup_eq_fast]
 rfl
def vG:isSubtype (Value.type "dict") (Value.type "dict")=pure true:=by
 rw[isSubtype_type]
 rfl
def fP:plainId "dict.__new__"=true:=by decide +kernel
def cg:TypeCalled "dict" "dict.__new__" "dict.__init__" where
 notType:=by decide +kernel
 canCreate:=by decide +kernel
 mro:=⟨_,_,pL⟩
 made:=madeBy_type pL oh (by decide +kernel)
 plain:=fP
 sub:=vG
 init:=F.slot_dict_init
def oa(a:Value):checkTypeCall "dict" {pos:= [a]}=pure ():=by rfl
def pI(a:Value):checkBuiltinCall "dict.__new__" {pos:= [Value.type "dict",a]}=pure ():=by with_unfolding_all rfl
def pD:entryFor table "dict.__new__"=some Builtin.«dict.__new__»:=by rfl
def og{prog:Program}{w:World}{A:Around}{E:Value->Shared->Prop}{s:Shared}(a:Value){Q₁:Value->Shared->Prop}
  (h:Q₁ (.ref s.heap.objs.size) {s with heap:=s.heap.push {cls:=.type "dict",data:=.dict #[]}}):
  codeAny (model prog w) A (.call (.builtin "dict.__new__") {pos:= [.type "dict",a]}) (wants Q₁ E) s:=by
 refine codeAny_of_tree ?_
 show wpAny _ _ (do checkBuiltinCall "dict.__new__" _;_) _ _ _
 refine Qaq (wpAny_of_eq (pI a) (Qgq ⟨plainId_quiet fP _,codeAny_builtin pD ?_⟩))
 rw[Around.under_plainId fP]
 refine Qaq (Qgq (QgQ rfl (Qaq (wpAny_of_eq vG (QgQ rfl (Qaq (wpAny_of_eq pL (QgQ ?_ ?_))))))))
 ·rfl
 ·refine Qaq ?_
  have e:newObj (.type "dict") (.dict #[])=newObjAsIs (.type "dict") (.dict #[]):=by
   unfold newObj
   simp
  rw[e]
  exact Qaq (wpAny_alloc (Qgq (Qgq h)))
def nM{prog:Program}{w:World}{A:Around}{E:Value->Shared->Prop}{s:Shared}{a:Value}{Q:Value->Shared->Prop}
  (h:wpAny (model prog w) A.in1.in1 (Builtin.«dict.__init__» {pos:= [.ref s.heap.objs.size,a]})
   (λm l=>match m with|.done f=>wants (λr b=>r=.none/\Q (.ref s.heap.objs.size) b) E (.ok f) l|.again x=>x.quiet=true/\codeAny (model prog w) A.in1 x (wants (λr b=>r=.none/\Q (.ref s.heap.objs.size) b) E) l)
   (λe l=>wants (λr b=>r=.none/\Q (.ref s.heap.objs.size) b) E (.error e) l) {s with heap:=s.heap.push {cls:=.type "dict",data:=.dict #[]}}):
  wpAny (model prog w) A (call (.type "dict") [a]) Q E s:=by
 obtain⟨c,G,j⟩:=cg.mro
 have g:=cg.made
 have k:=cg.sub
 refine wpAny_call (codeAny_of_tree ?_)
 refine Qgq ⟨Code.quiet_builtin _ (by decide +kernel),codeAny_builtin F.entry_type_call ?_⟩
 rw[Around.under_plain (weight_type_call_type "dict" [a] []) rfl]
 have C:=cg.notType
 have B:=cg.canCreate
 have p:=oa a
 unfold Builtin.«type.__call__»
 dsimp only
 refine QgQ rfl ?_
 refine QgQ (by rw[B];rfl) ?_
 refine Qaq (wpAny_of_eq p (Qaq (wpAny_of_eq j (QgQ rfl (Qaq (wpAny_of_eq g (Qaq (Qgq (Qaq (QLq (wpAny_call (codeAny_mono (og (E:=E) (Q₁:=λv d=>v=.ref s.heap.objs.size/\d={s with heap:=s.heap.push {cls:=.type "dict",data:=.dict #[]}}) a ⟨rfl,rfl⟩) λr d i=> ?_))))))))))))
 cases r with
 |error e=>exact i
 | ok t=>
   cases t with
   | ret z=>
     obtain⟨rfl,rfl⟩:=i
     have y:=Qrq s.heap (o:={cls:=.type "dict",data:=.dict #[]}) rfl
     have q:Shared.TypeIs {s with heap:=s.heap.push {cls:=.type "dict",data:=.dict #[]}} (.ref s.heap.objs.size) "dict":=⟨_,y,rfl⟩
     have u:=cg.init.lookup
     have n:=cg.init.bind (.ref s.heap.objs.size)
     refine Qaq (wpAny_isInstance q k (QgQ rfl (Qaq (QLq ?_))))
     unfold callSpecial?
     refine Qaq (wpAny_specialOf q u (QLq (Qaq (wpAny_of_eq n (Qaq (wpAny_call (codeAny_mono (codeAny_call_builtin cg.init.plain F.entry_dict_init (cg.init.check _ _ _ _ _ [a] [] _ q (F.args_dict_init_2 _ _) h)) λr b i=> ?_)))))))
     cases r with
     |error e=>exact i
     | ok t=>
       cases t with
       | ret v=>
         obtain⟨rfl,hq⟩:=i
         exact Qgq (QgQ rfl (Qgq hq))
       |_=>exact i.elim
   |_=>exact i.elim
def m8:typeLookup (Value.type "list") (Str.ofString "keys")=pure none:=by
 rw[typeLookup_type,builtinLookup_eq_fast]
 rfl
def mD{prog:Program}{w:World}{A:Around}{E:Value->Shared->Prop}{s:Shared}{a:Addr}{xs:Array Value}{k:Nat}{n:Array (Option Value)}{Q:Option Value->Shared->Prop}
  (j:s.heap.get? a=some {cls:=.type "list",data:=.seq xs k,slots:=n}) (y:A.handled=none)
  (h:∀(h':Heap) (i:Nat),(∀b o,s.heap.get? b=some o->h'.get? b=some o)->Q none {s with heap:=h',toks:=i}):
  wpAny (model prog w) A (getAttr? (.ref a) (Str.ofString "keys")) Q E s:=by
 obtain⟨u,g,d,i,p⟩:=s
 have v:∀x,Shared.TypeIs ⟨u,g,d,x,p⟩ (.ref a) "list":=λx=>⟨_,j,rfl⟩
 have m:=sub_AttributeError
 have z:=F.slot_list_getattribute.lookup
 have q:=F.slot_list_getattribute.bind (Value.ref a)
 have r:=am_list_getattr_none
 unfold getAttr? mkText getAttrBy? getAttrBy
 refine Qaq (Qaq (wpAny_fresh' (Qgq (Qaq (wpAny_attempt (QLq ?_))))))
 unfold typeOf
 refine Qaq (Qaq (wpAny_loadPart' j (Qgq (Qaq (wpAny_of_eq z (QgQ rfl ?_))))))
 unfold getAttrByItsOwn hookBefore
 refine Qaq (QgQ rfl (Qgq (Qaq (wpAny_attempt (QLq ?_)))))
 unfold callGetattribute
 refine QgQ rfl ?_
 unfold boundAndCalled
 refine Qaq (wpAny_of_eq q ?_)
 refine call_meets F.slot_list_getattribute (v (i+1)) am_entry_list_getattribute (F.args_list_getattribute_2 (Value.ref a) _) (meets_getattribute_miss_list a xs k n (Str.ofString "keys") i m8 (by decide +kernel) (by decide +kernel)) ⟨j,y,λh' f e c=> ?_⟩
 obtain⟨B,C,t⟩:=c.there
 have l:Shared.TypeIs ⟨h',g,d,f,p⟩ (.ref e) "AttributeError":=⟨_,t,rfl⟩
 show wpAny _ _ (getattributeRaised _ _ _ _ _ _ _) _ _ _
 unfold getattributeRaised
 refine Qaq (wpAny_isInstance l m (wpAny_ite_true rfl ?_))
 unfold hookBehind hookOrError
 refine Qaq (QgQ rfl (wpAny_of_eq r ?_))
 show wpAny _ _ (attributeErrorLeaves _ _ _ _ _) _ _ _
 unfold attributeErrorLeaves
 refine wpAny_ite_true rfl (wpAny_throw ?_)
 exact Qaq (wpAny_isInstance l m (wpAny_ite_true rfl (Qgq (h h' f c.keeps))))
def pN{prog:Program}{w:World}{A:Around}{E:Value->Shared->Prop}{s:Shared}{l:Addr}{xs:Array Value}{k:Nat}{p:Array (Option Value)}{Q:Value->Shared->Prop}
  (n:s.heap.get? l=some {cls:=.type "list",data:=.seq xs k,slots:=p}) (t:A.handled=none)
  (h:∀(h':Heap) (d:Nat),(∀b o,(s.heap.push {cls:=.type "dict",data:=.dict #[]}).get? b=some o->h'.get? b=some o)→
   wpAny (model prog w) A.in1.in1 (pyIter (.ref l)) (λit f=>codeAny (model prog w) A.in1 (.builtin "dict.update.loop" {pos:= [.ref s.heap.objs.size,it,rawInt 0,.none]}) (wants (λr c=>r=.none/\Q (.ref s.heap.objs.size) c) E) f) E {s with heap:=h',toks:=d}):
  wpAny (model prog w) A (call (.type "dict") [.ref l]) Q E s:=by
 refine nM ?_
 have i:=Qrq s.heap (o:={cls:=.type "dict",data:=.dict #[]}) rfl
 have m:Shared.TypeIs {s with heap:=s.heap.push {cls:=.type "dict",data:=.dict #[]}} (.ref s.heap.objs.size) "dict":=⟨_,i,rfl⟩
 have a:=Qcq {cls:=.type "dict",data:=.dict #[]} n
 have j:Shared.TypeIs {s with heap:=s.heap.push {cls:=.type "dict",data:=.dict #[]}} (.ref l) "list":=⟨_,a,rfl⟩
 unfold Builtin.«dict.__init__» Builtin.Dict.selfAndRest
 refine Qaq (Qaq (wpAny_notOrdered_dict m ?_))
 refine Qaq (Qgq (Qgq ?_))
 show wpAny _ _ (Builtin.Dict.updateFrom _ _ _ _ _) _ _ _
 unfold Builtin.Dict.updateFrom
 refine Qaq (wpAny_typeOf j (wpAny_ite_true (by decide +kernel) (Qaq (mD a (by simpa using t) λh' d g=> ?_))))
 refine wpAny_ite_true rfl ?_
 refine Qaq (wpAny_rule (Qaq (QRq (h h' d g) (λit f q=> ?_) λe f q=>q)))
 exact Qgq ⟨plainId_quiet (by decide +kernel) _,q⟩
def fj:entryFor table "dict.update.loop"=some Builtin.«dict.update.loop»:=by rfl
def cU:plainId "dict.update.loop"=true:=by decide +kernel
section
variable{prog:Program}{w:World}{K:Type}[DecidableEq K]{knd:KeyKind prog w K}
def xH(a:List (K×Value))(k:K)(v:Value):(stored a k v).length<=a.length+1:=by
 unfold stored
 split
 ·rw[lQm];omega
 ·rw[lQa];simp
def Ah(a:Nat->K)(b:Nat->Value):Nat->List (K×Value)
 |0=> []
 |i+1=>stored (Ah a b i) (a i) (b i)
theorem ue(a:Nat->K)(b:Nat->Value):∀i,(Ah a b i).length<=i
 |0=>Qmq _
 |i+1=>QAq (xH _ _ _) (Nat.succ_le_succ (ue a b i))
def zC{A:Around}{I:Addr}{fp J:List Addr}{n:Nat}{P:Nat->Value->Prop}{St:Nat->Heap->Prop}{R:Result->Shared->Prop}(W:Walks prog w A.in1 I fp J n P St)(S:Addr)(u:S∉fp)
  (M:Nat->Addr) (kv q:Nat->Value) (B:Nat->K) (hP:∀i v,i<n->P i v->v=.ref (M i)) (Q:∀i,i<n->knd.is (B i) (kv i)=true) (y:∀i,i<n->M i≠S/\M i∉J) (hn:n<=sizeLine):
  ∀ (m i:Nat) (z:Int) (s:Shared),n-i=m->i<=n->St i s.heap->(∀j,j<n->∃o e,s.heap.get? (M j)=some o/\o.cls=.type "tuple" /\o.data=.seq #[kv j,q j] e)->Heap.DictOf knd s.heap S (Ah B q i)→
    (∀h' f,Heap.DictOf knd h' S (Ah B q n)->(∀b o,b∉J->b≠S->s.heap.get? b=some o->h'.get? b=some o)->R (.ok (.ret .none)) {s with heap:=h',toks:=f})→
    codeAny (model prog w) A (.builtin "dict.update.loop" {pos:= [.ref S,.ref I,rawInt z,.none]}) R s:=by
 have t:∀(i:Nat) (z:Int) (s:Shared),i<=n->St i s.heap->(∀j,j<n->∃o e,s.heap.get? (M j)=some o/\o.cls=.type "tuple" /\o.data=.seq #[kv j,q j] e)->Heap.DictOf knd s.heap S (Ah B q i)→
   (i=n->∀h' f,(∀b o,b∉J->s.heap.get? b=some o->h'.get? b=some o)->R (.ok (.ret .none)) {s with heap:=h',toks:=f})→
   (i<n->∀h' f,St (i+1) h'->Heap.DictOf knd h' S (Ah B q (i+1))->(∀b o,b∉J->b≠S->s.heap.get? b=some o->h'.get? b=some o)->codeAny (model prog w) A (.builtin "dict.update.loop" {pos:= [.ref S,.ref I,rawInt (z+1),.none]}) R {s with heap:=h',toks:=f})→
   codeAny (model prog w) A (.builtin "dict.update.loop" {pos:= [.ref S,.ref I,rawInt z,.none]}) R s:=by
  intro i z s U d F G h0 L
  refine codeAny_builtin fj ?_
  rw[Around.under_plainId cU]
  show wpAny _ _ (do let __x←pyNext (.ref I);_) _ _ _
  by_cases a:i<n
  ·refine Qaq (W.item i s _ _ a d λv hp f pv g k=> ?_)
   have ev:=hP i v a pv
   subst ev
   obtain⟨⟨c,a6,a5,sl⟩,e,hg,hc,l⟩:=F i a
   cases hc
   cases l
   have H:=k _ _ (y i a).2 hg
   have x:Heap.DictOf knd hp S (Ah B q i):=by
    obtain⟨o,es,X,L,h2⟩:=G
    exact⟨o,es,X,k _ _ (λZ=>u (W.sub _ Z)) L,h2⟩
   refine Qaq (QLq (Qaq (wpAny_tryCatch ?_)))
   unfold Builtin.Dict.pairItems
   refine Qaq (wpAny_typeOf (T:="tuple") ⟨_,H,rfl⟩ (wpAny_ite_true rfl (Qaq ?_)))
   unfold seqItems?
   refine Qaq (wpAny_load' H (Qgq (Qgq (QLq (wpAny_dictSet_pairs (Q i a) x (λh' C hs=> ?_) (QAq (ue B q i) (by omega)))))))
   refine Qgq ⟨plainId_quiet cU _,L a h' _ ?_ C λb o r p Y=> ?_⟩
   ·exact W.frame _ _ _ g λb r o N=>by
     have a4:b≠S:=λe=>u (e▸r)
     rw[hs.2 b a4]
     exact N
   ·rw[hs.2 b p]
    exact k b o r Y
  ·have e:i=n:=by omega
   subst e
   refine Qaq (W.done s _ _ d λhp f k=> ?_)
   exact Qaq (Qgq (Qgq (h0 rfl hp f k)))
 intro m
 induction m with
 | zero=>
   intro i z s hm U d F G h
   have e:i=n:=by omega
   refine t i z s U d F G (λ_ h' f k=>h h' f ?_ λb o r _ N=>k b o r N) (λa=>absurd a (by omega))
   subst e
   obtain⟨o,es,X,L,h2⟩:=G
   exact⟨o,es,X,k _ _ (λZ=>u (W.sub _ Z)) L,h2⟩
 | succ m ih=>
   intro i z s hm U d F G h
   refine t i z s U d F G (λe=>absurd e (by omega)) (λa h' f g x k=> ?_)
   refine ih (i+1) (z+1) {s with heap:=h',toks:=f} (by omega) (by omega) g (λj hj=> ?_) x (λa3 a1 C a2=>h a3 a1 C λb o r p N=>a2 b o r p (k b o r p N))
   obtain⟨o,e,hg,hc,l⟩:=F j hj
   exact⟨o,e,k _ _ (y j hj).2 (y j hj).1 hg,hc,l⟩
end
end Dk
namespace L2
open PySem PySem.Spec PyProof.Rows
section
variable{X:Cx}
def EZ(K:PySem.W.Frag):List V->Hp->VK->Prop:=λd H Q=>∃(a:Addr) (c:List Addr) (b:List (Key×V)),d= [.ref a]/\gr K H a (c.map V.ref)/\b.length=c.length∧
 (∀(j:Nat) t kv,c[j]?=some t->b[j]?=some kv->H t=some (.tup [kV kv.1,kv.2]))/\∀p,H p=none->Q (.ref p) (upd H p (.dK (fe [] b)))
theorem rB:∀{ts:List Addr} {a:List Value},aX (ts.map V.ref) a->a=ts.map Value.ref
 | [],_,r=>by cases r;rfl
 | t::ts,_,r=>by
   cases r with
   | cons h b=>
     rw[rB b,QDq]
     cases h
     rfl
def key_is{k:Key}{u:Value}(r:RelV (kV k) u)(P:Program)(w:World):(aW P w).is k u=true:=by
 cases k with
 |inl i=>obtain⟨t,rfl⟩:=(show∃t,u=Value.int i t from r);simp[aW,jl,Value.isInt]
 |inr x=>obtain⟨t,rfl⟩:=(show∃t,u=Value.str x t from r);simp[aW,jl,Value.isStrOf]
def xS(hc:X.calm=true):gQ X (.type "dict") (EZ X.K):=by
 intro b2 s σ H xs us Q I r h
 obtain⟨a,f,d,rfl,ha,hl,ht,q⟩:=h
 obtain⟨u,rfl,rx⟩:=vals1 r
 cases (show u=Value.ref a from rx)
 obtain⟨G,rv,pl,hz⟩:=I.list ha
 have ei:=rB rv
 subst ei
 rw[lQm] at hz
 obtain⟨⟨c,b4,b3,sl⟩,n,hg,N,Z,M⟩:=pl
 cases N
 cases Z
 cases M
 have z:∀j:Nat,∃p:Value×Value,j<f.length->∃t g,f[j]?=some t/\d[j]?=some g/\RelV (kV g.1) p.1/\RelV g.2 p.2/\IsTup s.heap t #[p.1,p.2]:=by
  intro j
  by_cases hj:j<f.length
  ·have x:=gQe hj
   have m:=gQe (l:=d) (i:=j) (by omega)
   obtain⟨_,us,a7,S⟩:_/\∃G:List Value,aX [kV (d[j]'(by omega)).1,(d[j]'(by omega)).2] G/\sG s.heap f[j] G.toArray:=(show bI X.prog X.w H s.heap f[j] (.tup [kV (d[j]'(by omega)).1,(d[j]'(by omega)).2]) from I.hok _ _ (ht j _ _ x m))
   replace S:=S.it
   cases a7 with
   | cons C t1=>
     cases t1 with
     | cons h2 t2=>
       cases t2
       exact⟨(_,_),λ_=>⟨_,_,x,m,C,h2,S⟩⟩
  ·exact⟨(.none,.none),λh=>absurd h hj⟩
 obtain⟨F,hF⟩:=Classical.axiomOfChoice z
 refine Dk.pN hg (I.ok.hd hc) λL tk hk=> ?_
 have b1:=Qcq {cls:=.type "dict",data:=.dict #[]} hg
 have P:=hk _ _ b1
 have a9:a<L.objs.size:=Qiq P
 have R:∀b o,s.heap.get? b=some o->L.get? b=some o:=λb o e=>hk b o (Qcq _ e)
 have b0:L.get? s.heap.objs.size=some {cls:=.type "dict",data:=.dict #[]}:=hk _ _ (Qrq s.heap rfl)
 have k:s.heap.objs.size<L.objs.size:=Qiq b0
 have a1:L.IsList a (f.map Value.ref).toArray:=⟨_,P,rfl,_,rfl⟩
 refine wpAny_pyIter_list a1 ?_
 have a3:(f.map Value.ref).toArray.size=f.length:=by simp
 have W:=Walks.list (prog:=X.prog) (w:=X.w) (A:=X.A.in1.in1) (show X.A.in1.in1.handled=none from I.ok.hd hc) L.objs.size a (Qwq a9) (f.map Value.ref).toArray
 rw[a3] at W
 have B:∀j t,f[j]?=some t->f.getD j 0=t:=λj t e=>by rw[Qlq,e];rfl
 have Y:∀j g,d[j]?=some g->(d.map (·.1)).getD j (.inl 0)=g.1:=λj g e=>by rw[Qlq,gQm,e];rfl
 refine Dk.zC (knd:=aW X.prog X.w) W s.heap.objs.size ?_ (λj=>f.getD j 0) (λj=>(F j).1) (λj=>(F j).2) (λj=>(d.map (·.1)).getD j (.inl 0)) ?_ ?_ ?_ hz f.length 0 0 _ (by omega) (Nat.zero_le _) ?_ ?_ ?_ ?_
 ·intro y
  simp at y
  rcases y with C|C
  ·exact absurd C (Qwq k)
  ·exact absurd C.symm (Qwq (Qiq hg))
 ·intro i v J pv
  have:(f.map Value.ref)[i]?=some v:=by simpa using pv
  rw[gQm,gQe J] at this
  rw[B i _ (gQe J)]
  exact(QdQ this).symm
 ·intro i J
  obtain⟨t,g,x,m,r1,r2,S⟩:=hF i J
  show(aW X.prog X.w).is ((d.map (·.1)).getD i (.inl 0)) (F i).1=true
  rw[Y i g m]
  exact key_is r1 _ _
 ·intro i J
  obtain⟨t,g,x,m,r1,r2,o,ho,_⟩:=hF i J
  have U:=Qiq ho
  show f.getD i 0≠_/\f.getD i 0∉_
  rw[B i t x]
  refine⟨Qwq U,λy=> ?_⟩
  simp at y
  exact absurd y (Qwq (Nat.lt_trans U k))
 ·exact⟨⟨_,Qrq _ rfl,rfl,rfl⟩,a1.at λo e=>Qcq _ e⟩
 ·intro j hj
  obtain⟨t,g,x,m,r1,r2,o,ho,a5,e,a8⟩:=hF j hj
  refine⟨o,e,?_,a5,a8⟩
  show Heap.get? _ (f.getD j 0)=_
  rw[B j t x]
  exact Qcq _ (R _ _ ho)
 ·obtain⟨o,es,ep,C,h2⟩:=Heap.DictOf.new (knd:=aW X.prog X.w) s.heap
  exact⟨o,es,ep,Qcq _ (hk _ _ C),h2⟩
 ·intro h2 a2 dd a6
  refine⟨rfl,.ref s.heap.objs.size,_,I.laid (a:=s.heap.objs.size) (o:=.dK (fe [] d)) (t':=a2) (λb o e=> ?_) (Qmq _) (mv ?_ (beq_eq_false_iff_ne.mpr (Ne.symm (Qwq I.big))) ?_ dd),rfl,q _ (I.hok.fresh (Qmq _))⟩
  ·have hb:=Qiq e
   exact a6 b o (λy=>by simp at y;exact absurd y (Qwq (Nat.lt_trans hb k))) (Qwq hb) (Qcq _ (R _ _ e))
  ·have:=eL d []
   rw[QGq] at this
   omega
  ·have a4:∀i,i<=f.length->KV (fe [] (d.take i)) (Dk.Ah (λj=>(d.map (·.1)).getD j (.inl 0)) (λj=>(F j).2) i):=by
    intro i
    induction i with
    |zero=>intro _;exact .nil
    | succ i ih=>
      intro J
      obtain⟨t,g,x,m,r1,r2,S⟩:=hF i (by omega)
      have e3:d.take (i+1)=d.take i++ [g]:=by rw[QYq,m];rfl
      rw[e3]
      show KV (List.foldl _ [] (d.take i++ [g])) (stored _ ((d.map (·.1)).getD i (.inl 0)) (F i).2)
      rw[List.foldl_append,Y i g m]
      exact(ih (by omega)).put g.1 r2
   have:=a4 f.length (Qmq _)
   rw[←hl,QEq] at this
   rw[←hl]
   exact this
end
end L2
namespace Dk
open PySem
end Dk
namespace L2
open PySem PySem.Spec PyProof.Rows
def C0{X:Cx}{N:List Str}{js:List (Option Nat)}{a:Scope}{U:List (Str×Addr)}{tg P a6 G:Expr}{a9:List Expr}{pos b0:Pos}{wi:TI}{g gt:TG}{tt:TT}{te:TE}
  (S:aH X N js a U) (hc:X.calm=true) (hi:PI X tg P wi)
  (hg:∀C s H fp,PG (aC X N a U C s H fp) tg g) (ht:∀C s H fp,j_ (aC X N a U C s H fp) a9 tt) (he:∀C s H fp,PE (aC X N a U C s H fp) a6 te) (e0:PG X G gt)
  (hs:∀x,foldedSetIterable P X.env x=pure x:=by intro _;rfl) (d8:swapsWithSole [G] (.ListComp a6 [⟨tg,P,a9,0⟩] a pos) b0.line X.env=pure true:=by rfl)
  (h1:(assignEach [G] X.env).map (·.2)= [assign G X.env]:=by rfl):PS X (.Assign [G] (.ListComp a6 [⟨tg,P,a9,0⟩] a pos) b0) (Ap (B9 js wi g tt te) gt):=by
 intro Y s σ H Dn I h
 rw[exec_Assign_arm]
 refine Qaq (wpAny_standAt (Qaq (wpAny_of_eq d8 (wpAny_ite_true rfl (Qaq ?_)))))
 rw[h1]
 show wpAny _ _ (do let _←comprehension _ _ _ _ _ _ _ (some λv=>assignAll v [assign G X.env]);pure ()) _ _ _
 refine Qaq ?_
 refine wpAny_comprehension_free (use:=some λv=>assignAll v [assign G X.env]) rfl hs S.clos S.kind S.names (bT (hi Y s σ H _ I h) λv s1 h1=>bT h1 λe2 k h2=> ?_)
 obtain⟨it,fp,tn,J,H2,e,B,T,b2,f2,hD⟩:=h2
 subst e
 refine QhQ (wpAny_newFunctionEnv S.nocell (by intro y hy;simp at hy) (λM K t=> ?_) S.kind)
 dsimp only at K t⊢
 generalize b3:k.heap.push {cls:=.type "list",dict:=none,data:=.seq ([]:List Value).toArray}=P2 at K t⊢
 have hC:P2.objs.size=k.heap.objs.size+1:=by rw[←b3,Heap.size_push]
 have c8:k.heap.objs.size≠P2.objs.size:=by rw[hC];exact Qwq (Nat.lt_succ_self _)
 have a4:k.heap.objs.size<=P2.objs.size:=by rw[hC];exact Nat.le_succ _
 have L:∀b,b<k.heap.objs.size->b≠P2.objs.size:=λb f=>by rw[hC];exact Qwq (Nat.lt_succ_of_lt f)
 have a1:∀b o,k.heap.get? b=some o->M.get? b=some o:=λb o e=>t.extBut b o (L b (Qiq e)) (Qcq _ (b3▸Qcq _ e))
 have c7:M.get? k.heap.objs.size=some {cls:=.type "list",dict:=none,data:=.seq ([]:List Value).toArray}:=t.extBut _ _ c8 (Qcq _ (b3▸Qrq _ rfl))
 have nD:H2 k.heap.objs.size=none:=B.fresh
 have nC:H2 P2.objs.size=none:=B.hok.fresh a4
 have b4:∀b∈fp,b<k.heap.objs.size:=λb f=>by
  obtain⟨o,e,_⟩:=T.obj _ _ b2 b f
  exact Qiq e
 obtain⟨W,⟨m0,w0⟩,b6⟩:=hD k.heap.objs.size nD
 have c5:(aC X N a U P2.objs.size k H2 fp).Ok:=by
  refine⟨B.ok.mod,S.kind,B.ok.glob,B.ok.blt,a4,λx y c h1 h2=>B.ok.inj x y c (S.sub x c h1) (S.sub y c h2),S.has,(λx c h=>by cases h),B.ok.hd,B.ok.frames,.inl rfl,
   λb f=>⟨L b (b4 b f),λx c h=>(f2 b f).2.2.2.2.1 x c (S.sub x c h)⟩,B.bs,QAq B.ok.bsz B.sz,λb o e f=> ?_,λb f z=> ?_,B.stack,B.stkFree⟩
  ·rcases(f2 b f).2.2.2.1 with z|z
   ·exact B.ok.noex b o e z
   ·exact absurd (Qqq (Qqq (Qiq e) B.ok.bsz) z) (Nat.lt_irrefl _)
  ·rcases Qsq.mp (B.stkSub b z) with q|q
   ·exact(f2 b f).2.1 q
   ·exact(f2 b f).2.2.1 q
 have c6:bI X.prog X.w (upd H2 k.heap.objs.size (.lst [])) M k.heap.objs.size (.lst []):=⟨Nat.zero_le _,[],0,.nil,c7⟩
 have I4:Inv (aC X N a U P2.objs.size k H2 fp) [] (iq js σ) (upd H2 k.heap.objs.size (.lst [])) {k with heap:=M,toks:=k.toks+([]:List (Str×Value)).length}:=by
  refine⟨c5,rfl,B.bare,Un.laid a1 (Qmq _) nD,⟨_,K,λi x v h1 h2 h3=> ?_⟩,λx c h=> ?_,by show upd H2 _ _ P2.objs.size=none;rw[aJ c8.symm];exact nC,λx c h=> ?_,λp hp=>absurd (show p∈([]:List (Addr×Obj)) from hp) (by simp),B.hok.laid a1 (Qmq _) c6,by show(iq js σ).length=N.length;unfold iq;rw[lQm];exact S.len⟩
  ·unfold iq at h2
   rw[gQm] at h2
   cases e:js[i]? with
   |none=>rw[e] at h2;cases h2
   | some o=>
     rw[e] at h2
     cases o with
     |none=>cases h2
     | some j=>
       have a3:σ.getD j none=some v:=QdQ h2
       have hj:σ[j]?=some (some v):=by
         rw[Qlq] at a3
         cases q:σ[j]? with
         |none=>rw[q] at a3;cases a3
         |some y=>rw[q] at a3;exact congrArg some a3
       obtain⟨c1,c2,c3⟩:=S.cap i j x e h1
       obtain⟨m,hn,hl⟩:=B.loc
       have d5:Er X.env.scope x:=by
         rcases c2 with z|z
         · exact .inr (.inl z)
         · exact .inr (.inr z)
       obtain⟨u,r,l⟩:=hl j x v c1 hj d5
       refine⟨u,r,.inr ⟨c3,?_⟩⟩
       obtain⟨c,d2⟩:=S.has x c3
       refine⟨c,d2,?_⟩
       rcases l with⟨z,_⟩|⟨_,c',e',z⟩
       · rcases c2 with y|y <;>rw[y] at z <;>cases z
       · rw[S.sub x c d2] at e'
         cases e'
         obtain⟨o,ho,hd⟩:=z
         exact⟨o,a1 _ _ ho,hd⟩
  ·obtain⟨v,o,ho,hd⟩:=B.cell x c (S.sub x c h)
   exact⟨v,o,a1 _ _ ho,hd⟩
  ·obtain⟨v,o,ho,hd⟩:=B.cell x c (S.sub x c h)
   rw[aJ (Qwq (Qiq ho))]
   exact B.freeC x c (S.sub x c h)
 have a5:∀{R:List (Addr×Obj)} {H':Hp},R= []->(∀b∈fp,H' b=none)->∀b∈fp,mr (aC X N a U P2.objs.size k H2 fp) R H' b:=λ{R H'} ep hn b f=>by
  subst ep
  refine⟨hn b f,L b (b4 b f),λz=>c5.exfs b f z,.inl f,λx c h=>(f2 b f).2.2.2.2.1 x c (S.sub x c h),λp hp=>absurd (show p∈([]:List (Addr×Obj)) from hp) (by simp)⟩
 have b1:codeAny (model X.prog X.w) X.A (.compLoop (.ListComp a6 [⟨tg,P,a9,0⟩] a pos) 0 (.ref it) (.ref k.heap.objs.size) (compEnvC a U P2.objs.size X.env))
   (compPost (model X.prog X.w) X.A X.xe (some λv=>assignAll v [assign G X.env]) (λ_ s9=>wpAny (model X.prog X.w) X.A (pure ()) (λ_ d3=>wpAny (model X.prog X.w) X.A (pure Flow.next) (SP X Y Dn) X.xe d3) X.xe s9) (.ref k.heap.objs.size) P2.objs.size) {k with heap:=M,toks:=k.toks+([]:List (Str×Value)).length}:=by
  refine l_ (λn s'=>∃i a2 H',Inv (aC X N a U P2.objs.size k H2 fp) [] a2 H' s'/\tn i s'.heap/\(∀b∈fp,H' b=none)/\W i n a2 H') ?_ m0
   ⟨0,_,_,I4,T.keep _ _ _ b2 λb _ o e=>a1 b o e,λb f=>by rw[aJ (Qwq (b4 b f))];exact(f2 b f).1,w0⟩
  rintro n s3 ⟨i,a8,H3,I3,d1,c0,w3⟩
  rcases b6 i n a8 H3 w3 with⟨stop,q⟩|⟨go,Nx,hN,b8⟩
  ·refine bT (T.done (aC X N a U P2.objs.size k H2 fp) rfl rfl rfl hc i [] s3 a8 H3 _ I3 (a5 rfl c0) d1 stop) λr s4 Q=> ?_
   obtain⟨hr,I5⟩:=Q
   subst hr
   obtain⟨m,hn,_⟩:=id I5.loc
   have d7:∀h',Heap.SameBut P2.objs.size s4.heap h'->Inv X Y σ H3 {s4 with heap:=h'}:=by
    intro h' Z
    have u:=I5.base
    have ne:∀b o,k.heap.get? b=some o->b≠P2.objs.size:=λb o e=>L b (Qiq e)
    refine B.call' (ch:=fp) I5.os ⟨λb o e n f hx=>(Z.2 b (ne b o e)).trans (u.keep b o e n f hx),λb o e n f hx=> ?_,u.free,λb o e hx=> ?_,u.tups,u.frzs,u.tbls⟩ (λb ob e=> ?_) I5.bare λb f=>⟨(f2 b f).2.2.2.1,(f2 b f).2.1,(f2 b f).2.2.2.2.1,(f2 b f).2.2.2.2.2⟩
    ·obtain⟨sl,e1⟩:=u.slot b o e n f hx
     exact⟨sl,(Z.2 b (ne b o e)).trans e1⟩
    ·obtain⟨o',e1⟩:=u.there b o e hx
     exact⟨o',(Z.2 b (ne b o e)).trans e1⟩
    ·refine(I5.hok b ob e).stay (λc w' hc q=>(Z.2 c ?_).trans q) (λ_ q=>q) λ_ _ q=>q
     have fC:H3 P2.objs.size=none:=I5.free
     rintro rfl
     rcases hc with z|z
     ·rw[←z,fC] at e;cases e
     ·rw[fC] at z;cases z
   have IX:=d7 s4.heap ⟨rfl,λ_ _=>rfl⟩
   have a7:mr X Y H3 P2.objs.size:=B.fpOk a4 I5.free
   obtain⟨oC,es,ep,b7,c4,d6⟩:=hn
   have IP:=IX.pinned (fp:= [P2.objs.size]) (λb f=>by rw[Qfq] at f;rw[f];exact a7) (λb f=>by rw[Qfq] at f;rw[f];exact⟨oC,b7,λv=>by rw[c4];simp⟩)
   show wpAny _ _ (assignAll (.ref k.heap.objs.size) [assign G X.env]) _ _ _
   rw[assignAll.eq_2]
   refine bT (e0 _ s4 σ H3 (.ref k.heap.objs.size) (.ref k.heap.objs.size) _ IP rfl q) λ_ s6 Q=> ?_
   obtain⟨F,H6,I6,q6⟩:=Q
   have pC:=I6.pin (P2.objs.size,oC) (Qoq _ (Qoq _ (cy (Qfq.mpr rfl) b7)))
   refine⟨m,⟨oC,es,ep,pC.1,c4,d6⟩,λh' Z=>Qgq (Qgq ⟨F,H6,?_,q6⟩)⟩
   exact I6.unpinned.turned (it:=P2.objs.size) (t':=s6.toks) (λb o' f e=>(Z.2 b f).trans e) pC.2.1 pC.2.2.1 a7.2.2.2.1 a7.2.2.2.2.1 a7.2.2.2.2.2
  ·refine bT (T.item (aC X N a U P2.objs.size k H2 fp) rfl rfl rfl hc i [] s3 a8 H3 _ I3 (a5 rfl c0) d1 go) λr s4 Q=> ?_
   obtain⟨u,hr,h4⟩:=Q
   subst hr
   refine bT h4 λ_ s5 Q=> ?_
   obtain⟨x,H5,I5,r5,y5,b5,d9⟩:=Q
   have d4:=I5.pinned (a5 rfl d9) (T.obj _ _ b5)
   refine bT (hg P2.objs.size k H2 fp _ s5 a8 H5 x u _ d4 r5 (b8 x H5 y5)) λ_ s6 Q=> ?_
   obtain⟨F,H6,I6,q6⟩:=Q
   refine bT (ht P2.objs.size k H2 fp _ s6 F H6 _ I6 q6) λok s7 Q=> ?_
   obtain⟨H7,I7,q7⟩:=Q
   have again:∀{s8:Shared} {H8:Hp},Inv (aC X N a U P2.objs.size k H2 fp) ([]++kq fp s5.heap) F H8 s8->Nx F H8->∃m,m<n/\∃i a2 H',Inv (aC X N a U P2.objs.size k H2 fp) [] a2 H' s8/\tn i s8.heap/\(∀b∈fp,H' b=none)/\W i m a2 H':=λ{s8 H8} I8 n8=>by
    obtain⟨m',hm,w8⟩:=hN F H8 n8
    refine⟨m',hm,i+1,F,H8,I8.unpinned,T.keep _ _ _ b5 λb f o e=>(I8.pin (b,o) (Qoq _ (Qoq _ (cy f e)))).1,λb f=> ?_,w8⟩
    obtain⟨o,e,d⟩:=T.obj _ _ b5 b f
    exact(I8.pin (b,o) (Qoq _ (Qoq _ (cy f e)))).2.1
   cases ok with
   |false=>exact again I7 q7
   | true=>
     refine bT (he P2.objs.size k H2 fp _ s7 F H7 _ I7 q7) λyv s8 Q=> ?_
     obtain⟨y,H8,I8,ry,xs,hx,hl,n8⟩:=Q
     refine bT (mB (X:=aC X N a U P2.objs.size k H2 fp) _ s8 F H8 (.ref k.heap.objs.size) [y] (.ref k.heap.objs.size) [yv] (λ_ H'=>Nx F H') I8 rfl (.cons ry .nil) ⟨_,xs,y,rfl,rfl,hx,hl,n8⟩) λ_ s9 Q=> ?_
     obtain⟨z,H9,I9,_,q9⟩:=Q
     exact again I9 q9
 exact codeAny_compStart_list b1 (T.self _ 0 _ _ _ (T.keep _ _ _ b2 λb _ o e=>a1 b o e) b1)
end L2
namespace Dk
open PySem
end Dk
namespace L2
open PySem PySem.Spec PyProof.Rows
section
variable{X:Cx}
def C8(K:PySem.W.Frag):List V->Hp->VK->Prop:=λd H Q=>∃(a:Addr) (c:List Str),d= [.ref a]/\gr K H a (c.map V.str)/\c.length<64/\∀(l:Addr) (b:List Str),H l=none->sortedS b=true->b.Perm c->Q (.ref l) (upd H l (.lst (b.map V.str)))
theorem sE:∀{ys:List Str} {a:List Value},aX (ys.map V.str) a->StrsAre a ys
 | [],_,r=>by cases r;exact .nil
 | y::ys,_,r=>by
   cases r with
   | cons h t=>
     obtain⟨b,rfl⟩:=h
     exact .cons y b (sE t)
def sR{a:List Str}{vs:List Value}(h:StrsAre vs a):aX (a.map V.str) vs:=by
 induction h with
 |nil=>exact .nil
 |cons y t _ b=>exact .cons ⟨t,rfl⟩ b
def sI:gQ X (.builtin "sorted") (C8 X.K):=by
 intro m s A H y B Q I r h
 obtain⟨a,k,rfl,ha,h64,q⟩:=h
 obtain⟨u,rfl,rx⟩:=vals1 r
 cases (show u=Value.ref a from rx)
 obtain⟨d,j,t,z⟩:=I.list ha
 have n:d.length=k.length:=by have:=j.length;simpa using this.symm
 have i:s.heap.objs.size<=s.heap.objs.size+1:=Nat.le_succ _
 refine sorted_strs t.isList (sE j) (by omega) λc f x l p=> ?_
 obtain⟨e,v⟩:=sortedAll_at s.heap d c
 have g:f.length=k.length:=l.length_eq
 refine⟨.ref (s.heap.objs.size+1),_,I.laid (a:=s.heap.objs.size+1) (o:=.lst (f.map V.str)) (h':=sortedAll s.heap d c) (t':=s.toks) (λb o w=> ?_) i ⟨?_,c.toList,e,sR x,?_⟩,rfl,q _ f (I.hok.fresh i) p l⟩
 ·exact sortedAll_old w
 ·rw[lQm,g]
  exact QAq (nQl h64) (by decide)
 ·simpa using v
end
end L2
namespace Zp
open PySem
section
variable{prog:Program}{w:World}{A:Around}{E:Value->Shared->Prop}{s:Shared}
def HX{i t:Addr}{k:Nat}{vs:Array Value}{v:Value}{Q:Value->Shared->Prop}(c:s.heap.IsTupleIter i t k)(h:s.heap.IsTuple t vs)(d:vs[k]?=some v)
  (q:∀h',h'.IsTupleIter i t (k+1)->Heap.SameBut i s.heap h'->Q v {s with heap:=h'}):wpAny (model prog w) A (Builtin.SmallTypes.nextOf (.ref i)) Q E s:=by
 obtain⟨j,b,e,a⟩:=id c
 obtain⟨m,f,_,l,g⟩:=h
 unfold Builtin.SmallTypes.nextOf
 refine Qaq (QiQ (name:=Str.ofString "__next__") c.typeIs F.slot_tuple_iterator_next (wpAny_call_entry F.slot_tuple_iterator_next c.typeIs F.entry_tuple_iterator_next ?_ (F.args_tuple_iterator_next_1 _)))
 refine(?_:wpAny _ _ (field (.ref i) 0 >>= _) _ _ s)
 refine Qaq (QMq b a (x:=.ref t) rfl ?_)
 refine(?_:wpAny _ _ (if (Value.ref t==Value.none)=true then _ else _) _ _ s)
 rw[Quq (λz=>by cases (show false=true from z))]
 refine(?_:wpAny _ _ (field (.ref i) 1 >>= _) _ _ s)
 refine Qaq (QMq b a (x:=.int k 0) rfl ?_)
 refine(?_:wpAny _ _ (seqItems? (.ref t) >>= _) _ _ s)
 refine Qaq (wpAny_seqItems f g ?_)
 simp only[Int.toNat_natCast,d]
 refine Qaq (wpAny_setField b a (by simp) (Qgq ⟨v,rfl,Qgq (q _ ⟨_,Heap.get?_update_self _ b (Obj.isFreed_of_fields (Obj.data_mapFields a _)),(Obj.cls_mapFields ..).trans e,?_⟩ (Heap.SameBut.update ..))⟩))
 rw[Obj.data_mapFields a]
 simp[rawInt]
def Gw{i t:Addr}{k:Nat}{vs:Array Value}{Q:Value->Shared->Prop}(f:A.handled=none)(b:s.heap.IsTupleIter i t k)(l:s.heap.IsTuple t vs)(g:vs[k]?=none)
  (q:∀h' e,Heap.ExtBut i s.heap h'->(∃o,h'.get? e=some o/\o.cls=.type "StopIteration")->E (.ref e) {s with heap:=h'}):wpAny (model prog w) A (Builtin.SmallTypes.nextOf (.ref i)) Q E s:=by
 obtain⟨n,c,p,d⟩:=id b
 obtain⟨u,h,_,r,j⟩:=l
 unfold Builtin.SmallTypes.nextOf
 refine Qaq (QiQ (name:=Str.ofString "__next__") b.typeIs F.slot_tuple_iterator_next (wpAny_call_entry F.slot_tuple_iterator_next b.typeIs F.entry_tuple_iterator_next ?_ (F.args_tuple_iterator_next_1 _)))
 refine(?_:wpAny _ _ (field (.ref i) 0 >>= _) _ _ s)
 refine Qaq (QMq c d (x:=.ref t) rfl ?_)
 refine(?_:wpAny _ _ (if (Value.ref t==Value.none)=true then _ else _) _ _ s)
 rw[Quq (λz=>by cases (show false=true from z))]
 refine(?_:wpAny _ _ (field (.ref i) 1 >>= _) _ _ s)
 refine Qaq (QMq c d (x:=.int k 0) rfl ?_)
 refine(?_:wpAny _ _ (seqItems? (.ref t) >>= _) _ _ s)
 refine Qaq (wpAny_seqItems h j ?_)
 simp only[Int.toNat_natCast,g]
 refine Qaq (wpAny_rule (Qaq (wpAny_setField c d (by simp) ?_)))
 refine(?_:wpAny _ _ (newExc (.type "StopIteration") [] >>= _) _ _ _)
 refine Qaq ?_
 simp only[newExc,newTuple]
 refine Qaq (QhQ ?_ (by size_fits))
 refine Qaq (m:=firstArgMember _ _) (wpAny_of_eq (a:=Value.none) (by first|rfl|(simp only[firstArgMember];rfl)) (QhQ ?_ (by size_fits)))
 simp only[raiseNew]
 refine Qaq (wpAny_handled ?_)
 first|rw[show A.in1.handled=none from f]|rw[f]
 exact Qaq (Qgq (wpAny_throw (q _ _ (((Heap.SameBut.update ..).extBut.push _).push _) ⟨_,Qrq _ rfl,rfl⟩)))
end
def Rest(z O i j:Addr)(h h':Heap):Prop:=∀c o,c≠z->c≠O->c≠i->c≠j->h.get? c=some o->h'.get? c=some o
end Zp
namespace L2
open PySem PySem.Spec PyProof.Rows
section
variable{X:Cx}{pins:List (Addr×Obj)}{σ:St}{H:Hp}{s:Shared}{h':Heap}
def Inv.turnedL{t':Nat}{fp:List Addr}(I:Inv X pins σ H s)(d:∀b∈fp,mr X pins H b)(k:∀b o,b∉fp->s.heap.get? b=some o->h'.get? b=some o):Inv X pins σ H {s with heap:=h',toks:=t'}:=by
 have f:∀b u,H b=some u->b∉fp:=λb u e z=>by rw[(d b z).1] at e;cases e
 refine I.step (g':=s.gens) (d':=s.drawn) (ch:=fp) (λb g=>⟨(d b g).2.2.2.1,(d b g).2.1,(d b g).2.2.2.2.1,(d b g).2.2.2.2.2⟩) (λb o _ _ a e _=>k b o a e) (λb o _ _ a e _=>⟨o.slots,k b o a e⟩) (λ_ _ _ _ n=>n)
  (λb o a e=>⟨o,k b o a e⟩) (λ_ _ e=>e) (λ_ _ _ e=>e) (λb p e=>⟨#[],by rw[e];simp⟩) (λm i=> ?_) (λb u e=> ?_) I.bare
 ·obtain⟨o,j,h,l,r⟩:=i
  exact⟨o,j,h,k _ o (λz=>(d _ z).2.1 rfl) l,r⟩
 ·refine(I.hok b u e).stay (λc v a q=>k c v ?_ q) (λ_ q=>q) λ_ _ q=>q
  rcases a with z|z
  ·rw[z];exact f b u e
  ·exact f c _ z
def Inv.turnedNew{t':Nat}{fp:List Addr}{p:Addr}{o:HO}(I:Inv X pins σ H s)(f:∀b∈fp,mr X pins H b)(k:∀b u,b∉fp->s.heap.get? b=some u->h'.get? b=some u)(i:s.heap.objs.size<=p)
  (new:bI X.prog X.w (upd H p o) h' p o):Inv X pins σ (upd H p o) {s with heap:=h',toks:=t'}:=by
 have t:=I.hok.fresh i
 have h:∀b u,H b=some u->b∉fp:=λb u e z=>by rw[(f b z).1] at e;cases e
 have g:∀b u,H b=some u->upd H p o b=some u:=λb u e=>by rw[aJ (dD e t)];exact e
 refine I.step (g':=s.gens) (d':=s.drawn) (ch:=fp) (λb a=>⟨(f b a).2.2.2.1,(f b a).2.1,(f b a).2.2.2.2.1,(f b a).2.2.2.2.2⟩) (λb o _ _ d e _=>k b o d e) (λb o _ _ d e _=>⟨o.slots,k b o d e⟩)
  (λb u _ e n=>by rw[aJ (λz=>Nat.lt_irrefl _ (Qqq (Qiq e) (by rw[z];exact i)))];exact n)
  (λb o d e=>⟨o,k b o d e⟩) (λb B e=>g b _ e) (λb u v e=>g b _ e) (λb A e=>⟨#[],by rw[g b _ e];simp⟩) (λm l=> ?_) (λb u e=> ?_) I.bare
 ·obtain⟨o,x,j,y,r⟩:=l
  exact⟨o,x,j,k _ o (λz=>(f _ z).2.1 rfl) y,r⟩
 ·by_cases a:b=p
  ·subst a
   rw[a0] at e
   cases e
   exact new
  ·rw[aJ a] at e
   refine(I.hok b u e).stay (λc v d q=>k c v ?_ q) (λc q=>g c _ q) λc _ q=>g c _ q
   rcases d with z|z
   ·rw[z];exact h b u e
   ·exact h c _ z
end
end L2
namespace Zp
open PySem PySem.W PyProof.Rows
end Zp
namespace L2
open PySem PySem.Spec PyProof.Rows
section
variable{X:Cx}
def DX:jL X (binaryOp .Mult) (rI IntMulOk λi j=>.int (i*j)):=IM λ_ _ _ _ _ _ _ a q=>mul_int q a
end
section
variable{X:Cx}
def AW:HS X (λx y H Q=>∃p xs k v,x=.ref p/\y=.int ((k:Nat):Int)/\gr X.K H p xs/\xs[k]?=some v/\Q v H):=by
 intro b s n H x y v u Q I g c h
 obtain⟨p,xs,k,z,rfl,rfl,hq,he,q⟩:=h
 cases g
 obtain⟨t,rfl⟩:=c
 obtain⟨f,r,d,l⟩:=I.list hq
 obtain⟨e,i,a⟩:=r.get he
 have j:k<xs.length:=(gQs.mp he).1
 have m:=jv
 exact wpAny_getItem_list d.isList (x:=e) (Int.natCast_nonneg k) (by omega) (by simpa using i) ⟨z,H,I,a,q⟩
end
section
variable{X:Cx}
def Ci(K:PySem.W.Frag):R2:=λx y H Q=>∃a b c,x=.ref a/\y=.ref b/\gr K H a c/\gr K H b []/\Q (.bl (!c.isEmpty)) H
def BN(g:X.A.units<cLine):jL X (compareOp .NotEq) (Ci X.K):=by
 intro c s o H x y v u Q I f e h
 obtain⟨a,b,j,rfl,rfl,ha,hb,q⟩:=h
 cases j with
 |nil=>exact A0 g c s o H _ _ v u Q I f e ⟨a,b,[],[],rfl,rfl,ha,hb,rfl,rfl,q⟩
 | cons z w=>
   cases f
   cases e
   obtain⟨l,r,k,B⟩:=I.list ha
   obtain⟨p,i,d,m⟩:=I.list hb
   have t:=r.length
   have n:=i.length
   exact SeqAt.RcNeAt.lists_lengths k.isList d.isList (by simp[←t,←n]) g _ _ _ _ ⟨.bl true,H,I,rfl,q⟩
end
end L2
namespace HT
open PySem PySem.Spec PyProof.Rows
section
variable{prog:Program}{w:World}{A:Around}{E:Value->Shared->Prop}{s:Shared}
def jP{t e:Addr}{items:Array Value}{j k:Value}{lo hi:Option Int}{Q:Value->Shared->Prop}(b:IsTup s.heap t items)(g:s.heap.IsSliceOf e j k .none)(o:IsPart j lo)(l:IsPart k hi)
  (i:dB items.size 0 lo=0/\dB items.size items.size hi=items.size) (h:Q (.ref t) s):wpAny (model prog w) A (getItem (.ref t) (.ref e)) Q E s:=by
 obtain⟨q,d,c,p⟩:=id g
 have f:s.TypeIs (.ref e) "slice":=⟨q,d,c⟩
 unfold getItem
 try with_reducible refine QLq ?_
 first|refine Qaq (Qgq ?_)|skip
 refine Qaq (wpAny_sequenceKey b.typeIs (by decide) ?_)
 refine Qaq (QiQ (name:=Str.ofString "__getitem__") b.typeIs PyProof.Rows.slot_tuple_getitem
  (wpAny_call_entry PyProof.Rows.slot_tuple_getitem b.typeIs entry_tuple_getitem ?_ (args_tuple_getitem _ _)))
 show wpAny _ _ (Builtin.Tuple.tupleItemsOf (.ref t) >>= _) _ _ s
 refine Qaq (tupleItemsOf_ b ?_)
 refine Qaq (wpAny_typeOf f ?_)
 rw[Qhq (by decide)]
 refine Qaq (gL g o l ?_)
 have a:(((dB items.size 0 lo:Nat):Int)==0&&(1:Int)==1&&(dB items.size items.size hi-dB items.size 0 lo)==items.size)=true:=by
  rw[i.1,i.2]
  simp
 show wpAny _ _ (if (((dB items.size 0 lo:Nat):Int)==0&&(1:Int)==1&&(dB items.size items.size hi-dB items.size 0 lo)==items.size)=true then _ else _) _ _ s
 rw[Qhq a]
 have n:∀{A:Around} {E:Value->Shared->Prop} {R:Bool->Shared->Prop},R true s->wpAny (model prog w) A (Builtin.Tuple.tupleIsExact (.ref t)) R E s:=λ{A E R} h=>by
  unfold Builtin.Tuple.tupleIsExact
  exact Qaq (wpAny_typeOf b.typeIs (Qgq h))
 refine Qaq (m:=Builtin.Tuple.tupleIsExact _) (n ?_)
 rw[Qhq rfl]
 refine Qaq (wpAny_rule ?_)
 exact Qgq ⟨_,rfl,Qgq h⟩
end
end HT
namespace L2
open PySem PySem.Spec PyProof.Rows
def JX(K:PySem.W.Frag):V->Option Int->Option Int->Hp->VK->Prop:=λx c d H Q=>∃a b,x=.ref a/\gB K H a b∧
 (HT.dB b.length 0 c=0/\HT.dB b.length b.length d=b.length->Q (.ref a) H)/\(¬(HT.dB b.length 0 c=0/\HT.dB b.length b.length d=b.length)->∀p,H p=none->Q (.ref p) (upd H p (.tup (yb b c d))))
def DV{X:Cx}:JA X (JX X.K):=by
 intro d s q H x v o p i n t Q I m g k j h
 obtain⟨a,b,rfl,hx,q1,q2⟩:=h
 by_cases e:HT.dB b.length 0 i=0/\HT.dB b.length b.length n=b.length
 ·cases m
  obtain⟨f,r,l,u⟩:=I.tuple hx
  have c:f.toArray.size=b.length:=by rw[Qjq];exact r.length.symm
  refine⟨"tuple",_,PyProof.Rows.slot_tuple_getitem.lookup,l.typeIs,?_⟩
  exact HT.jP l g k j (by rw[c];exact e) ⟨.ref a,H,I,rfl,q1 e⟩
 ·exact F7 d s q H _ v o p i n t Q I m g k j ⟨a,b,rfl,hx,e,q2 e⟩
end L2
namespace DL
open PySem PySem.Spec PyProof.Rows L2
inductive D where
 |non|bl (b:Bool)|int (i:Int)|str (x:Str)|tup (xs:List D)|ref (k:Nat)|fn (x:Str)
inductive O where
 |lst (xs:List D)|frz (xs:List D)|dct (kvs:List (Key×D))|fdc (kvs:List (Key×D))
abbrev aA:=List O
abbrev cp:=List (Option D)
structure Md where
 K:PySem.W.Frag
 mg:Str->Option Value
mutual
inductive Rel(M:Md)(ρ:List Addr)(H:Hp):D->V->Prop
 |non:Rel M ρ H .non .non
 |bl (b:Bool):Rel M ρ H (.bl b) (.bl b)
 |int (i:Int):Rel M ρ H (.int i) (.int i)
 |str (x:Str):Rel M ρ H (.str x) (.str x)
 |tup {a:Addr} {vs:List V} {ds:List D}:H a=some (.tup vs)->aL M ρ H ds vs->Rel M ρ H (.tup ds) (.ref a)
 |ref {k:Nat} {a:Addr}:ρ[k]?=some a->Rel M ρ H (.ref k) (.ref a)
 |fn {x:Str} {a:Addr}:M.mg x=some (.ref a)->Rel M ρ H (.fn x) (.ref a)
inductive aL(M:Md)(ρ:List Addr)(H:Hp):List D->List V->Prop
 |nil:aL M ρ H [] []
 |cons {d:D} {v:V} {ds:List D} {vs:List V}:Rel M ρ H d v->aL M ρ H ds vs->aL M ρ H (d::ds) (v::vs)
end
section
variable{M:Md}{ρ ρ':List Addr}{H H':Hp}
def JR:HO->Prop
 |.tup _=>True
 |.frz _ _=>True
 |_=>False
structure bD(ρ:List Addr)(H:Hp)(ρ':List Addr)(H':Hp):Prop where
 pre:ρ <+: ρ'
 new:∀a∈ρ',a∈ρ\/H a=none
 keep:∀a o,H a=some o->a∉ρ\/JR o->H' a=some o
 grow:∀a,H' a=none->H a=none
def bD.refl:bD ρ H ρ H:=⟨List.prefix_refl _,λ_ h=>.inl h,λ_ _ h _=>h,λ_ h=>h⟩
def bD.trans{d b:List Addr}{H1 H2:Hp}(e:bD ρ H d H1)(f:bD d H1 b H2):bD ρ H b H2 where
 pre:=e.pre.trans f.pre
 new:=λa h=>(f.new a h).elim (λh=>e.new a h) λh=>.inr (e.grow a h)
 keep:=λa o h c=>f.keep a o (e.keep a o h c) (c.imp (λn m=>(e.new a m).elim n λz=>by rw[z] at h;cases h) id)
 grow:=λa h=>e.grow a (f.grow a h)
def bD.laid{a:Addr}{o:HO}(h:H a=none):bD ρ H ρ (upd H a o) where
 pre:=List.prefix_refl _
 new:=λ_ h=>.inl h
 keep:=λb c e _=>by rw[aJ];exact e;intro z;subst z;rw[h] at e;cases e
 grow:=λb e=>by
  by_cases z:b=a
  ·subst z;exact h
  ·rw[aJ z] at e;exact e
theorem i_{α:Type}:∀{l:List α},l.Nodup->∀{i j:Nat} {a:α},l[i]?=some a->l[j]?=some a->i=j
 | [],_,_,_,_,h,_=>by simp at h
 |x::l,n,0,0,_,_,_=>rfl
 | x::l,n,0,j+1,a,h1,h2=>by
   rw[List.nodup_cons] at n
   simp at h1 h2
   subst h1
   exact absurd (mQg h2) n.1
 | x::l,n,i+1,0,a,h1,h2=>by
   rw[List.nodup_cons] at n
   simp at h1 h2
   subst h2
   exact absurd (mQg h1) n.1
 | x::l,n,i+1,j+1,a,h1,h2=>by
   rw[List.nodup_cons] at n
   simp at h1 h2
   exact congrArg (·+1) (i_ n.2 h1 h2)
def bz{α e:Type}{a c:α}{b d:e}(h:some (a,b)=some (c,d)):a=c/\b=d:=by cases h;exact⟨rfl,rfl⟩
def bV{α:Type}{l b:List α}(h:l <+: b){k:Nat}{a:α}(e:l[k]?=some a):b[k]?=some a:=by
 obtain⟨t,rfl⟩:=h
 rw[QHq (gQs.mp e).1]
 exact e
mutual
theorem Rel.ext(e:bD ρ H ρ' H'):∀{d:D} {v:V},Rel M ρ H d v->Rel M ρ' H' d v
 |_,_,.non=>.non
 |_,_,.bl b=>.bl b
 |_,_,.int i=>.int i
 |_,_,.str x=>.str x
 |_,_,.tup h hs=>.tup (e.keep _ _ h (.inr trivial)) (aL.ext e hs)
 |_,_,.ref h=>.ref (bV e.pre h)
 |_,_,.fn h=>.fn h
theorem aL.ext(e:bD ρ H ρ' H'):∀{ds:List D} {vs:List V},aL M ρ H ds vs->aL M ρ' H' ds vs
 |_,_,.nil=>.nil
 |_,_,.cons h hs=>.cons (Rel.ext e h) (aL.ext e hs)
end
mutual
theorem Rel.pre(e:ρ <+: ρ'):∀{d:D} {v:V},Rel M ρ H d v->Rel M ρ' H d v
 |_,_,.non=>.non
 |_,_,.bl b=>.bl b
 |_,_,.int i=>.int i
 |_,_,.str x=>.str x
 |_,_,.tup h hs=>.tup h (aL.pre e hs)
 |_,_,.ref h=>.ref (bV e h)
 |_,_,.fn h=>.fn h
theorem aL.pre(e:ρ <+: ρ'):∀{ds:List D} {vs:List V},aL M ρ H ds vs->aL M ρ' H ds vs
 |_,_,.nil=>.nil
 |_,_,.cons h hs=>.cons (Rel.pre e h) (aL.pre e hs)
end
theorem aL.length:∀{ds:List D} {vs:List V},aL M ρ H ds vs->ds.length=vs.length
 |_,_,.nil=>rfl
 |_,_,.cons _ h=>congrArg (·+1) h.length
theorem aL.append:∀{ds a:List D} {vs ws:List V},aL M ρ H ds vs->aL M ρ H a ws->aL M ρ H (ds++a) (vs++ws)
 |_,_,_,_,.nil,h=>h
 |_,_,_,_,.cons h hs,h'=>.cons h (hs.append h')
theorem aL.get:∀{ds:List D} {vs:List V} {i:Nat} {d:D},aL M ρ H ds vs->ds[i]?=some d->∃v,vs[i]?=some v/\Rel M ρ H d v
 |_,_,0,_,.cons h _,e=>by cases e;exact⟨_,rfl,h⟩
 |_,_,i+1,_,.cons _ hs,e=>hs.get (i:=i) (by simpa using e)
 |_,_,_,_,.nil,e=>by simp at e
theorem aL.set{d:D}{v:V}(h:Rel M ρ H d v):∀{ds:List D} {vs:List V} (i:Nat),aL M ρ H ds vs->aL M ρ H (ds.set i d) (vs.set i v)
 |_,_,_,.nil=>.nil
 |_,_,0,.cons _ t=>.cons h t
 |_,_,i+1,.cons q t=>.cons q (aL.set h i t)
theorem aL.take:∀{ds:List D} {vs:List V} (n:Nat),aL M ρ H ds vs->aL M ρ H (ds.take n) (vs.take n)
 |_,_,0,_=>.nil
 |_,_,_+1,.nil=>.nil
 |_,_,n+1,.cons h hs=>.cons h (hs.take n)
theorem aL.drop:∀{ds:List D} {vs:List V} (n:Nat),aL M ρ H ds vs->aL M ρ H (ds.drop n) (vs.drop n)
 |_,_,0,h=>h
 |_,_,_+1,.nil=>.nil
 |_,_,n+1,.cons _ hs=>hs.drop n
theorem aL.eraseIdx:∀{ds:List D} {vs:List V} (n:Nat),aL M ρ H ds vs->aL M ρ H (ds.eraseIdx n) (vs.eraseIdx n)
 |_,_,_,.nil=>.nil
 |_,_,0,.cons _ h=>h
 |_,_,n+1,.cons h hs=>.cons h (hs.eraseIdx n)
theorem aL.rep{ds:List D}{vs:List V}(h:aL M ρ H ds vs):∀k:Nat,aL M ρ H (List.replicate k ds).flatten (List.replicate k vs).flatten
 |0=>.nil
 |k+1=>by rw[QNq,QNq,List.flatten_cons,List.flatten_cons];exact h.append (h.rep k)
def bo(M:Md)(ρ:List Addr)(H:Hp):List (Key×D)->List (Key×V)->Prop
 | [],kv=>kv= []
 |(k,d)::r,kv=>∃v t,kv=(k,v)::t/\Rel M ρ H d v/\bo M ρ H r t
theorem bo.imp{ρ':List Addr}{H':Hp}(f:∀d v,Rel M ρ H d v->Rel M ρ' H' d v):∀{l:List (Key×D)} {kv:List (Key×V)},bo M ρ H l kv->bo M ρ' H' l kv
 | [],_,h=>h
 |(_,_)::_,_,⟨v,t,e,h,hs⟩=>⟨v,t,e,f _ _ h,bo.imp f hs⟩
theorem bo.length:∀{l:List (Key×D)} {kv:List (Key×V)},bo M ρ H l kv->l.length=kv.length
 | [],_,h=>by cases h;rfl
 |(_,_)::_,_,⟨v,t,e,h,hs⟩=>by subst e;exact congrArg (·+1) hs.length
def lZ(M:Md)(ρ:List Addr)(H:Hp)(a:Addr):O->Prop
 |.lst e=>∃c,H a=some (.lst c)/\aL M ρ H e c
 |.frz e=>∃c o,H a=some (.frz o (.lst c))/\aL M ρ H e c
 |.dct b=>∃d,H a=some (.dK d)/\bo M ρ H b d
 |.fdc b=>∃d o,H a=some (.frz o (.dK d))/\bo M ρ H b d
structure ed(M:Md)(ρ:List Addr)(S:aA)(H:Hp):Prop where
 len:ρ.length=S.length
 nd:ρ.Nodup
 obj:∀(k:Nat) (a:Addr) (o:O),ρ[k]?=some a->S[k]?=some o->lZ M ρ H a o
def lZ.lay{a b:Addr}{o:O}{u:HO}(h:lZ M ρ H a o)(k:H b=none):lZ M ρ (upd H b u) a o:=by
 have e:bD ρ H ρ (upd H b u):=bD.laid k
 have f:∀{x},H a=some x->upd H b u a=some x:=λ{x} h=>by rw[aJ];exact h;intro z;subst z;rw[k] at h;cases h
 cases o with
 |lst l=>obtain⟨i,d,c⟩:=h;exact⟨i,f d,c.ext e⟩
 |frz l=>obtain⟨i,o,d,c⟩:=h;exact⟨i,o,f d,c.ext e⟩
 |dct g=>obtain⟨j,d,c⟩:=h;exact⟨j,f d,c.imp λ_ _ r=>r.ext e⟩
 |fdc g=>obtain⟨j,o,d,c⟩:=h;exact⟨j,o,f d,c.imp λ_ _ r=>r.ext e⟩
def ed.lay{S:aA}{b:Addr}{u:HO}(h:ed M ρ S H)(c:H b=none):ed M ρ S (upd H b u):=⟨h.len,h.nd,λk a o e d=>(h.obj k a o e d).lay c⟩
theorem lZ.pre{a:Addr}{o:O}(e:ρ <+: ρ')(h:lZ M ρ H a o):lZ M ρ' H a o:=by
 cases o with
 |lst i=>obtain⟨f,c,b⟩:=h;exact⟨f,c,b.pre e⟩
 |frz i=>obtain⟨f,o,c,b⟩:=h;exact⟨f,o,c,b.pre e⟩
 |dct d=>obtain⟨g,c,b⟩:=h;exact⟨g,c,b.imp λ_ _ r=>r.pre e⟩
 |fdc d=>obtain⟨g,o,c,b⟩:=h;exact⟨g,o,c,b.imp λ_ _ r=>r.pre e⟩
def ed.box{S:aA}{a:Addr}{o:O}(h:ed M ρ S H)(l:a∉ρ)(g:lZ M (ρ++ [a]) H a o):ed M (ρ++ [a]) (S++ [o]) H where
 len:=by rw[lQa,lQa,h.len];rfl
 nd:=by rw[List.nodup_append];exact⟨h.nd,by simp,λx i y f=>by rw[Qfq] at f;subst f;exact λz=>l (z▸i)⟩
 obj:=λk b u d e=>by
  by_cases c:k<ρ.length
  ·rw[QHq c] at d
   rw[QHq (h.len▸c)] at e
   exact(h.obj k b u d e).pre (List.prefix_append _ _)
  ·have c:ρ.length<=k:=Nat.le_of_not_lt c
   rw[QQq c] at d
   rw[QQq (h.len▸c)] at e
   have z:k-ρ.length=0:=by
    have:=(gQs.mp d).1
    simp at this
    omega
   have j:k-S.length=0:=by rw[←h.len];exact z
   rw[z] at d
   rw[j] at e
   cases d
   cases e
   exact g
def ed.put{S:aA}{k:Nat}{a:Addr}{o o':O}{u:HO}(h:ed M ρ S H)(i:ρ[k]?=some a)(J:S[k]?=some o)(K:lZ M ρ (upd H a u) a o')(F:∀x,H a=some x->¬JR x):ed M ρ (S.set k o') (upd H a u)/\bD ρ H ρ (upd H a u):=by
 have G:a∈ρ:=mQg i
 have e:bD ρ H ρ (upd H a u):=by
  refine⟨List.prefix_refl _,λ_ h=>.inl h,λb x A c=> ?_,λb m=> ?_⟩
  ·rw[aJ]
   ·exact A
   ·intro z
    subst z
    exact c.elim (λn=>n G) λC=>F _ A C
  ·by_cases z:b=a
   ·subst z;rw[a0] at m;cases m
   ·rw[aJ z] at m;exact m
 refine⟨⟨by rw[List.length_set];exact h.len,h.nd,λj b p g l=> ?_⟩,e⟩
 by_cases c:j=k
 ·subst c
  rw[i] at g
  cases g
  rw[Qyq (gQs.mp J).1] at l
  cases l
  exact K
 ·rw[QKq (Ne.symm c)] at l
  have s:b≠a:=by
   intro z
   subst z
   have B:=(gQs.mp g)
   have y:=(gQs.mp i)
   obtain⟨B,L⟩:=B
   obtain⟨y,N⟩:=y
   exact c (i_ h.nd g i)
  have q:=h.obj j b p g l
  cases p with
  |lst I=>obtain⟨w,f,d⟩:=q;exact⟨w,by rw[aJ s];exact f,d.ext e⟩
  |frz I=>obtain⟨w,o,f,d⟩:=q;exact⟨w,o,by rw[aJ s];exact f,d.ext e⟩
  |dct v=>obtain⟨t,f,d⟩:=q;exact⟨t,by rw[aJ s];exact f,d.imp λ_ _ r=>r.ext e⟩
  |fdc v=>obtain⟨t,o,f,d⟩:=q;exact⟨t,o,by rw[aJ s];exact f,d.imp λ_ _ r=>r.ext e⟩
end
structure En(M:Md)(ρ:List Addr)(H:Hp)(Γ:cp)(σ:L2.St):Prop where
 len:σ.length=Γ.length
 get:∀(i:Nat) (d:D),Γ[i]?=some (some d)->∃v,σ[i]?=some (some v)/\Rel M ρ H d v
def En.ext{M:Md}{ρ a:List Addr}{H f:Hp}{b:cp}{c:L2.St}(h:En M ρ H b c)(e:bD ρ H a f):En M a f b c:=⟨h.len,λi d q=>by obtain⟨v,j,g⟩:=h.get i d q;exact⟨v,j,g.ext e⟩⟩
def En.set{M:Md}{ρ:List Addr}{H:Hp}{a:cp}{b:L2.St}{i:Nat}{d:D}{v:V}(h:En M ρ H a b)(r:Rel M ρ H d v):En M ρ H (a.set i (some d)) (b.set i (some v)) where
 len:=by rw[List.length_set,List.length_set];exact h.len
 get:=λj e q=>by
  by_cases c:i=j
  ·subst c
   have l:i<a.length:=by
    have:=(gQs.mp q).1
    rwa [List.length_set] at this
   rw[Qyq l] at q
   cases q
   exact⟨v,Qyq (h.len▸l),r⟩
  ·rw[QKq c] at q⊢
   exact h.get j e q
structure Ok(M:Md)(ρ:List Addr)(Γ:cp)(S:aA)(σ:L2.St)(H:Hp):Prop where
 en:En M ρ H Γ σ
 st:ed M ρ S H
def Ok.to{M:Md}{ρ a:List Addr}{c:cp}{S f:aA}{d:L2.St}{H b:Hp}(h:Ok M ρ c S d H)(e:bD ρ H a b)(s:ed M a f b):Ok M a c f d b:=⟨h.en.ext e,s⟩
abbrev aU:=cp->aA->Option (D×aA)
abbrev fD:=cp->aA->Option (List D×aA)
abbrev ir:=cp->aA->Option (Bool×aA)
def tD(M:Md)(f:aU):TE:=λh H Q=>∃c g S d e,Ok M c g S h H/\f g S=some (d,e)/\∀a v b,bD c H a b->ed M a e b->Rel M a b d v->Q v b
def tL(M:Md)(f:fD):TE:=λj H Q=>∃d h S i g,Ok M d h S j H/\f h S=some (i,g)∧
 ∀b a e c,bD d H b c->ed M b g c->H a=none->a∉b->c a=some (.lst e)->aL M b c i e->Q (.ref a) c
def ve(M:Md)(f:fD):TA:=λi H Q=>∃c g S h e,Ok M c g S i H/\f g S=some (h,e)/\∀a d b,bD c H a b->ed M a e b->aL M a b h d->Q d b
def tB(M:Md)(f:ir):TT:=λh H Q=>∃d g S b e,Ok M d g S h H/\f g S=some (b,e)/\∀a c,bD d H a c->ed M a e c->Q b c
section
variable{X:Cx}
abbrev md(X:Cx):Md:=⟨X.K,X.mg⟩
def iO{e:Expr}{t t':TE}(h:PE X e t)(w:∀b H Q,t' b H Q->t b H Q):PE X e t':=λa s b H Q I q=>h a s b H Q I (w _ _ _ q)
def Iy{e:Expr}{t t':TT}(h:PT X e t)(w:∀b H Q,t' b H Q->t b H Q):PT X e t':=λa s b H Q I q=>h a s b H Q I (w _ _ _ q)
def Ka{e:Expr}{t t':TT}(h:PW X e t)(w:∀b H Q,t' b H Q->t b H Q):PW X e t':=λc a s b H Q I q=>h c a s b H Q I (w _ _ _ q)
def Kh{d:List Expr}{t t':TA}(h:PA X d t)(w:∀b H Q,t' b H Q->t b H Q):PA X d t':=λc a s b H Q I q=>h c a s b H Q I (w _ _ _ q)
def As{e:Stmt}{t t':TS}(h:PS X e t)(w:∀D b H,t' D b H->t D b H):PS X e t':=λa s b H D I q=>h a s b H D I (w _ _ _ q)
def GB{e:List Stmt}{t t':TS}(h:qH X e t)(w:∀D b H,t' D b H->t D b H):qH X e t':=λa s b H D I q=>h a s b H D I (w _ _ _ q)
noncomputable def au(i:Nat):aU:=λa S=>match a[i]? with
 |some (some d)=>some (d,S)
 |_=>none
def zt{i:Nat}{a:cp}{S:aA}{d:D}{b:aA}(h:au i a S=some (d,b)):a[i]?=some (some d)/\b=S:=by
 unfold au at h
 split at h
 ·cases h;exact⟨by assumption,rfl⟩
 ·cases h
def GG{e:Expr}{i:Nat}(h:PE X e (EM i)):PE X e (tD (md X) (au i)):=iO h λk H Q c=>by
 obtain⟨a,j,S,d,l,ok,e,q⟩:=c
 obtain⟨f,rfl⟩:=zt e
 obtain⟨v,g,b⟩:=ok.en.get i d f
 exact⟨v,g,q a v H bD.refl ok.st b⟩
noncomputable def cF(d:D):aU:=λ_ S=>some (d,S)
def ik{e:Expr}{v:V}{d:D}(h:PE X e (tC v))(r:∀ρ H,Rel (md X) ρ H d v):PE X e (tD (md X) (cF d)):=iO h λf H Q a=>by
 obtain⟨ρ,c,S,b,g,ok,e,q⟩:=a
 cases e
 exact q ρ v H bD.refl ok.st (r _ _)
def nU{i:Int}{j pos}:PE X (.Constant (.int i) j pos) (tD (md X) (cF (.int i))):=ik Gb λ_ _=>.int i
def Lf{b:Bool}{j pos}:PE X (.Constant (.bool b) j pos) (tD (md X) (cF (.bl b))):=ik GV λ_ _=>.bl b
def Ku{j pos}:PE X (.Constant .none j pos) (tD (md X) (cF .non)):=ik Fs λ_ _=>.non
def KP{x:Str}{j pos}:PE X (.Constant (.str x) j pos) (tD (md X) (cF (.str x))):=ik FG λ_ _=>.str x
def hV(f:fD):aU:=λb S=>(f b S).bind λ(c,a)=>some (.ref a.length,a++ [.lst c])
def KA{e:Expr}{f:fD}(h:PE X e (tL (md X) f)):PE X e (tD (md X) (hV f)):=iO h λA H Q m=>by
 obtain⟨t,k,S,d,z,ok,e,q⟩:=m
 unfold hV at e
 cases i:f k S with
 |none=>rw[i] at e;cases e
 | some p=>
   obtain⟨v,u⟩:=p
   rw[i] at e
   obtain⟨rfl,rfl⟩:=bz e
   refine⟨t,k,S,v,u,ok,i,λg a y n x l r o s w=> ?_⟩
   have j:=w.pre (List.prefix_append g [a])
   refine q (g++ [a]) (.ref a) n ⟨x.pre.trans (List.prefix_append _ _),λb c=> ?_,x.keep,x.grow⟩ (l.box o ⟨y,s,j⟩) (.ref ?_)
   · rcases mQa.mp c with c|c
     · exact x.new b c
     · rw[Qfq] at c;subst c;exact .inr r
   · rw[←l.len,QQq (Qmq _)]
     simp
noncomputable def aw:fD:=λ_ S=>some ([],S)
noncomputable def av(f:aU)(g:fD):fD:=λa S=>(f a S).bind λ(d,c)=>(g a c).bind λ(e,b)=>some (d::e,b)
def aq{α c:Type}{o:Option α}{f:α->Option c}{b:c}(h:o.bind f=some b):∃a,o=some a/\f a=some b:=by
 cases o with
 |none=>cases h
 |some a=>exact⟨a,rfl,h⟩
def nN:PA X [] (ve (md X) aw):=Kh eE λf H Q b=>by
 obtain⟨a,c,S,d,g,ok,e,q⟩:=b
 cases e
 exact q a [] H bD.refl ok.st .nil
def fI{e:Expr}{a:List Expr}{f:aU}{g:fD}(t:PE X e (tD (md X) f))(z:PA X a (ve (md X) g))(p:starEach (e::a) X.env=(false,eval e X.env)::starEach a X.env:=by rfl):PA X (e::a) (ve (md X) (av f g)):=
 Kh (cB t z p) λF H Q s=>by
  obtain⟨u,j,S,d,C,ok,e,q⟩:=s
  obtain⟨⟨x,m⟩,n,e⟩:=aq e
  obtain⟨⟨r,y⟩,B,e⟩:=aq e
  obtain⟨rfl,rfl⟩:=bz e
  refine⟨u,j,S,x,m,ok,n,λc v H1 l h A=>⟨c,j,m,r,y,ok.to l h,B,λi w H2 k b o=> ?_⟩⟩
  exact q i (v::w) H2 (l.trans k) b (.cons (A.ext k) o)
def bc(f:fD):aU:=λb S=>(f b S).bind λ(a,c)=>if a.length<=sizeLine then some (.tup a,c) else none
def KW{i:List Expr}{f:fD}{k pos}(h:PA X i (ve (md X) f)):PE X (.Tuple i k pos) (tD (md X) (bc f)):=iO (EG h) λv H Q n=>by
 obtain⟨r,m,S,d,u,ok,e,q⟩:=n
 obtain⟨⟨t,s⟩,l,e⟩:=aq e
 dsimp only at e
 split at e
 ·rename_i c
  obtain⟨rfl,rfl⟩:=bz e
  refine⟨r,m,S,t,s,ok,l,λa w H1 o b j=>⟨j.length▸c,λp g=> ?_⟩⟩
  exact q a (.ref p) _ (o.trans (bD.laid g)) (b.lay g) (.tup a0 (j.ext (bD.laid g)))
 ·cases e
def fN(f:fD):fD:=λb S=>(f b S).bind λ(a,c)=>if a.length<=sizeLine then some (a,c) else none
def dN{M:Md}{ρ a:List Addr}{S:aA}{H c:Hp}{p:Addr}(x:bD ρ H a c)(st:ed M a S c)(b:c p=none):p∉a:=λm=>by
 obtain⟨k,g⟩:=List.getElem?_of_mem m
 have l:k<S.length:=st.len▸(gQs.mp g).1
 have:=st.obj k p _ g (gQe l)
 cases e:S[k] with
 |lst d=>rw[e] at this;obtain⟨f,h,_⟩:=this;rw[b] at h;cases h
 |frz d=>rw[e] at this;obtain⟨f,o,h,_⟩:=this;rw[b] at h;cases h
 |dct d=>rw[e] at this;obtain⟨f,h,_⟩:=this;rw[b] at h;cases h
 |fdc d=>rw[e] at this;obtain⟨f,o,h,_⟩:=this;rw[b] at h;cases h
def GP{j:List Expr}{f:fD}{pos}(h:PA X j (ve (md X) f)):PE X (.List j pos) (tL (md X) (fN f)):=iO (EE h) λv H Q n=>by
 obtain⟨o,m,S,d,u,ok,e,q⟩:=n
 obtain⟨⟨s,r⟩,l,e⟩:=aq e
 dsimp only at e
 split at e
 ·rename_i c
  obtain⟨rfl,rfl⟩:=bz e
  refine⟨o,m,S,s,r,ok,l,λg t H1 i a k=>⟨k.length▸c,λp b=> ?_⟩⟩
  exact q g p t _ (i.trans (bD.laid b)) (a.lay b) (i.grow p b) (dN i a b) a0 (k.ext (bD.laid b))
 ·cases e
end
section
variable{X:Cx}{a b c e:Expr}{pos:Pos}
def Bb:jL X (binaryOp .Add) (λx y H Q=>∃a b ys,x=.ref a/\y=.ref b/\gB X.K H a []/\gB X.K H b ys/\Q (.ref b) H):=by
 intro r s S H x y v u Q I J A h
 obtain⟨a,b,ys,rfl,rfl,ha,m,q⟩:=h
 cases J
 cases A
 obtain⟨G,P,C,_⟩:=I.tuple ha
 obtain⟨g,R,m,_⟩:=I.tuple m
 cases P
 obtain⟨⟨M,L,p,N⟩,w,z,n,o⟩:=id C
 obtain⟨⟨t,l,j,k⟩,i,d,B,f⟩:=id m
 simp only at z o d f
 subst z o d f
 exact concat_meets ⟨_,w,rfl⟩ ⟨_,i,rfl⟩ noFill_tuple_add seq_tuple_add PySem.F.slot_tuple_add PySem.F.entry_tuple_add (PySem.F.args_tuple_add_2 _ _)
   (tuple_addW0 a b _ g.toArray n B L l N k (by simp)) ⟨w,i,.ref b,H,I,rfl,q⟩
abbrev qW:=aA->D->D->Option D
def kz(M:Md)(r:R2)(o:qW):Prop:=∀{f:List Addr} {S:aA} {H:Hp} {x y d:D} {u v:V} {Q:VK},ed M f S H->Rel M f H x u->Rel M f H y v->o S x y=some d->(∀w g,bD f H f g->ed M f S g->Rel M f g d w->Q w g)->r u v H Q
noncomputable def bf(o:qW)(f g:aU):aU:=λh S=>(f h S).bind λ(x,j)=>(g h j).bind λ(y,i)=>(o i x y).bind λd=>some (d,i)
def nq{r:R2}{o:qW}{f g:aU}(I:kz (md X) r o)(h:PE X e (CJ r (tD (md X) f) (tD (md X) g))):PE X e (tD (md X) (bf o f g)):=iO h λR H Q B=>by
 obtain⟨G,n,S,d,N,ok,e,q⟩:=B
 obtain⟨⟨x,t⟩,u,e⟩:=aq e
 obtain⟨⟨y,J⟩,M,e⟩:=aq e
 obtain⟨P,L,e⟩:=aq e
 obtain⟨rfl,rfl⟩:=bz e
 refine⟨G,n,S,x,t,ok,u,λj v H1 s k K=>⟨j,n,t,y,J,ok.to s k,M,λl w H2 p i z=> ?_⟩⟩
 exact I i (K.ext p) z L λF H3 C m A=>q l F H3 ((s.trans p).trans C) m A
def bK:qW:=λ_ x y=>match x,y with
 |.int i,.int j=>some (.int (i+j))
 |.str i,.str j=>if i.length+j.length<=sizeLine then some (.str (i++j)) else none
 |.tup i,.tup j=>if i.length+j.length<=sizeLine then some (.tup (i++j)) else none
 |_,_=>none
abbrev GJ(K:PySem.W.Frag):R2:=λx y H Q=>(∃i j,x=.int i/\y=.int j/\Q (.int (i+j)) H)\/(∃i j,x=.str i/\y=.str j/\i.length+j.length<=sizeLine/\Q (.str (i++j)) H)∨
 (∃a b d,x=.ref a/\y=.ref b/\gB K H a []/\gB K H b d/\Q (.ref b) H)\/El K x y H Q
def DA:jL X (binaryOp .Add) (GJ X.K):=Fm.or (xB.or (Bb.or D1))
def E_{M:Md}:kz M (GJ M.K) bK:=by
 intro w S H x y d u v Q g t k e q
 cases t with
 |int i=>cases k <;>simp only[bK,reduceCtorEq] at e;cases e;exact .inl ⟨_,_,rfl,rfl,q _ _ bD.refl g (.int _)⟩
 | str i=>
   cases k <;>simp only[bK,reduceCtorEq] at e
   split at e <;>cases e
   exact .inr (.inl ⟨_,_,rfl,rfl,by assumption,q _ _ bD.refl g (.str _)⟩)
 | tup m h=>
   cases k with
   | tup n j=>
     simp only[bK] at e
     split at e <;>cases e
     rename_i r
     have s:=h.length
     have o:=j.length
     cases h with
     |nil=>exact .inr (.inr (.inl ⟨_,_,_,rfl,rfl,gB.of m,gB.of n,q _ _ bD.refl g (.tup n j)⟩))
     | cons h f=>
       refine .inr (.inr (.inr ⟨_,_,_,_,rfl,rfl,gB.of m,gB.of n,by simp,by rw[←s,←o];exact r,λz=> ?_,λz p l=> ?_⟩))
       · subst z
         cases j
         rw[List.append_nil] at q
         exact q _ _ bD.refl g (.tup m (.cons h f))
       · exact q _ _ (bD.laid l) (g.lay l) (.tup a0 ((aL.append (.cons h f) j).ext (bD.laid l)))
   |_=>simp only[bK,reduceCtorEq] at e
 |_=>simp only[bK,reduceCtorEq] at e
def J5{f g:aU}(d:PE X a (tD (md X) f))(h:PE X b (tD (md X) g)):PE X (.BinOp a .Add b pos) (tD (md X) (bf bK f g)):=nq E_ (oU DA d h)
def intD(C:Int->Int->Prop)[∀i j,Decidable (C i j)](k:Int->Int->D):qW:=λ_ x y=>match x,y with
 |.int i,.int j=>if C i j then some (k i j) else none
 |_,_=>none
def uD{M:Md}{C:Int->Int->Prop}[∀i j,Decidable (C i j)]{k:Int->Int->D}{g:Int->Int->V}(h:∀i j ρ H,Rel M ρ H (k i j) (g i j)):kz M (rI C g) (intD C k):=by
 intro ρ S H x y d u v Q l m f e q
 cases m <;>cases f <;>simp only[intD,reduceCtorEq] at e
 split at e <;>cases e
 exact⟨_,_,rfl,rfl,by assumption,q _ _ bD.refl l (h _ _ _ _)⟩
def kX{M:Md}{k:Int->Int->D}{g:Int->Int->V}(h:∀i j ρ H,Rel M ρ H (k i j) (g i j)):kz M (Ax g) (intD (λ_ _=>True) k):=by
 intro ρ S H x y d u v Q l m f e q
 cases m <;>cases f <;>simp only[intD,reduceCtorEq] at e
 rw[Qhq trivial] at e
 cases e
 exact⟨_,_,rfl,rfl,q _ _ bD.refl l (h _ _ _ _)⟩
instance{i j:Int}:Decidable (Cb i j):=by unfold Cb;infer_instance
instance{i j:Int}:Decidable (Bu i j):=by unfold Bu;infer_instance
open Classical in
noncomputable instance{i j:Int}:Decidable (IntMulOk i j):=Classical.propDecidable _
abbrev AX:qW:=intD (λ_ _=>True) λi j=>.int (i-j)
noncomputable abbrev kf:qW:=intD IntMulOk λi j=>.int (i*j)
abbrev oD:qW:=intD (λ_ j=>0<j) λi j=>.int (i%j)
abbrev wB:qW:=intD Cb λi j=>.int (i/j)
abbrev uq:qW:=intD Bu λi j=>.int (i^j.toNat)
def J_{f g:aU}(h:PE X a (tD (md X) f))(d:PE X b (tD (md X) g)):PE X (.BinOp a .Sub b pos) (tD (md X) (bf AX f g)):=nq (kX λi j _ _=>.int _) (oU Fd h d)
def KI{f g:aU}(h:PE X a (tD (md X) f))(d:PE X b (tD (md X) g)):PE X (.BinOp a .Mult b pos) (tD (md X) (bf kf f g)):=nq (uD λi j _ _=>.int _) (oU DX h d)
def Kf{f g:aU}(h:PE X a (tD (md X) f))(d:PE X b (tD (md X) g)):PE X (.BinOp a .Mod b pos) (tD (md X) (bf oD f g)):=nq (uD λi j _ _=>.int _) (oU F6 h d)
def Jm{f g:aU}(h:PE X a (tD (md X) f))(d:PE X b (tD (md X) g)):PE X (.BinOp a .FloorDiv b pos) (tD (md X) (bf wB f g)):=nq (uD λi j _ _=>.int _) (oU D3 h d)
def Kd{f g:aU}(h:PE X a (tD (md X) f))(d:PE X b (tD (md X) g)):PE X (.BinOp a .Pow b pos) (tD (md X) (bf uq f g)):=nq (uD λi j _ _=>.int _) (oU FP h d)
def kY(f:aU):aU:=λg S=>(f g S).bind λ(d,h)=>match d with
 |.int i=>some (.int (-i),h)
 |_=>none
def KQ{f:aU}(m:PE X a (tD (md X) f)):PE X (.UnaryOp .USub a pos) (tD (md X) (kY f)):=iO (Hb FC m) λs H Q k=>by
 obtain⟨n,i,S,d,r,ok,e,q⟩:=k
 obtain⟨⟨x,o⟩,h,e⟩:=aq e
 dsimp only at e
 split at e
 ·obtain⟨rfl,rfl⟩:=bz e
  refine⟨n,i,S,_,o,ok,h,λj v H1 l g p=> ?_⟩
  cases p
  exact⟨_,rfl,q _ _ _ l g (.int _)⟩
 ·cases e
def uC:D->Option V
 |.non=>some .non
 |.bl b=>some (.bl b)
 |.int i=>some (.int i)
 |.str x=>some (.str x)
 |_=>none
def ja{M:Md}{ρ:List Addr}{H:Hp}{d:D}{u v:V}(r:Rel M ρ H d u)(e:uC d=some v):u=v:=by
 cases r <;>simp[uC] at e <;>exact e
def gC(d:Bool):qW:=λ_ x y=>match uC x,uC y with
 |some u,some v=>if xq u v=true then some (.bl (if d then !decide (u=v) else decide (u=v))) else none
 |_,_=>none
def vy{f:Bool}{S:aA}{x y d:D}(e:gC f S x y=some d):∃u v,uC x=some u/\uC y=some v/\xq u v=true/\d=.bl (if f then !decide (u=v) else decide (u=v)):=by
 unfold gC at e
 split at e
 ·split at e <;>cases e
  exact⟨_,_,by assumption,by assumption,by assumption,rfl⟩
 ·cases e
def HE{M:Md}:kz M K1 (gC false):=by
 intro l S H x y d u v Q g j f e q
 obtain⟨m,n,i,h,k,rfl⟩:=vy e
 cases ja j i
 cases ja f h
 exact⟨k,q _ _ bD.refl g (.bl _)⟩
def KN{M:Md}:kz M Kt (gC true):=by
 intro l S H x y d u v Q g j f e q
 obtain⟨m,n,i,h,k,rfl⟩:=vy e
 cases ja j i
 cases ja f h
 exact⟨k,q _ _ bD.refl g (.bl _)⟩
abbrev FH:qW:=intD (λ_ _=>True) λi j=>.bl (decide (i<j))
abbrev Ju:qW:=intD (λ_ _=>True) λi j=>.bl (decide (i<=j))
abbrev G5:qW:=intD (λ_ _=>True) λi j=>.bl (decide (j<i))
abbrev Ji:qW:=intD (λ_ _=>True) λi j=>.bl (decide (j<=i))
def J7{M:Md}:kz M (Ax λi j=>.bl (decide (i<j))) FH:=kX λi j _ _=>.bl _
def J9{M:Md}:kz M (Ax λi j=>.bl (decide (i<=j))) Ju:=kX λi j _ _=>.bl _
def Kr{M:Md}:kz M (Ax λi j=>.bl (decide (j<i))) G5:=kX λi j _ _=>.bl _
def KZ{M:Md}:kz M (Ax λi j=>.bl (decide (j<=i))) Ji:=kX λi j _ _=>.bl _
def isNone:D->Bool
 |.non=>true
 |_=>false
def Bz(d:Bool):qW:=λ_ x y=>match y with
 |.non=>some (.bl (if d then !isNone x else isNone x))
 |_=>none
def AC{M:Md}{ρ:List Addr}{H:Hp}{d:D}{u:V}(r:Rel M ρ H d u):decide (u=V.non)=isNone d:=by
 cases r <;>simp[isNone]
def Jj{M:Md}:kz M (λx y H Q=>y=.non/\Q (.bl (decide (x=.non))) H) (Bz false):=by
 intro i S H x y d u v Q h g f e q
 cases f <;>simp only[Bz,reduceCtorEq] at e
 cases e
 rw[AC g]
 exact⟨rfl,q _ _ bD.refl h (.bl _)⟩
def KR{d:CmpOp}{r:R2}{o:qW}{f g:aU}(j:jL X (compareOp d) r)(i:kz (md X) r o)(l:PE X a (tD (md X) f))(h:PE X b (tD (md X) g))(k:behindInMarks d b=false):PE X (.Compare a [d] [b] pos) (tD (md X) (bf o f g)):=nq i (zr j l h k)
noncomputable def aQ(f:aU):ir:=λg S=>(f g S).bind λ(d,h)=>match d with
 |.bl k=>some (k,h)
 |_=>none
def pF{f:aU}{g:cp}{S h:aA}{k:Bool}(e:aQ f g S=some (k,h)):f g S=some (.bl k,h):=by
 obtain⟨⟨d,j⟩,i,e⟩:=aq e
 dsimp only at e
 split at e
 ·cases e;exact i
 ·cases e
def GS{r:R2}{o:qW}{f g:aU}(G:kz (md X) r o)(h:PT X e (CA (CJ r (tD (md X) f) (tD (md X) g)))):PT X e (tB (md X) (aQ (bf o f g))):=Iy h λR H Q B=>by
 obtain⟨F,n,S,d,M,ok,e,q⟩:=B
 have e:=pF e
 obtain⟨⟨x,t⟩,u,e⟩:=aq e
 obtain⟨⟨y,I⟩,L,e⟩:=aq e
 obtain⟨P,K,e⟩:=aq e
 obtain⟨rfl,rfl⟩:=bz e
 refine⟨F,n,S,x,t,ok,u,λj v H1 s k J=>⟨j,n,t,y,I,ok.to s k,L,λl w H2 p i z=> ?_⟩⟩
 exact G i (J.ext p) z K λN H3 C m A=>by cases A;exact⟨_,rfl,q l H3 ((s.trans p).trans C) m⟩
def Hr{d:CmpOp}{r:R2}{o:qW}{f g:aU}(j:jL X (compareOp d) r)(i:kz (md X) r o)(l:PE X a (tD (md X) f))(h:PE X b (tD (md X) g))(k:behindInMarks d b=false):PT X (.Compare a [d] [b] pos) (tB (md X) (aQ (bf o f g))):=GS i (kZ j l h k)
def xV(S:aA):D->Option Bool
 |.non=>some false
 |.bl b=>some b
 |.int i=>some (i !=0)
 |.str y=>if y.length<=sizeLine then some ((y.length:Int) !=0) else none
 |.tup d=>some (!d.isEmpty)
 | .ref k=>match S[k]? with
   |some (.lst d)=>some (!d.isEmpty)
   |some (.dct d)=>some (!d.isEmpty)
   |_=>none
 |.fn _=>none
def aL.isEmpty{M:Md}{ρ:List Addr}{H:Hp}{ds:List D}{vs:List V}(h:aL M ρ H ds vs):ds.isEmpty=vs.isEmpty:=by cases h <;>rfl
theorem bo.isEmpty{M:Md}{ρ:List Addr}{H:Hp}{ds:List (Key×D)}{vs:List (Key×V)}(h:bo M ρ H ds vs):ds.isEmpty=vs.isEmpty:=by
 cases ds with
 |nil=>cases h;rfl
 |cons p r=>obtain⟨v,t,e,_⟩:=h;subst e;rfl
def C_{M:Md}{ρ:List Addr}{S:aA}{H:Hp}{d:D}{u:V}{k:Bool}(st:ed M ρ S H)(r:Rel M ρ H d u)(e:xV S d=some k):E6 M.K u H k:=by
 cases r with
 |non=>cases e;rfl
 |bl=>cases e;rfl
 |int=>cases e;rfl
 |str=>simp only[xV] at e;split at e <;>cases e;exact⟨by assumption,rfl⟩
 |tup h j=>cases e;exact .inr (.inl ⟨_,gB.of h,by rw[j.isEmpty]⟩)
 |fn=>cases e
 | ref h=>
   simp only[xV] at e
   split at e
   · cases e
     obtain⟨f,i,g⟩:=st.obj _ _ _ h (by assumption)
     exact .inl ⟨f,gr.of i,by rw[g.isEmpty]⟩
   · cases e
     obtain⟨f,i,g⟩:=st.obj _ _ _ h (by assumption)
     exact .inr (.inr ⟨f,i,by rw[g.isEmpty]⟩)
   · cases e
def jO(f:aU):ir:=λh S=>(f h S).bind λ(d,g)=>(xV g d).bind λk=>some (k,g)
def Ks{f:aU}(n:PE X a (tD (md X) f))(he:∀d,isTrue a X.env d=(do let v←d;standAt a.pos;holding [v] (truthy v)):=by intro _;rfl):PT X a (tB (md X) (jO f)):=Iy (BD n he) λw H Q l=>by
 obtain⟨o,i,S,k,u,ok,e,q⟩:=l
 obtain⟨⟨x,p⟩,h,e⟩:=aq e
 obtain⟨s,t,e⟩:=aq e
 obtain⟨rfl,rfl⟩:=bz e
 exact⟨o,i,S,x,p,ok,h,λj v H1 m g r=>⟨s,C_ g r t,q _ _ m g⟩⟩
def wx(f:ir):ir:=λd S=>(f d S).bind λ(k,g)=>some (!k,g)
def Kc{f:ir}(m:PT X a (tB (md X) f)):PT X (.UnaryOp .Not a pos) (tB (md X) (wx f)):=Iy (EF m) λs H Q j=>by
 obtain⟨n,h,S,k,r,ok,e,q⟩:=j
 obtain⟨⟨p,o⟩,g,e⟩:=aq e
 obtain⟨rfl,rfl⟩:=bz e
 exact⟨n,h,S,p,o,ok,g,λi H1 l d=>q _ _ l d⟩
def qI(f g:ir):ir:=λd S=>(f d S).bind λ(k,h)=>if k=true then g d h else some (false,h)
def Gf(f g:ir):ir:=λd S=>(f d S).bind λ(k,h)=>if k=true then some (true,h) else g d h
def Jy{f:ir}(d:PT X a (tB (md X) f)):PW X (.BoolOp .And [a] pos) (tB (md X) f):=CO d
def Kb{f:ir}(d:PT X a (tB (md X) f)):PW X (.BoolOp .Or [a] pos) (tB (md X) f):=E8 d
def w_and{d:List Expr}{f g:ir}(u:PT X a (tB (md X) f))(w:PW X (.BoolOp .And (b::d) pos) (tB (md X) g)):PW X (.BoolOp .And (a::b::d) pos) (tB (md X) (qI f g)):=Ka (E4 u w) λy H Q r=>by
 obtain⟨v,m,S,k,p,ok,e,q⟩:=r
 obtain⟨⟨x,n⟩,o,e⟩:=aq e
 refine⟨v,m,S,x,n,ok,o,λj H1 l h=> ?_⟩
 dsimp only at e
 split at e
 ·rename_i c
  rw[Qhq c]
  exact⟨j,m,n,k,p,ok.to l h,e,λt H2 s i=>q _ _ (l.trans s) i⟩
 ·rename_i c
  rw[Quq c]
  obtain⟨rfl,rfl⟩:=bz e
  exact q _ _ l h
def w_or{d:List Expr}{f g:ir}(u:PT X a (tB (md X) f))(w:PW X (.BoolOp .Or (b::d) pos) (tB (md X) g)):PW X (.BoolOp .Or (a::b::d) pos) (tB (md X) (Gf f g)):=Ka (He u w) λy H Q r=>by
 obtain⟨v,m,S,k,p,ok,e,q⟩:=r
 obtain⟨⟨x,n⟩,o,e⟩:=aq e
 refine⟨v,m,S,x,n,ok,o,λj H1 l h=> ?_⟩
 dsimp only at e
 split at e
 ·rename_i c
  rw[Qhq c]
  obtain⟨rfl,rfl⟩:=bz e
  exact q _ _ l h
 ·rename_i c
  rw[Quq c]
  exact⟨j,m,n,k,p,ok.to l h,e,λt H2 s i=>q _ _ (l.trans s) i⟩
def uO(f g:aU):aU:=λh S=>(f h S).bind λ(d,i)=>match d with
 |.bl true=>g h i
 |.bl false=>some (.bl false,i)
 |_=>none
def Dw(f:aU):aU:=λg S=>(f g S).bind λ(d,h)=>match d with
 |.bl k=>some (.bl (!k),h)
 |_=>none
def J6{op}{f:aU}(h:PE X a (tD (md X) f)):PE X (.BoolOp op [a] pos) (tD (md X) f):=Fi h
def Ko{h:List Expr}{f g:aU}(z:PE X a (tD (md X) f))(B:PE X (.BoolOp .And (b::h) pos) (tD (md X) g)):PE X (.BoolOp .And (a::b::h) pos) (tD (md X) (uO f g)):=iO (Fu z B) λC H Q t=>by
 obtain⟨A,m,S,d,s,ok,e,q⟩:=t
 obtain⟨⟨x,n⟩,p,e⟩:=aq e
 refine⟨A,m,S,x,n,ok,p,λk v H1 l i o=> ?_⟩
 dsimp only at e
 split at e
 ·cases o
  refine⟨_,rfl,?_⟩
  rw[Qhq rfl]
  exact⟨k,m,n,d,s,ok.to l i,e,λu w H2 y j r=>q _ _ _ (l.trans y) j r⟩
 ·cases o
  refine⟨_,rfl,?_⟩
  rw[Quq Qtq]
  obtain⟨rfl,rfl⟩:=bz e
  exact q _ _ _ l i (.bl _)
 ·cases e
def KC{f:aU}(m:PE X a (tD (md X) f)):PE X (.UnaryOp .Not a pos) (tD (md X) (Dw f)):=iO (EW m) λs H Q k=>by
 obtain⟨n,i,S,d,r,ok,e,q⟩:=k
 obtain⟨⟨x,o⟩,h,e⟩:=aq e
 refine⟨n,i,S,x,o,ok,h,λj v H1 l g p=> ?_⟩
 dsimp only at e
 split at e
 ·cases p
  obtain⟨rfl,rfl⟩:=bz e
  exact⟨_,rfl,q _ _ _ l g (.bl _)⟩
 ·cases e
def sF(c:ir)(f g:aU):aU:=λd S=>(c d S).bind λ(k,h)=>if k=true then f d h else g d h
def Ky{h:ir}{f g:aU}(A:PT X c (tB (md X) h))(v:PE X a (tD (md X) f))(y:PE X b (tD (md X) g)):PE X (.IfExp c a b pos) (tD (md X) (sF h f g)):=iO (Cq A v y) λB H Q u=>by
 obtain⟨x,m,S,d,s,ok,e,q⟩:=u
 obtain⟨⟨z,r⟩,t,e⟩:=aq e
 refine⟨x,m,S,z,r,ok,t,λj H1 l k=> ?_⟩
 dsimp only at e
 split at e
 ·rename_i c
  rw[Qhq c]
  exact⟨j,m,r,d,s,ok.to l k,e,λp w H2 o i n=>q _ _ _ (l.trans o) i n⟩
 ·rename_i c
  rw[Quq c]
  exact⟨j,m,r,d,s,ok.to l k,e,λp w H2 o i n=>q _ _ _ (l.trans o) i n⟩
def qY:qW:=λS x y=>match x,y with
 |.tup xs,.int i=>lW xs i
 |.str z,.int i=>if z.length<=sizeLine then(lW z.cps.toList i).map λc=>.str ⟨#[c]⟩ else none
 | .ref k,.int i=>match S[k]? with
   |some (.lst xs)=>lW xs i
   |some (.frz xs)=>lW xs i
   |_=>none
 |_,_=>none
def Da{α f:Type}{xs:List α}{ys:List f}{i:Int}{x:α}(h:lW xs i=some x)(l:xs.length=ys.length):∃j:Nat,xs[j]?=some x/\∀y,ys[j]?=some y->lW ys i=some y:=by
 unfold lW at h
 obtain⟨j,e,h⟩:=aq h
 exact⟨j,h,λy d=>by unfold lW;rw[←l,e];exact d⟩
def aL.atI{M:Md}{ρ:List Addr}{H:Hp}{ds:List D}{vs:List V}{i:Int}{d:D}(h:aL M ρ H ds vs)(e:L2.lW ds i=some d):∃v,L2.lW vs i=some v/\Rel M ρ H d v:=by
 obtain⟨j,l,f⟩:=Da e h.length
 obtain⟨v,k,g⟩:=h.get l
 exact⟨v,f v k,g⟩
def Hd{M:Md}:kz M (KD M.K) qY:=by
 intro r S H x y d u v Q i p l e q
 cases l <;>cases p <;>simp only[qY,reduceCtorEq] at e
 ·split at e
  ·obtain⟨c,g,f⟩:=oQm.mp e
   subst f
   exact .inr (.inr ⟨_,_,c,rfl,rfl,by assumption,g,q _ _ bD.refl i (.str _)⟩)
  ·cases e
 ·rename_i h m
  obtain⟨v,g,f⟩:=m.atI e
  exact .inr (.inl ⟨_,_,_,v,rfl,rfl,gB.of h,g,q _ _ bD.refl i f⟩)
 ·rename_i h
  split at e
  ·obtain⟨n,k,j⟩:=i.obj _ _ _ h (by assumption)
   obtain⟨v,g,f⟩:=j.atI e
   exact .inl ⟨_,_,_,v,rfl,rfl,gr.of k,g,q _ _ bD.refl i f⟩
  ·obtain⟨n,o,k,j⟩:=i.obj _ _ _ h (by assumption)
   obtain⟨v,g,f⟩:=j.atI e
   exact .inl ⟨_,_,_,v,rfl,rfl,.inl (.inr ⟨o,k⟩),g,q _ _ bD.refl i f⟩
  ·cases e
def pd{f g:aU}(i:PE X a (tD (md X) f))(d:PE X b (tD (md X) g))(h:yQ b:=by intro _ _;rfl):PE X (.Subscript a b pos) (tD (md X) (bf qY f g)):=nq Hd (Ie F9 i d h)
end
inductive Tag where
 |tu|fr|st (k:Nat)|fz (k:Nat)
def xY(M:Md)(ρ:List Addr)(H:Hp)(a:Addr)(vs:List V):Tag->Prop
 |.tu=>gB M.K H a vs
 |.fr=>H a=some (.lst vs)/\a∉ρ
 |.st k=>ρ[k]?=some a/\H a=some (.lst vs)
 |.fz k=>ρ[k]?=some a/\∃o,H a=some (.frz o (.lst vs))
abbrev dg:=cp->aA->Option ((List D×Tag)×aA)
def tQ(M:Md)(f:dg):TE:=λj H Q=>∃d h S i t e,Ok M d h S j H/\f h S=some ((i,t),e)∧
 ∀b a g c,bD d H b c->ed M b e c->xY M b c a g t->aL M b c i g->Q (.ref a) c
def xY.sq{M:Md}{ρ:List Addr}{H:Hp}{a:Addr}{vs:List V}{t:Tag}(h:xY M ρ H a vs t):gr M.K H a vs\/gB M.K H a vs:=by
 cases t with
 |tu=>exact .inr h
 |fr=>exact .inl (gr.of h.1)
 |st k=>exact .inl (gr.of h.2)
 |fz k=>obtain⟨_,o,h⟩:=h;exact .inl (.inl (.inr ⟨o,h⟩))
def Tag.isL:Tag->Bool
 |.tu=>false
 |_=>true
def Tag.isM:Tag->Bool
 |.fr=>true
 |.st _=>true
 |_=>false
def xY.sqL{M:Md}{ρ:List Addr}{H:Hp}{a:Addr}{vs:List V}{t:Tag}(h:xY M ρ H a vs t)(c:t.isL=true):gr M.K H a vs:=by
 cases t with
 |tu=>cases c
 |fr=>exact gr.of h.1
 |st k=>exact gr.of h.2
 |fz k=>obtain⟨_,o,h⟩:=h;exact .inl (.inr ⟨o,h⟩)
def xY.sqM{M:Md}{ρ:List Addr}{H:Hp}{a:Addr}{vs:List V}{t:Tag}(h:xY M ρ H a vs t)(c:t.isM=true):H a=some (.lst vs):=by
 cases t with
 |tu=>cases c
 |fr=>exact h.1
 |st k=>exact h.2
 |fz k=>cases c
def xY.sqT{M:Md}{ρ:List Addr}{H:Hp}{a:Addr}{vs:List V}{t:Tag}(h:xY M ρ H a vs t)(c:t.isL=false):gB M.K H a vs:=by
 cases t with
 |tu=>exact h
 |fr=>cases c
 |st k=>cases c
 |fz k=>cases c
def Tag.stays(S:aA)(ds:List D):Tag->Prop
 |.st k=>S[k]?=some (.lst ds)
 |.fz k=>S[k]?=some (.frz ds)
 |_=>True
def gB.ext{K:PySem.W.Frag}{ρ b:List Addr}{H c:Hp}{a:Addr}{vs:List V}(e:bD ρ H b c)(h:gB K H a vs):gB K c a vs:=by
 rcases h with(h|⟨o,h⟩)|h
 ·exact .inl (.inl (e.keep _ _ h (.inr trivial)))
 ·exact .inl (.inr ⟨o,e.keep _ _ h (.inr trivial)⟩)
 ·exact .inr h
def xY.to{M:Md}{ρ d:List Addr}{S:aA}{H i:Hp}{a:Addr}{vs:List V}{ds:List D}{t:Tag}(h:xY M ρ H a vs t)(r:aL M ρ H ds vs)(e:bD ρ H d i)(st:ed M d S i)(c:t.stays S ds):∃b,xY M d i a b t/\aL M d i ds b:=by
 cases t with
 |tu=>exact⟨vs,gB.ext e h,r.ext e⟩
 |fr=>exact⟨vs,⟨e.keep _ _ h.1 (.inl h.2),λm=>(e.new a m).elim h.2 λz=>by have f:=h.1;rw[z] at f;cases f⟩,r.ext e⟩
 | st k=>
   have g:=bV e.pre h.1
   obtain⟨b,f,j⟩:=st.obj k a _ g c
   exact⟨b,⟨g,f⟩,j⟩
 | fz k=>
   have g:=bV e.pre h.1
   obtain⟨b,o,f,j⟩:=st.obj k a _ g c
   exact⟨b,⟨g,o,f⟩,j⟩
section
variable{X:Cx}{a b c e:Expr}{pos:Pos}
def kL(f:fD):dg:=λd S=>(f d S).bind λ(h,g)=>some ((h,.fr),g)
def Lk{f:fD}(h:PE X e (tL (md X) f)):PE X e (tQ (md X) (kL f)):=iO h λy H Q j=>by
 obtain⟨o,i,S,z,t,u,ok,e,q⟩:=j
 obtain⟨⟨d,p⟩,g,e⟩:=aq e
 obtain⟨s,rfl⟩:=bz e
 obtain⟨rfl,rfl⟩:=Prod.mk.inj s
 exact⟨o,i,S,d,p,ok,g,λk a A v x l w m n r=>q _ _ _ _ x l ⟨n,m⟩ r⟩
def ql(S:aA):D->Option (List D×Tag)
 |.tup d=>some (d,.tu)
 | .ref k=>match S[k]? with
   |some (.lst d)=>some (d,.st k)
   |some (.frz d)=>some (d,.fz k)
   |_=>none
 |_=>none
def bJ(f:aU):dg:=λh S=>(f h S).bind λ(d,g)=>(ql g d).bind λp=>some (p,g)
def Dd{M:Md}{ρ:List Addr}{S:aA}{H:Hp}{d:D}{v:V}{ds:List D}{t:Tag}(st:ed M ρ S H)(r:Rel M ρ H d v)(e:ql S d=some (ds,t)):∃a vs,v=.ref a/\xY M ρ H a vs t/\aL M ρ H ds vs:=by
 cases r with
 |tup h i=>simp only[ql] at e;cases e;exact⟨_,_,rfl,gB.of h,i⟩
 | ref h=>
   simp only[ql] at e
   split at e
   · rename_i q
     cases e
     obtain⟨vs,g,f⟩:=st.obj _ _ _ h q
     exact⟨_,vs,rfl,⟨h,g⟩,f⟩
   · rename_i q
     cases e
     obtain⟨vs,o,g,f⟩:=st.obj _ _ _ h q
     exact⟨_,vs,rfl,⟨h,o,g⟩,f⟩
   · cases e
 |_=>simp only[ql,reduceCtorEq] at e
def Ll{f:aU}(h:PE X e (tD (md X) f)):PE X e (tQ (md X) (bJ f)):=iO h λz H Q l=>by
 obtain⟨n,j,S,A,t,u,ok,e,q⟩:=l
 obtain⟨⟨d,o⟩,i,e⟩:=aq e
 obtain⟨⟨k,y⟩,s,e⟩:=aq e
 obtain⟨p,rfl⟩:=bz e
 obtain⟨rfl,rfl⟩:=Prod.mk.inj p
 refine⟨n,j,S,d,o,ok,i,λm v w x g r=> ?_⟩
 obtain⟨a,B,rfl,h1,h2⟩:=Dd g r s
 exact q _ _ _ _ x g h1 h2
def GF{f:dg}{p:Pos}(u:Gl X "len")(m:X.mg "len"=none)(v:PE X a (tQ (md X) f))(j:starEach [a] X.env= [(false,eval a X.env)]:=by rfl):
  PE X (.Call (.Name "len" p) [a] [] pos) (tD (md X) λg S=>(f g S).bind λ(p,i)=>some (.int p.1.length,i)):=
 iO (ju sV u m PySem.boot_len (cB v eE j) (he:=j)) λB H Q n=>by
  obtain⟨w,g,S,d,z,ok,e,q⟩:=n
  obtain⟨⟨⟨y,t⟩,i⟩,l,e⟩:=aq e
  obtain⟨rfl,rfl⟩:=bz e
  refine⟨w,g,S,y,t,i,ok,l,λo a k A x s h r=>⟨a,k,rfl,h.sq,?_⟩⟩
  have:=q _ (.int k.length) _ x s (by rw[←r.length];exact .int _)
  exact this
def iZ(f:dg):aU:=λd S=>(f d S).bind λ(p,g)=>some (.int p.1.length,g)
def tupQ(f:dg):aU:=λd S=>(f d S).bind λ(p,g)=>some (.tup p.1,g)
def IC{f:dg}{p:Pos}(w:Gl X "tuple")(n:X.mg "tuple"=none)(y:PE X a (tQ (md X) f))(k:starEach [a] X.env= [(false,eval a X.env)]:=by rfl)(s:∀g S ds t m,f g S=some ((ds,t),m)->t.isL=true):
  PE X (.Call (.Name "tuple" p) [a] [] pos) (tD (md X) (tupQ f)):=
 iO (sD qN w n (by rfl) (cB y eE k) (he:=k)) λF H Q o=>by
  obtain⟨z,g,S,d,m,ok,e,q⟩:=o
  obtain⟨⟨⟨ds,t⟩,A⟩,j,e⟩:=aq e
  obtain⟨rfl,rfl⟩:=bz e
  refine⟨z,g,S,ds,t,A,ok,j,λu a B C x v h r=>⟨a,B,rfl,.inl ⟨h.sqL (s _ _ _ _ _ j),λl i=> ?_⟩⟩⟩
  exact q _ _ _ (x.trans (bD.laid i)) (v.lay i) (.tup a0 (r.ext (bD.laid i)))
def Ii{f:fD}:∀g S ds t d,kL f g S=some ((ds,t),d)->t.isL=true:=λg S ds t d e=>by
 obtain⟨⟨h,j⟩,i,e⟩:=aq e
 cases e
 rfl
def jx(f:dg):dg:=λd S=>(f d S).bind λ(p,g)=>if p.2.isL=true then some (p,g) else none
def Ek{f:dg}:∀g S ds t d,jx f g S=some ((ds,t),d)->t.isL=true:=λg S ds t d e=>by
 obtain⟨⟨⟨h,i⟩,k⟩,j,e⟩:=aq e
 dsimp only at e
 split at e <;>cases e
 assumption
def KH{f:dg}(h:PE X e (tQ (md X) f)):PE X e (tQ (md X) (jx f)):=iO h λp H Q i=>by
 obtain⟨g,j,S,r,t,o,ok,e,q⟩:=i
 obtain⟨⟨⟨d,k⟩,n⟩,l,e⟩:=aq e
 dsimp only at e
 split at e
 ·obtain⟨m,rfl⟩:=bz e
  obtain⟨rfl,rfl⟩:=Prod.mk.inj m
  exact⟨g,j,S,d,k,n,ok,l,q⟩
 ·cases e
def BM:List D->Option (List Bool)
 | []=>some []
 |.bl b::r=>(BM r).bind λd=>some (b::d)
 |_::_=>none
theorem yk{M:Md}{ρ:List Addr}{H:Hp}:∀{ds:List D} {vs:List V} {bs:List Bool},aL M ρ H ds vs->BM ds=some bs->vs=bs.map V.bl
 | [],_,_,h,e=>by cases h;cases e;rfl
 | d::ds,_,_,h,e=>by
   cases d with
   | bl b=>
     simp only[BM] at e
     obtain⟨i,f,e⟩:=aq e
     cases e
     cases h with
     | cons h g=>
       cases h
       rw[yk g f]
       rfl
   |_=>cases e
def Dy(f:dg):aU:=λd S=>(f d S).bind λ(p,h)=>if p.2.isL=true then(BM p.1).bind λg=>some (.bl (g.all id),h) else none
def DU(f:dg):aU:=λd S=>(f d S).bind λ(p,h)=>if p.2.isL=true then(BM p.1).bind λg=>some (.bl (g.any id),h) else none
def K2{f:dg}{p:Pos}(A:X.calm=true)(s:Gl X "all")(j:X.mg "all"=none)(u:PE X a (tQ (md X) f))(g:starEach [a] X.env= [(false,eval a X.env)]:=by rfl):
  PE X (.Call (.Name "all" p) [a] [] pos) (tD (md X) (Dy f)):=
 iO (ju (zw A) s j (by rfl) (cB u eE g) (he:=g)) λF H Q m=>by
  obtain⟨v,k,S,d,B,ok,e,q⟩:=m
  obtain⟨⟨⟨y,t⟩,w⟩,i,e⟩:=aq e
  dsimp only at e
  split at e
  ·rename_i c
   obtain⟨l,z,e⟩:=aq e
   obtain⟨rfl,rfl⟩:=bz e
   refine⟨v,k,S,y,t,w,ok,i,λn a G C x o h r=>⟨a,l,rfl,?_,q _ _ _ x o (.bl _)⟩⟩
   rw[←yk r z]
   exact h.sqL c
  ·cases e
def J8{f:dg}{p:Pos}(A:X.calm=true)(s:Gl X "any")(j:X.mg "any"=none)(u:PE X a (tQ (md X) f))(g:starEach [a] X.env= [(false,eval a X.env)]:=by rfl):
  PE X (.Call (.Name "any" p) [a] [] pos) (tD (md X) (DU f)):=
 iO (ju (zG A) s j (by rfl) (cB u eE g) (he:=g)) λF H Q m=>by
  obtain⟨v,k,S,d,B,ok,e,q⟩:=m
  obtain⟨⟨⟨y,t⟩,w⟩,i,e⟩:=aq e
  dsimp only at e
  split at e
  ·rename_i c
   obtain⟨l,z,e⟩:=aq e
   obtain⟨rfl,rfl⟩:=bz e
   refine⟨v,k,S,y,t,w,ok,i,λn a G C x o h r=>⟨a,l,rfl,?_,q _ _ _ x o (.bl _)⟩⟩
   rw[←yk r z]
   exact h.sqL c
  ·cases e
def DH(S:aA)(T:String):D->Option Bool
 |.non=>some (T=="NoneType")
 |.bl _=>some (T=="bool" ||T=="int")
 |.int _=>some (T=="int")
 |.str _=>some (T=="str")
 |.tup _=>some (T=="tuple")
 | .ref k=>match S[k]? with
   |some (.lst _)=>some (T=="list")
   |some (.frz _)=>some (T=="list")
   |some (.dct _)=>some (T=="dict")
   |_=>none
 |.fn _=>none
def HU(K:PySem.W.Frag)(T:String):Prop:=(PySem.W.kitOne K (.type "NoneType") (.type T)=some (T=="NoneType"))/\(PySem.W.kitOne K (.type "bool") (.type T)=some (T=="bool" ||T=="int"))/\(PySem.W.kitOne K (.type "int") (.type T)=some (T=="int"))/\(PySem.W.kitOne K (.type "str") (.type T)=some (T=="str"))∧
 (PySem.W.kitOne K (.type "tuple") (.type T)=some (T=="tuple"))/\(PySem.W.kitOne K (.type "list") (.type T)=some (T=="list"))/\(PySem.W.kitOne K (.type "dict") (.type T)=some (T=="dict"))
def mz(T:String)(f:aU):aU:=λh S=>(f h S).bind λ(d,g)=>(DH g T d).bind λk=>some (.bl k,g)
def Kz{T:String}{l:Expr}{f:aU}{p:Pos}(C:HU X.K T)(N:Gl X "isinstance")(z:X.mg "isinstance"=none)(R:PE X a (tD (md X) f))(G:PE X l (tC (.ty T)))(t:starEach [a,l] X.env= [(false,eval a X.env),(false,eval l X.env)]:=by rfl)(j:starEach [l] X.env= [(false,eval l X.env)]:=by rfl):
  PE X (.Call (.Name "isinstance" p) [a,l] [] pos) (tD (md X) (mz T f)):=
 iO (ju A8 N z boot_isinstance (cB R (cB G eE j) (by rw[t,j])) (he:=by rw[t,j]) (hpl:=by rw[j];rfl)) λσ H Q F=>by
  obtain⟨U,A,S,d,S',ok,e,q⟩:=F
  obtain⟨⟨J,W⟩,y,e⟩:=aq e
  obtain⟨k,i,e⟩:=aq e
  obtain⟨rfl,rfl⟩:=bz e
  obtain⟨Z,M,Y,L,P,u,B⟩:=C
  refine⟨U,A,S,J,W,ok,y,λI v H' x s r=> ?_⟩
  have g:=q _ _ _ x s (.bl _)
  cases r with
  |non=>cases i;exact⟨_,_,_,_,rfl,.non,Z,g⟩
  |bl=>cases i;exact⟨_,_,_,_,rfl,.bl _,M,g⟩
  |int=>cases i;exact⟨_,_,_,_,rfl,.int _,Y,g⟩
  |str=>cases i;exact⟨_,_,_,_,rfl,.str _,L,g⟩
  |tup h t=>cases i;exact⟨_,_,_,_,rfl,.tup h,P,g⟩
  |fn=>cases i
  | ref h=>
    simp only[DH] at i
    split at i
    · rename_i m;cases i;obtain⟨w,n,_⟩:=s.obj _ _ _ h m;exact⟨_,_,_,_,rfl,.lst n,u,g⟩
    · rename_i m;cases i;obtain⟨w,o,n,_⟩:=s.obj _ _ _ h m;exact⟨_,_,_,_,rfl,.frz n,u,g⟩
    · rename_i m;cases i;obtain⟨w,n,_⟩:=s.obj _ _ _ h m;exact⟨_,_,_,_,rfl,.dK n,B,g⟩
    · cases i
abbrev Em:=List D->Option D
def Ba(M:Md)(r:List V->Hp->VK->Prop)(o:Em):Prop:=∀{f:List Addr} {S:aA} {H:Hp} {h:List D} {d:D} {g:List V} {Q:VK},ed M f S H->aL M f H h g->o h=some d->(∀w,Rel M f H d w->Q w H)->r g H Q
def AU(o:Em)(f:fD):aU:=λh S=>(f h S).bind λ(g,i)=>(o g).bind λd=>some (d,i)
def Jk{r:List V->Hp->VK->Prop}{o:Em}{f:fD}(t:Ba (md X) r o)(h:PE X e (IS r (ve (md X) f))):PE X e (tD (md X) (AU o f)):=iO h λA H Q m=>by
 obtain⟨p,k,S,d,y,ok,e,q⟩:=m
 obtain⟨⟨l,s⟩,j,e⟩:=aq e
 obtain⟨z,v,e⟩:=aq e
 obtain⟨rfl,rfl⟩:=bz e
 exact⟨p,k,S,l,s,ok,j,λi B H1 n g u=>t g u v λw x=>q i w H1 n g x⟩
def Dg:Em
 | [.int i]=>some (.int (if i<0 then -i else i))
 |_=>none
def maxD:Em
 | [.int i,.int j]=>some (.int (if j>i then j else i))
 |_=>none
def minD:Em
 | [.int i,.int j]=>some (.int (if j<i then j else i))
 |_=>none
def intOfD:Em
 | [.int i]=>some (.int i)
 | [.bl k]=>some (.int (if k then 1 else 0))
 |_=>none
def Jv{M:Md}:Ba M (λxs H Q=>∃i,xs= [.int i]/\Q (.int (if i<0 then -i else i)) H) Dg:=by
 intro h S H xs d g Q j r e q
 unfold Dg at e
 split at e <;>cases e
 cases r with|cons r f=>cases f;cases r;exact⟨_,rfl,q _ (.int _)⟩
def Js{M:Md}:Ba M (λxs H Q=>∃i j,xs= [.int i,.int j]/\Q (.int (if j>i then j else i)) H) maxD:=by
 intro k S H xs d h Q l r e q
 unfold maxD at e
 split at e <;>cases e
 cases r with|cons r f=>cases f with|cons g f=>cases f;cases r;cases g;exact⟨_,_,rfl,q _ (.int _)⟩
def Jc{M:Md}:Ba M (λxs H Q=>∃i j,xs= [.int i,.int j]/\Q (.int (if j<i then j else i)) H) minD:=by
 intro k S H xs d h Q l r e q
 unfold minD at e
 split at e <;>cases e
 cases r with|cons r f=>cases f with|cons g f=>cases f;cases r;cases g;exact⟨_,_,rfl,q _ (.int _)⟩
def HL{M:Md}:Ba M (λxs H Q=>(∃i,xs= [.int i]/\Q (.int i) H)\/∃k,xs= [.bl k]/\Q (.int (if k then 1 else 0)) H) intOfD:=by
 intro h S H xs d g Q j r e q
 unfold intOfD at e
 split at e <;>cases e
 ·cases r with|cons r f=>cases f;cases r;exact .inl ⟨_,rfl,q _ (.int _)⟩
 ·cases r with|cons r f=>cases f;cases r;exact .inr ⟨_,rfl,q _ (.int _)⟩
def gI:List D->Option (List V)
 | []=>some []
 |d::r=>(uC d).bind λv=>(gI r).bind λf=>some (v::f)
def lj{d:D}{v:V}(e:uC d=some v):fm v=true:=by
 cases d <;>simp[uC] at e <;>subst e <;>rfl
theorem gN{M:Md}{ρ:List Addr}{H:Hp}:∀{ds:List D} {d vs:List V},aL M ρ H ds d->gI ds=some vs->d=vs/\vs.all fm=true
 |_,_,_,.nil,e=>by cases e;exact⟨rfl,rfl⟩
 | _,_,_,.cons h hs,e=>by
   obtain⟨v,f,e⟩:=aq e
   obtain⟨vs,i,e⟩:=aq e
   cases e
   obtain⟨j,g⟩:=gN hs i
   rw[ja h f,j]
   exact⟨rfl,by rw[List.all_cons,lj f,g];rfl⟩
def zo(d:Bool)(f:aU)(g:dg):aU:=λi S=>(f i S).bind λ(x,k)=>(g i k).bind λ(p,j)=>(uC x).bind λv=>(gI p.1).bind λh=>some (.bl (if d then !B5 v h else B5 v h),j)
def HG{i:Bool}{f:aU}{g:dg}(h:PE X e (CJ (IL X.K i) (tD (md X) f) (tQ (md X) g))):PE X e (tD (md X) (zo i f g)):=iO h λR H Q y=>by
 obtain⟨F,m,S,d,P,ok,e,q⟩:=y
 obtain⟨⟨x,o⟩,r,e⟩:=aq e
 obtain⟨⟨⟨G,t⟩,J⟩,N,e⟩:=aq e
 obtain⟨v,p,e⟩:=aq e
 obtain⟨U,w,e⟩:=aq e
 obtain⟨rfl,rfl⟩:=bz e
 refine⟨F,m,S,x,o,ok,r,λk u H1 n l L=>⟨k,m,o,G,t,J,ok.to n l,N,λz a I H2 A j B s=> ?_⟩⟩
 cases ja L p
 obtain⟨C,M⟩:=gN s w
 subst C
 exact⟨a,I,rfl,B.sq,lj p,M,q _ _ _ (n.trans A) j (.bl _)⟩
def uo{f:aU}{t:TE}(n:∀d H Q,tD (md X) f d H Q->t d H Q)(h:PT X e (CA t)):PT X e (tB (md X) (aQ f)):=Iy h λd H Q ⟨g,j,S,k,i,ok,e,q⟩=>
 n _ _ _ ⟨g,j,S,.bl k,i,ok,pF e,λl v o x m r=>by cases r;exact⟨k,rfl,q _ _ x m⟩⟩
def Es{h:Bool}{f:aU}{g:dg}:∀l H Q,tD (md X) (zo h f g) l H Q->CJ (IL X.K h) (tD (md X) f) (tQ (md X) g) l H Q:=λl H Q y=>by
 obtain⟨F,m,S,d,P,ok,e,q⟩:=y
 obtain⟨⟨x,o⟩,r,e⟩:=aq e
 obtain⟨⟨⟨G,t⟩,J⟩,N,e⟩:=aq e
 obtain⟨v,p,e⟩:=aq e
 obtain⟨R,w,e⟩:=aq e
 obtain⟨rfl,rfl⟩:=bz e
 refine⟨F,m,S,x,o,ok,r,λj u H1 n k L=>⟨j,m,o,G,t,J,ok.to n k,N,λz a I H2 A i B s=> ?_⟩⟩
 cases ja L p
 obtain⟨C,M⟩:=gN s w
 subst C
 exact⟨a,I,rfl,B.sq,lj p,M,q _ _ _ (n.trans A) i (.bl _)⟩
def Lh{f:aU}{g:dg}(i:PE X a (tD (md X) f))(d:PE X b (tQ (md X) g))(h:behindInMarks .In b=false:=by rfl):PE X (.Compare a [.In] [b] pos) (tD (md X) (zo false f g)):=HG (zr rR i d h)
def La{f:aU}{g:dg}(i:PE X a (tD (md X) f))(d:PE X b (tQ (md X) g))(h:behindInMarks .In b=false:=by rfl):PT X (.Compare a [.In] [b] pos) (tB (md X) (aQ (zo false f g))):=uo Es (kZ rR i d h)
def IJ{f:aU}{g:dg}(i:PE X a (tD (md X) f))(d:PE X b (tQ (md X) g))(h:behindInMarks .NotIn b=false:=by rfl):PT X (.Compare a [.NotIn] [b] pos) (tB (md X) (aQ (zo true f g))):=uo Es (kZ uw i d h)
end
inductive Out where
 |nx (Γ:cp) (S:aA)|bk (Γ:cp) (S:aA)|ct (Γ:cp) (S:aA)|rt (d:D) (S:aA)|rl (ds:List D) (S:aA)
abbrev cx:=cp->aA->Option Out
def uI(M:Md)(ρ:List Addr)(H:Hp)(D:Ends):Out->Prop
 |.nx f g=>∀b e c,bD ρ H b c->Ok M b f g e c->D.nx e c
 |.bk f g=>∀b e c,bD ρ H b c->Ok M b f g e c->D.bk e c
 |.ct f g=>∀b e c,bD ρ H b c->Ok M b f g e c->D.ct e c
 |.rt d g=>∀b v c,bD ρ H b c->ed M b g c->Rel M b c d v->D.rt v c
 |.rl i g=>∀b a h c,bD ρ H b c->ed M b g c->H a=none->a∉b->c a=some (.lst h)->aL M b c i h->D.rt (.ref a) c
def uI.to{M:Md}{ρ c:List Addr}{H H1:Hp}{D:Ends}{o:Out}(h:uI M ρ H D o)(e:bD ρ H c H1):uI M c H1 D o:=by
 cases o with
 |nx=>exact λb d f x ok=>h _ _ _ (e.trans x) ok
 |bk=>exact λb d f x ok=>h _ _ _ (e.trans x) ok
 |ct=>exact λb d f x ok=>h _ _ _ (e.trans x) ok
 |rt=>exact λb v f x g r=>h _ _ _ (e.trans x) g r
 |rl=>exact λb a l f x g j i k r=>h _ _ _ _ (e.trans x) g (e.grow _ j) i k r
def tS(M:Md)(g:cx):TS:=λD c H=>∃a b S o,Ok M a b S c H/\g b S=some o/\uI M a H D o
section
variable{X:Cx}{a b c e:Expr}{pos:Pos}{st:Stmt}{rest body other:List Stmt}
def gD:cx:=λd S=>some (.nx d S)
def Hv:qH X [] (tS (md X) gD):=GB DT λD g H ⟨d,f,S,o,ok,e,q⟩=>by cases e;exact q _ _ _ bD.refl ok
noncomputable def aE(f g:cx):cx:=λh S=>(f h S).bind λo=>match o with
 |.nx d i=>g d i
 |o=>some o
def xE{f g:cx}(s:PS X st (tS (md X) f))(r:qH X rest (tS (md X) g)):qH X (st::rest) (tS (md X) (aE f g)):=GB (Bj s r) λD v H m=>by
 obtain⟨t,l,S,o,ok,e,q⟩:=m
 obtain⟨j,k,e⟩:=aq e
 refine⟨t,l,S,j,ok,k,?_⟩
 cases j with
 |nx d u=>exact λh n H1 p i=>⟨h,d,u,o,i,e,q.to p⟩
 |bk=>cases e;exact q
 |ct=>cases e;exact q
 |rt=>cases e;exact q
 |rl=>cases e;exact q
def A5{f:cx}(d:PS X st (tS (md X) f)):qH X [st] (tS (md X) f):=Dv d
def never:cx:=λ_ _=>none
def Ij:PS X st (tS (md X) never):=As BR λD g H ⟨d,f,S,o,ok,e,q⟩=>by cases e
def wM(f:aU):cx:=λd S=>(f d S).bind λ(_,g)=>some (.nx d g)
def IZ{f:aU}(h:PE X e (tD (md X) f))(j:swapsWith e none pos.line X.env=pure false:=by rfl):PS X (.Expr e pos) (tS (md X) (wM f)):=As (Df h j) λD s H k=>by
 obtain⟨m,i,S,o,ok,e,q⟩:=k
 obtain⟨⟨d,n⟩,g,e⟩:=aq e
 cases e
 exact⟨m,i,S,d,n,ok,g,λl v p x st r=>q _ _ _ x (ok.to x st)⟩
noncomputable def cz(f:aU):cx:=λg S=>(f g S).bind λ(d,h)=>some (.rt d h)
def Cn{f:aU}(h:PE X e (tD (md X) f)):PS X (.Return (some e) pos) (tS (md X) (cz f)):=As (Bo h) λD m H i=>by
 obtain⟨g,j,S,o,ok,e,q⟩:=i
 obtain⟨⟨d,l⟩,k,e⟩:=aq e
 cases e
 exact⟨g,j,S,d,l,ok,k,q⟩
noncomputable def D6(f:fD):cx:=λd S=>(f d S).bind λ(h,g)=>some (.rl h g)
def JC{f:fD}(h:PE X e (tL (md X) f)):PS X (.Return (some e) pos) (tS (md X) (D6 f)):=As (Bo h) λD m H i=>by
 obtain⟨g,j,S,o,ok,e,q⟩:=i
 obtain⟨⟨d,l⟩,k,e⟩:=aq e
 cases e
 exact⟨g,j,S,d,l,ok,k,q⟩
def ft(c:ir)(f g:cx):cx:=λd S=>(c d S).bind λ(k,h)=>if k=true then f d h else g d h
def JN{h:ir}{f g:cx}(u:PT X c (tB (md X) h))(r:qH X body (tS (md X) f))(t:qH X other (tS (md X) g)):PS X (.If c body other pos) (tS (md X) (ft h f g)):=As (HM u r t) λD v H p=>by
 obtain⟨s,l,S,o,ok,e,q⟩:=p
 obtain⟨⟨k,m⟩,n,e⟩:=aq e
 refine⟨s,l,S,k,m,ok,n,λd H1 j i=> ?_⟩
 dsimp only at e
 split at e
 ·rename_i c
  rw[Qhq c]
  exact⟨d,l,m,o,ok.to j i,e,q.to j⟩
 ·rename_i c
  rw[Quq c]
  exact⟨d,l,m,o,ok.to j i,e,q.to j⟩
abbrev jB:=D->cp->aA->Option (cp×aA)
abbrev oy:=List D->cp->aA->Option (cp×aA)
def tG(M:Md)(g:jB):TG:=λv n H Q=>∃j l S d h m,Ok M j l S n H/\Rel M j H d v/\g d l S=some (h,m)/\∀i f k,bD j H i k->Ok M i h m f k->Q f k
def IQ(M:Md)(g:oy):CW:=λn o H Q=>∃i k S m f l,Ok M i k S o H/\aL M i H m n/\g m k S=some (f,l)/\∀h d j,bD i H h j->Ok M h f l d j->Q d j
def IY{t t':TG}(h:PG X e t)(w:∀v f H Q,t' v f H Q->t v f H Q):PG X e t':=λd s f H v u Q I r q=>h d s f H v u Q I r (w _ _ _ _ q)
def Ha{g:List Expr}{t t':CW}(h:CM X g t)(w:∀v f H Q,t' v f H Q->t v f H Q):CM X g t':=λd s f H v u Q I r q=>h d s f H v u Q I r (w _ _ _ _ q)
def bU(i:Nat):jB:=λd f S=>some (f.set i (some d),S)
def A6{i:Nat}(h:PG X e (lg i)):PG X e (tG (md X) (bU i)):=IY h λv l H Q f=>by
 obtain⟨j,k,S,d,g,m,ok,r,e,q⟩:=f
 cases e
 exact q _ _ _ bD.refl ⟨ok.en.set r,ok.st⟩
def dw:oy:=λf d S=>match f with
 | []=>some (d,S)
 |_=>none
def aF(f:jB)(g:oy):oy:=λk i S=>match k with
 |d::r=>(f d i S).bind λ(h,j)=>g r h j
 | []=>none
def I_:CM X [] (IQ (md X) dw):=Ha Dh λh j H Q d=>by
 obtain⟨g,i,S,l,f,k,ok,r,e,q⟩:=d
 cases r with
 |nil=>cases e;exact⟨rfl,q _ _ _ bD.refl ok⟩
 |cons=>cases e
def Ig{h:List Expr}{f:jB}{g:oy}(A:PG X e (tG (md X) f))(z:CM X h (IQ (md X) g))(s:(assignEach (e::h) X.env).map (·.2)=assign e X.env::(assignEach h X.env).map (·.2):=by rfl):CM X (e::h) (IQ (md X) (aF f g)):=
 Ha (A_ A z s) λI F H Q v=>by
  obtain⟨B,p,S,G,j,t,ok,r,e,q⟩:=v
  cases r with
  |nil=>cases e
  | cons r C=>
    obtain⟨⟨d,n⟩,o,e⟩:=aq e
    refine⟨_,_,rfl,B,p,S,_,d,n,ok,r,o,λi y H1 m l=>⟨i,d,n,_,j,t,l,C.ext m,e,λx u H2 w k=>q _ _ _ (m.trans w) k⟩⟩
def jR(g:oy):jB:=λd f S=>match d with
 |.tup h=>g h f S
 |_=>none
def nG(n:Nat)(g:oy):oy:=λd f S=>if d.length=n then g d f S else none
def Kx{f:List Expr}{k:Nat}{g:oy}{n:Nat}(t:X.calm=true)(h:CM X f (IQ (md X) g))(p:(assignEach f X.env).length=n:=by rfl)(j:(assignEach f X.env).findIdx? (·.1)=none:=by rfl):
  PG X (.Tuple f k pos) (tG (md X) (jR (nG n g))):=IY (EJ t h p j) λv u H Q ⟨s,m,S,d,i,o,ok,r,e,q⟩=>by
 cases r with
 | tup h l=>
   simp only[jR,nG] at e
   split at e
   · rename_i c
     exact⟨_,_,rfl,gB.of h,by rw[←l.length];exact c,s,m,S,_,i,o,ok,l,e,q⟩
   · cases e
 |_=>cases e
def oI(f:aU)(g:jB):cx:=λi S=>(f i S).bind λ(d,k)=>(g d i k).bind λ(h,j)=>some (.nx h j)
def HZ{f:aU}{g:jB}:∀D l H,tS (md X) (oI f g) D l H->Ap (tD (md X) f) (tG (md X) g) D l H:=λD l H t=>by
 obtain⟨x,m,S,o,ok,e,q⟩:=t
 obtain⟨⟨d,p⟩,r,e⟩:=aq e
 obtain⟨⟨j,y⟩,A,e⟩:=aq e
 cases e
 exact⟨x,m,S,d,p,ok,r,λh v H1 n i z=>⟨h,m,p,d,j,y,ok.to n i,z,A,λw s H2 u k=>q _ _ _ (n.trans u) k⟩⟩
def KJ{d:Expr}{f:aU}{g:jB}(he:PE X e (tD (md X) f))(h:PG X d (tG (md X) g))(i:swapsWithSole [d] e pos.line X.env=pure false:=by rfl)(k:swappedStores [d] e X.env=pure none:=by rfl)
  (j:(assignEach [d] X.env).map (·.2)= [assign d X.env]:=by rfl):PS X (.Assign [d] e pos) (tS (md X) (oI f g)):=As (EK he h i k j) HZ
noncomputable def a_(i:Nat)(f:aU):cx:=λg S=>(f g S).bind λ(d,h)=>some (.nx (g.set i (some d)) h)
def GX{i:Nat}{f:aU}(h:PS X st (Ap (tD (md X) f) (lg i))):PS X st (tS (md X) (a_ i f)):=As h λD t H n=>by
 obtain⟨p,l,S,o,ok,e,q⟩:=n
 obtain⟨⟨d,r⟩,k,e⟩:=aq e
 cases e
 exact⟨p,l,S,d,r,ok,k,λm v H1 j g s=>q _ _ _ j ⟨(ok.en.ext j).set s,g⟩⟩
abbrev qG:=cp->aA->Option ((List D×(aA->Prop))×aA)
def Walks(M:Md)(J:It)(ρ:List Addr)(H:Hp)(ds:List D)(W:aA->Prop):Prop:=∀(i:Nat) (f:List Addr) (j:aA) (h:Hp),bD ρ H f h->ed M f j h->W j→
 (∀d,ds[i]?=some d->J.go i h/\∀x g,J.yld i h x g->bD f h f g/\ed M f j g/\Rel M f g d x)/\(i=ds.length->J.stop i h)
def tI(M:Md)(f:qG):TI:=λl H R=>∃h j S k W i,Ok M h j S l H/\f j S=some ((k,W),i)/\∀d J g,bD h H d g->ed M d i g->Walks M J d g k W->R J g
def Gu{g:Expr}{t t':TI}(h:PI X g e t)(w:∀f H R,t' f H R->t f H R):PI X g e t':=λd s f H R I q=>h d s f H R I (w _ _ _ q)
def F3{u l:Expr}{r:TE}(y:PE X l r):PI X u l (λj H R=>r j H λx H1=>∃a,x=.ref a/\((∃xs,gr X.K H1 a xs)/\R (KO X.K a) H1\/(∃xs,gB X.K H1 a xs)/\R (Km X.K a) H1)):=by
 intro i s j H R I h
 refine bT (y i s j H _ I h) λv d z=> ?_
 obtain⟨x,H1,f,A,m⟩:=z
 obtain⟨a,e,m⟩:=m
 subst e
 cases A
 rcases m with⟨⟨xs,k⟩,q⟩|⟨⟨xs,k⟩,q⟩
 ·obtain⟨g,t,p,w⟩:=f.list k
  refine wpAny_pyIter_list p.isList ?_
  refine⟨d.heap.objs.size,[d.heap.objs.size],_,_,H1,rfl,f.kept (t':=d.toks) λb o e=>Qcq _ e,AA a _,⟨_,Qrq _ rfl,rfl,rfl⟩,λb n=> ?_,q⟩
  have e:b=d.heap.objs.size:=by simpa using n
  subst e
  exact f.fpOk (Qmq _) (f.hok.fresh (Qmq _))
 ·obtain⟨g,t,p,w⟩:=f.tuple k
  refine wpAny_pyIter_tuple (show d.heap.IsTuple a g.toArray from p) ?_
  refine⟨d.heap.objs.size,[d.heap.objs.size],_,_,H1,rfl,f.kept (t':=d.toks) λb o e=>Qcq _ e,xN a _,⟨_,Qrq _ rfl,rfl,rfl⟩,λb n=> ?_,q⟩
  have e:b=d.heap.objs.size:=by simpa using n
  subst e
  exact f.fpOk (Qmq _) (f.hok.fresh (Qmq _))
def qm(f:dg):qG:=λg S=>(f g S).bind λ(p,h)=>some ((p.1,λd=>p.2.stays d p.1),h)
def Kw{I l:Expr}{f:dg}(L:PE X l (tQ (md X) f)):PI X I l (tI (md X) (qm f)):=Gu (F3 L) λZ H R J=>by
 obtain⟨M,G,S,ds,W,U,ok,e,q⟩:=J
 obtain⟨⟨⟨u,t⟩,N⟩,F,e⟩:=aq e
 obtain⟨Q,rfl⟩:=bz e
 obtain⟨rfl,rfl⟩:=Prod.mk.inj Q
 refine⟨M,G,S,u,t,N,ok,F,λK a C Y x st h r=>⟨a,rfl,?_⟩⟩
 cases c:t.isL with
 | true=>
   refine .inl ⟨⟨C,h.sqL c⟩,q _ _ _ x st λi y P H2 z j w=> ?_⟩
   obtain⟨g,p,n⟩:=h.to r z j w
   have m:=p.sqL c
   refine⟨λd A=> ?_,λB=>⟨g,m,by rw[B,n.length];exact Qmq _⟩⟩
   obtain⟨v,o,s⟩:=n.get A
   refine⟨⟨g,v,m,o⟩,λx H3 k=> ?_⟩
   obtain⟨rfl,k⟩:=k
   have:=k g m
   rw[o] at this
   cases this
   exact⟨bD.refl,j,s⟩
 | false=>
   refine .inr ⟨⟨C,h.sqT c⟩,q _ _ _ x st λi y P H2 z j w=> ?_⟩
   obtain⟨g,p,n⟩:=h.to r z j w
   have m:=p.sqT c
   refine⟨λd A=> ?_,λB=>⟨g,m,by rw[B,n.length];exact Qmq _⟩⟩
   obtain⟨v,o,s⟩:=n.get A
   refine⟨⟨g,v,m,o⟩,λx H3 k=> ?_⟩
   obtain⟨rfl,k⟩:=k
   have:=k g m
   rw[o] at this
   cases this
   exact⟨bD.refl,j,s⟩
def oE(lo hi:Int):List D:=(List.range (hi-lo).toNat).map λ(i:Nat)=>D.int (lo+(i:Int))
def t6(f:aU):qG:=λg S=>(f g S).bind λ(d,h)=>match d with
 |.int j=>if -(2^62)<=j/\j<2^62 then some ((oE 0 j,λ_=>True),h) else none
 |_=>none
def zB{M:Md}{ρ:List Addr}{H:Hp}{lo hi:Int}:Walks M (Io lo (hi-lo).toNat) ρ H (oE lo hi) (λ_=>True):=λi n p H2 o g w=>by
 unfold oE
 refine⟨λd j=> ?_,λhi=>by rw[lQm,QVq] at hi;exact Nat.le_of_eq hi.symm⟩
 rw[gQm] at j
 obtain⟨k,m,rfl⟩:=oQm.mp j
 have f:=(gQs.mp m)
 obtain⟨f,h⟩:=f
 rw[List.getElem_range] at h
 subst h
 rw[QVq] at f
 refine⟨f,λx H3 l=> ?_⟩
 obtain⟨rfl,rfl⟩:=l
 exact⟨bD.refl,g,.int _⟩
def Jh{n a:Expr}{f:aU}{p:Pos}(u:Gl X "range")(l:X.mg "range"=none)(v:PE X a (tD (md X) f))(h:starEach [a] X.env= [(false,eval a X.env)]:=by rfl):PI X n (.Call (.Name "range" p) [a] [] pos) (tI (md X) (t6 f)):=
 Gu (zN u l (fI v nN h) h) λA H R s=>by
  obtain⟨ρ,m,S,B,W,z,ok,e,q⟩:=s
  obtain⟨⟨d,w⟩,k,e⟩:=aq e
  dsimp only at e
  split at e
  ·rename_i j
   split at e
   ·rename_i i
    obtain⟨y,rfl⟩:=bz e
    obtain⟨rfl,rfl⟩:=Prod.mk.inj y
    refine⟨ρ,m,S,[.int j],w,ok,by unfold av aw;rw[k];rfl,λg C t x st r=> ?_⟩
    cases r with
    | cons r o=>
      cases o
      cases r
      refine⟨j,rfl,i.1,i.2,q _ _ _ x st ?_⟩
      have:=zB (M:=md X) (ρ:=g) (H:=t) (lo:=0) (hi:=j)
      rw[Int.sub_zero] at this
      exact this
   ·cases e
  ·cases e
open Classical in
def forL(g:jB)(b:cx)(W:aA->Prop):List D->cp->aA->Option Out
 | [],Γ,S=>if W S then some (.nx Γ S) else none
 |d ::ds,Γ,S=>if W S then(g d Γ S).bind λ(i,j)=>(b i j).bind λo=>match o with
    |.nx f h=>forL g b W ds f h
    |.ct f h=>forL g b W ds f h
    |.bk f h=>some (.nx f h)
    |.rt x h=>some (.rt x h)
    |.rl x h=>some (.rl x h)
  else none
def qJ(i:qG)(g:jB)(b:cx):cx:=λd S=>(i d S).bind λ(p,f)=>forL g b p.2 p.1 d f
def KE{N j:Expr}{i:qG}{g:jB}{f:cx}(hp:PassesOwn (model X.prog X.w) X.A X.env X.xe)(hc:X.calm=true)(hi:PI X N j (tI (md X) i))(hg:PG X N (tG (md X) g))(hb:qH X body (tS (md X) f))
  (hs:∀x,foldedSetIterable j X.env x=pure x:=by intro _;rfl):PS X (.For N j body [] pos) (tS (md X) (qJ i g f)):=As (EO hp hc hi hg hb hs) λD σ H ⟨ρ,Γ,S,o,ok,e,q⟩=>by
 obtain⟨⟨⟨h,W⟩,S1⟩,e1,e⟩:=aq e
 refine⟨ρ,Γ,S,h,W,S1,ok,e1,λu J H1 x1 Y wk=> ?_⟩
 have M:=q.to x1
 have U:=ok.to x1 Y
 refine⟨λi m l B=>m=h.length-i/\i<=h.length/\∃d n y,bD u H1 d B/\Ok (md X) d n y l B/\forL g f W (h.drop i) n y=some o,⟨h.length,by simp,Nat.zero_le _,u,Γ,S1,bD.refl,U,e⟩,?_⟩
 rintro i m a1 H2 ⟨rfl,hi,d,n,y,x2,ok2,e2⟩
 by_cases v:i<h.length
 ·have hd:h[i]?=some h[i]:=gQe v
  rw[QWq v] at e2
  unfold forL at e2
  split at e2
  ·rename_i w
   obtain⟨w1,w2⟩:=wk i d y H2 x2 ok2.st w
   obtain⟨go,Z⟩:=w1 _ hd
   refine .inr ⟨go,λl B=>∃p r L,bD u H1 p B/\Ok (md X) p r L l B/\forL g f W (h.drop (i+1)) r L=some o,λl B ⟨p,r,L,h1,h2,h3⟩=>⟨h.length-(i+1),by omega,rfl,v,p,r,L,h1,h2,h3⟩,λx H3 hy=> ?_⟩
   obtain⟨x3,R,r3⟩:=Z x H3 hy
   obtain⟨⟨G,S4⟩,e4,e5⟩:=aq e2
   refine⟨d,n,y,_,G,S4,ok2.to x3 R,r3,e4,λP a2 H4 x4 Q=> ?_⟩
   obtain⟨o5,e6,K⟩:=aq e5
   have F:=(x2.trans x3).trans x4
   refine⟨P,G,S4,o5,Q,e6,?_⟩
   cases o5 with
   |nx s z=>exact λt C H6 I k=>⟨t,s,z,F.trans I,k,K⟩
   |ct s z=>exact λt C H6 I k=>⟨t,s,z,F.trans I,k,K⟩
   |bk s z=>cases K;exact λt C H6 I k=>M _ _ _ (F.trans I) k
   |rt d6 z=>cases K;exact M.to F
   |rl d6 z=>cases K;exact M.to F
  ·cases e2
 ·have e3:i=h.length:=by omega
  subst e3
  rw[List.drop_length] at e2
  unfold forL at e2
  split at e2
  ·rename_i w
   cases e2
   obtain⟨w1,w2⟩:=wk h.length d y H2 x2 ok2.st w
   exact .inl ⟨w2 rfl,M _ _ _ x2 ok2⟩
  ·cases e2
end
section
variable{M:Md}{ρ:List Addr}{H:Hp}{b:Addr}{us ws:List V}
mutual
theorem Rel.off(a:H b=some (.lst us)):∀{d:D} {v:V},Rel M ρ H d v->Rel M ρ (upd H b (.lst ws)) d v
 |_,_,.non=>.non
 |_,_,.bl x=>.bl x
 |_,_,.int i=>.int i
 |_,_,.str x=>.str x
 |_,_,.tup h hs=>.tup (by rw[aJ (BL h a (by intro z;cases z))];exact h) (aL.off a hs)
 |_,_,.ref h=>.ref h
 |_,_,.fn h=>.fn h
theorem aL.off(a:H b=some (.lst us)):∀{ds:List D} {vs:List V},aL M ρ H ds vs->aL M ρ (upd H b (.lst ws)) ds vs
 |_,_,.nil=>.nil
 |_,_,.cons h hs=>.cons (Rel.off a h) (aL.off a hs)
end
theorem ed.off{S:aA}(st:ed M ρ S H)(e:H b=some (.lst us))(n:b∉ρ):ed M ρ S (upd H b (.lst ws)):=⟨st.len,st.nd,λk a o j l=>by
 have q:=st.obj k a o j l
 have f:a≠b:=λz=>n (z▸mQg j)
 cases o with
 |lst m=>obtain⟨i,d,c⟩:=q;exact⟨i,by rw[aJ f];exact d,c.off e⟩
 |frz m=>obtain⟨i,o,d,c⟩:=q;exact⟨i,o,by rw[aJ f];exact d,c.off e⟩
 |dct h=>obtain⟨g,d,c⟩:=q;exact⟨g,by rw[aJ f];exact d,c.imp λ_ _ r=>r.off e⟩
 |fdc h=>obtain⟨g,o,d,c⟩:=q;exact⟨g,o,by rw[aJ f];exact d,c.imp λ_ _ r=>r.off e⟩⟩
def En.off{a:cp}{c:L2.St}(h:En M ρ H a c)(e:H b=some (.lst us)):En M ρ (upd H b (.lst ws)) a c:=⟨h.len,λi d q=>by obtain⟨v,g,f⟩:=h.get i d q;exact⟨v,g,f.off e⟩⟩
def bD.off{d:List Addr}{f:Hp}(e:bD d f ρ H)(g:f b=none)(u:HO):bD d f ρ (upd H b u):=⟨e.pre,e.new,λa o h c=>by rw[aJ (dD h g)];exact e.keep a o h c,λa h=>by
 by_cases z:a=b
 ·subst z;exact g
 ·rw[aJ z] at h;exact e.grow a h⟩
end
def kg(js:List (Option Nat))(a:cp):cp:=js.map λo=>o.bind λj=>a.getD j none
def En.sig{M:Md}{ρ:List Addr}{H:Hp}{a:cp}{c:L2.St}(js:List (Option Nat))(h:En M ρ H a c):En M ρ H (kg js a) (iq js c) where
 len:=by unfold kg iq;rw[lQm,lQm]
 get:=λi d q=>by
  unfold kg at q
  unfold iq
  rw[gQm] at q⊢
  cases e:js[i]? with
  |none=>rw[e] at q;cases q
  | some o=>
    rw[e] at q
    cases o with
    |none=>cases q
    | some j=>
      have b:a.getD j none=some d:=QdQ q
      have f:a[j]?=some (some d):=by
        rw[Qlq] at b
        cases z:a[j]? with
        |none=>rw[z] at b;cases b
        |some y=>rw[z] at b;exact congrArg some b
      obtain⟨v,k,g⟩:=h.get j d f
      refine⟨v,?_,g⟩
      show some (c.getD j none)=some (some v)
      rw[Qlq,k]
      rfl
open Classical in
def j6(g:jB)(t:ir)(f:aU)(W:aA->Prop):List D->cp->aA->List D->Option (List D×aA)
 | [],Γ,S,acc=>if W S then some (acc,S) else none
 |d ::ds,Γ,S,acc=>if W S then(g d Γ S).bind λ(a,e)=>(t a e).bind λ(k,b)=>
    if k=true then(f a b).bind λ(y,c)=>if acc.length<sizeLine then j6 g t f W ds a c (acc++ [y]) else none
    else j6 g t f W ds a b acc
  else none
def bP(js:List (Option Nat))(i:qG)(g:jB)(t:ir)(f:aU):fD:=λa S=>(i a S).bind λ(p,b)=>j6 g t f p.2 p.1 (kg js a) b []
section
variable{M:Md}
def A3{js:List (Option Nat)}{i:qG}{g:jB}{t:ir}{f:aU}:∀Z H Q,tL M (bP js i g t f) Z H Q->B9 js (tI M i) (tG M g) (tB M t) (tD M f) Z H Q:=λZ H Q qq=>by
 obtain⟨ρ,Γ,S,rs,S',ok,e,q⟩:=qq
 obtain⟨⟨⟨j,W⟩,S1⟩,e1,e⟩:=aq e
 refine⟨ρ,Γ,S,j,W,S1,ok,e1,λn J H1 Y P wk D L=> ?_⟩
 have n1:D∉n:=dN Y P L
 have a4:Ok M n (kg js Γ) S1 (iq js Z) (upd H1 D (.lst [])):=⟨((ok.en.ext Y).ext (bD.laid L)).sig js,P.lay L⟩
 refine⟨λi m o d=>m=j.length-i/\i<=j.length/\∃b r K c h,bD n H1 b d/\Ok M b r K o d/\D∉b/\d D=some (.lst h)/\aL M b d c h/\j6 g t f W (j.drop i) r K c=some (rs,S'),
  ⟨j.length,by simp,Nat.zero_le _,n,_,S1,[],[],bD.laid L,a4,n1,a0,.nil,e⟩,?_⟩
 rintro i m a8 H2 ⟨rfl,hi,b,r,K,c,h,x2,ok2,n2,hD2,racc,e2⟩
 by_cases F:i<j.length
 ·have hd:j[i]?=some j[i]:=gQe F
  rw[QWq F] at e2
  unfold j6 at e2
  split at e2
  ·rename_i w
   obtain⟨w1,w2⟩:=wk i b K H2 x2 ok2.st w
   obtain⟨go,a5⟩:=w1 _ hd
   refine .inr ⟨go,λo d=>∃a A B c h,bD n H1 a d/\Ok M a A B o d/\D∉a/\d D=some (.lst h)/\aL M a d c h/\j6 g t f W (j.drop (i+1)) A B c=some (rs,S'),
    λo d ⟨a,A,B,c,h,h1,h2,h3,h4,h5,h6⟩=>⟨j.length-(i+1),by omega,rfl,F,a,A,B,c,h,h1,h2,h3,h4,h5,h6⟩,λx H3 hy=> ?_⟩
   obtain⟨x3,a3,r3⟩:=a5 x H3 hy
   obtain⟨⟨l,S4⟩,e4,e5⟩:=aq e2
   refine⟨b,r,K,_,l,S4,ok2.to x3 a3,r3,e4,λa1 a9 H4 x4 s=> ?_⟩
   obtain⟨⟨k,S5⟩,e6,e7⟩:=aq e5
   refine⟨a1,l,S4,k,S5,s,e6,λR H5 U N=> ?_⟩
   have p:=(x3.trans x4).trans U
   have C:∀{a d},bD b H2 a d->d D=some (.lst h)/\D∉a:=λ{a d} x=>⟨x.keep _ _ hD2 (.inl n2),λm=>(x.new _ m).elim n2 λz=>by rw[z] at hD2;cases hD2⟩
   dsimp only at e7⊢
   split at e7
   ·rename_i ck
    rw[Qhq ck]
    obtain⟨⟨y,S6⟩,e8,X⟩:=aq e7
    refine⟨R,l,S5,y,S6,s.to U N,e8,λa7 v H6 x6 a6 r6=> ?_⟩
    have I:=p.trans x6
    obtain⟨u,n6⟩:=C I
    have G:=racc.ext I
    dsimp only at X
    split at X
    ·rename_i cl
     refine⟨h,u,by rw[←racc.length];exact cl,a7,l,S6,c++ [y],h++ [v],(x2.trans I).off L _,⟨((s.en.ext U).ext x6).off u,a6.off u n6⟩,n6,a0,(G.append (.cons r6 .nil)).off u,X⟩
    ·cases X
   ·rename_i ck
    rw[Quq ck]
    obtain⟨a2,n5⟩:=C p
    exact⟨R,l,S5,c,h,x2.trans p,s.to U N,n5,a2,racc.ext p,e7⟩
  ·cases e2
 ·have e3:i=j.length:=by omega
  subst e3
  rw[List.drop_length] at e2
  unfold j6 at e2
  split at e2
  ·rename_i w
   obtain⟨rfl,rfl⟩:=bz e2
   obtain⟨w1,w2⟩:=wk j.length b K H2 x2 ok2.st w
   exact .inl ⟨w2 rfl,q b D h H2 (Y.trans x2) ok2.st (Y.grow _ L) n2 hD2 racc⟩
  ·cases e2
end
section
variable{X:Cx}{a b c e:Expr}{pos:Pos}{st:Stmt}{rest body other:List Stmt}
def cA:ir:=λ_ S=>some (true,S)
def HB{f:List Expr}{t t':TT}(h:j_ X f t)(w:∀g H Q,t' g H Q->t g H Q):j_ X f t':=λd s g H Q I q=>h d s g H Q I (w _ _ _ q)
def KF:j_ X [] (tB (md X) cA):=HB Fy λg H Q ⟨d,f,S,k,h,ok,e,q⟩=>by cases e;exact q _ _ bD.refl ok.st
def K0{f:ir}(d:PT X c (tB (md X) f)):j_ X [c] (tB (md X) f):=FJ d
def EB{N:List Str}{js:List (Option Nat)}{d:Scope}{l:List (Str×Addr)}{m h j:Expr}{k:List Expr}{i:qG}{g:jB}{t:ir}{f:aU}
  (S:aH X N js d l) (q:X.calm=true) (hi:PI X m h (tI (md X) i))
  (p:∀C s H fp,PG (aC X N d l C s H fp) m (tG (md X) g)) (o:∀C s H fp,j_ (aC X N d l C s H fp) k (tB (md X) t)) (he:∀C s H fp,PE (aC X N d l C s H fp) j (tD (md X) f))
  (n:∀x,foldedSetIterable h X.env x=pure x:=by intro _;rfl):PE X (.ListComp j [⟨m,h,k,0⟩] d pos) (tL (md X) (bP js i g t f)):=iO (CP S q hi p o he n) A3
def Fw{N:List Str}{js:List (Option Nat)}{h:Scope}{w:List (Str×Addr)}{v j m k:Expr}{p:List Expr}{i:qG}{g:jB}{t:ir}{f:aU}{n:Nat}{l:Pos}
  (S:aH X N js h w) (hc:X.calm=true) (hi:PI X v j (tI (md X) i))
  (Z:∀C s H fp,PG (aC X N h w C s H fp) v (tG (md X) g)) (Q:∀C s H fp,j_ (aC X N h w C s H fp) p (tB (md X) t)) (he:∀C s H fp,PE (aC X N h w C s H fp) m (tD (md X) f)) (A:PG X k (lg n))
  (M:∀x,foldedSetIterable j X.env x=pure x:=by intro _;rfl) (y:swapsWithSole [k] (.ListComp m [⟨v,j,p,0⟩] h pos) l.line X.env=pure true:=by rfl)
  (h1:(assignEach [k] X.env).map (·.2)= [assign k X.env]:=by rfl):PS X (.Assign [k] (.ListComp m [⟨v,j,p,0⟩] h pos) l) (tS (md X) (a_ n (hV (bP js i g t f)))):=
 As (C0 S hc hi Z Q he A M y h1) λD Y H P=>by
  obtain⟨I,K,S,o,ok,e,q⟩:=P
  obtain⟨⟨d,S1⟩,L,e⟩:=aq e
  cases e
  obtain⟨⟨J,S2⟩,e2,e3⟩:=aq L
  obtain⟨rfl,rfl⟩:=bz e3
  refine A3 Y H _ ⟨I,K,S,J,S2,ok,e2,λr a vs F x st W R U rs=> ?_⟩
  have z:=rs.pre (List.prefix_append r [a])
  have B:=st.box (o:=.lst J) R ⟨vs,U,z⟩
  have G:bD I H (r++ [a]) F:=⟨x.pre.trans (List.prefix_append _ _),λb u=>by
   rcases mQa.mp u with u|u
   ·exact x.new b u
   ·rw[Qfq] at u;subst u;exact .inr W,x.keep,x.grow⟩
  refine q (r++ [a]) _ F G ⟨((ok.en.ext G).set (.ref ?_)),B⟩
  rw[←st.len,QQq (Qmq _)]
  simp
end
inductive Res where
 |d (x:D)|l (ds:List D)
abbrev cI:=List D->aA->Option (Res×aA)
def FO(M:Md)(ρ:List Addr)(H b:Hp)(v:V):Res->Prop
 |.d x=>Rel M ρ b x v
 |.l e=>∃a c,v=.ref a/\H a=none/\a∉ρ/\b a=some (.lst c)/\aL M ρ b e c
def dq(M:Md)(n:Nat)(F:cI):Sp:=λf H Q _=>∃c S d r e,d.length=n/\aL M c H d f/\ed M c S H/\F d S=some (r,e)/\∀a v b,bD c H a b->ed M a e b->FO M a H b v r->Q v b
mutual
def bB(m:Nat):D->Bool
 |.ref k=>decide (k<m)
 |.tup a=>bh m a
 |_=>true
def bh(m:Nat):List D->Bool
 | []=>true
 |d::ds=>bB m d&&bh m ds
end
def zK(m:Nat):O->Bool
 |.lst b=>bh m b
 |.frz b=>bh m b
 |.dct a=>bh m (a.map (·.2))
 |.fdc a=>bh m (a.map (·.2))
section
variable{M:Md}{ρ ρ':List Addr}{H:Hp}
mutual
theorem Rel.cut(e:ρ <+: ρ'):∀{d:D} {v:V},Rel M ρ' H d v->bB ρ.length d=true->Rel M ρ H d v
 |_,_,.non,_=>.non
 |_,_,.bl x,_=>.bl x
 |_,_,.int i,_=>.int i
 |_,_,.str x,_=>.str x
 |_,_,.tup h hs,b=>.tup h (aL.cut e hs (by simpa [bB] using b))
 | _,_,.ref (k:=k) (a:=a) h,b=>.ref (by
   obtain⟨t,rfl⟩:=e
   have c:k<ρ.length:=by simpa [bB] using b
   rwa [QHq c] at h)
 |_,_,.fn h,_=>.fn h
theorem aL.cut(e:ρ <+: ρ'):∀{ds:List D} {vs:List V},aL M ρ' H ds vs->bh ρ.length ds=true->aL M ρ H ds vs
 |_,_,.nil,_=>.nil
 | _,_,.cons h hs,b=>by
   have a:=b
   simp only[bh,QDq,QCq] at a
   exact .cons (Rel.cut e h a.1) (aL.cut e hs a.2)
end
theorem bo.cut(e:ρ <+: ρ'):∀{l:List (Key×D)} {kv:List (Key×V)},bo M ρ' H l kv->bh ρ.length (l.map (·.2))=true->bo M ρ H l kv
 | [],_,h,_=>h
 | (_,_)::_,_,⟨v,t,q,h,hs⟩,b=>by
   have a:=b
   simp only[bh,QDq,QCq] at a
   exact⟨v,t,q,h.cut e a.1,bo.cut e hs a.2⟩
theorem lZ.cut{a:Addr}{o:O}(e:ρ <+: ρ')(h:lZ M ρ' H a o)(b:zK ρ.length o=true):lZ M ρ H a o:=by
 cases o with
 |lst j=>obtain⟨g,d,c⟩:=h;exact⟨g,d,c.cut e b⟩
 |frz j=>obtain⟨g,o,d,c⟩:=h;exact⟨g,o,d,c.cut e b⟩
 |dct f=>obtain⟨i,d,c⟩:=h;exact⟨i,d,c.cut e b⟩
 |fdc f=>obtain⟨i,o,d,c⟩:=h;exact⟨i,o,d,c.cut e b⟩
mutual
theorem Rel.low:∀{d:D} {v:V},Rel M ρ H d v->bB ρ.length d=true
 |_,_,.non=>rfl
 |_,_,.bl x=>rfl
 |_,_,.int i=>rfl
 |_,_,.str x=>rfl
 |_,_,.tup h hs=>by simp only[bB];exact aL.low hs
 |_,_,.ref h=>by simp only[bB];exact Qeq (gQs.mp h).1
 |_,_,.fn h=>rfl
theorem aL.low:∀{ds:List D} {vs:List V},aL M ρ H ds vs->bh ρ.length ds=true
 |_,_,.nil=>rfl
 |_,_,.cons h hs=>by simp only[bh];rw[Rel.low h,aL.low hs];rfl
end
theorem bo.low:∀{l:List (Key×D)} {kv:List (Key×V)},bo M ρ H l kv->bh ρ.length (l.map (·.2))=true
 | [],_,_=>rfl
 |(_,_)::_,_,⟨v,t,q,h,hs⟩=>by simp only[QDq,bh];rw[h.low,bo.low hs];rfl
theorem lZ.low{a:Addr}{o:O}(h:lZ M ρ H a o):zK ρ.length o=true:=by
 cases o with
 |lst g=>obtain⟨e,d,b⟩:=h;exact b.low
 |frz g=>obtain⟨e,o,d,b⟩:=h;exact b.low
 |dct c=>obtain⟨f,d,b⟩:=h;exact b.low
 |fdc c=>obtain⟨f,o,d,b⟩:=h;exact b.low
end
def iK(S a:aA):Prop:=S.length<=a.length/\∀k o,k<S.length->a[k]?=some o->S[k]?=some o\/zK S.length o=true
open Classical in
def settle(S:aA)(d:D)(a:aA):Option (Res×aA):=if iK S a then match d with
  | .ref k=>if k<S.length then some (.d (.ref k),a.take S.length) else match a[k]? with
    |some (.lst ds)=>if bh S.length ds=true then some (.l ds,a.take S.length) else none
    |_=>none
  |d=>if bB S.length d=true then some (.d d,a.take S.length) else none
 else none
open Classical in
def dj(S:aA)(ds:List D)(a:aA):Option (Res×aA):=if iK S a/\bh S.length ds=true then some (.l ds,a.take S.length) else none
noncomputable def dI(n:Nat)(b:cx):cI:=λc S=>(b (c.map some++List.replicate (n-c.length) none) S).bind λo=>match o with
 |.nx _ a=>settle S .non a
 |.rt d a=>settle S d a
 |.rl l a=>dj S l a
 |_=>none
def ed.clean{M:Md}{ρ b:List Addr}{S f:aA}{H e:Hp}(st:ed M ρ S H)(x:bD ρ H b e)(i:ed M b f e)(c:iK S f):ed M ρ (f.take S.length) e/\bD ρ H ρ e:=by
 refine⟨⟨?_,st.nd,λk a o j g=> ?_⟩,List.prefix_refl _,λ_ h=>.inl h,x.keep,x.grow⟩
 ·rw[Qxq,st.len]
  have:=c.1
  omega
 ·have l:k<ρ.length:=(gQs.mp j).1
  have d:k<S.length:=st.len▸l
  rw[List.getElem?_take_of_lt d] at g
  refine(i.obj k a o (bV x.pre j) g).cut x.pre ?_
  rcases c.2 k o d g with z|z
  ·exact(st.obj k a o j z).low
  ·rw[st.len];exact z
def rP{M:Md}{ρ b:List Addr}{S s h:aA}{H g:Hp}{d:D}{v:V}{r:Res}(st:ed M ρ S H)(x:bD ρ H b g)(f:ed M b s g)(l:Rel M b g d v)(e:settle S d s=some (r,h)):
  bD ρ H ρ g/\ed M ρ h g/\FO M ρ H g v r:=by
 unfold settle at e
 split at e
 ·rename_i c
  obtain⟨i,o⟩:=st.clean x f c
  cases d with
  | ref k=>
    dsimp only at e
    split at e
    · rename_i n
      obtain⟨rfl,rfl⟩:=bz e
      exact⟨o,i,l.cut x.pre (by simp only[bB];rw[st.len];exact Qeq n)⟩
    · rename_i n
      split at e
      · rename_i B w
        split at e
        · rename_i q
          obtain⟨rfl,rfl⟩:=bz e
          cases l with
          | ref p=>
            rename_i a
            obtain⟨A,z,y⟩:=f.obj k a _ p w
            have t:a∉ρ:=λm=>by
              obtain⟨j,u⟩:=List.getElem?_of_mem m
              have:=i_ f.nd (bV x.pre u) p
              subst this
              exact n (st.len▸(gQs.mp u).1)
            refine⟨o,i,a,A,rfl,(x.new a (mQg p)).resolve_left t,t,z,y.cut x.pre (by rw[st.len];exact q)⟩
        · cases e
      · cases e
  | _=>
    dsimp only at e
    split at e
    · rename_i q
      obtain⟨rfl,rfl⟩:=bz e
      exact⟨o,i,l.cut x.pre (by rw[st.len];exact q)⟩
    · cases e
 ·cases e
def wQ{M:Md}{ρ b:List Addr}{S h f:aA}{H d:Hp}{ds:List D}{a:Addr}{vs:List V}{r:Res}(st:ed M ρ S H)(x:bD ρ H b d)(g:ed M b h d)(n:H a=none)(k:a∉b)(o:d a=some (.lst vs))(j:aL M b d ds vs)(e:dj S ds h=some (r,f)):
  bD ρ H ρ d/\ed M ρ f d/\FO M ρ H d (.ref a) r:=by
 unfold dj at e
 split at e
 ·rename_i c
  obtain⟨i,l⟩:=st.clean x g c.1
  obtain⟨rfl,rfl⟩:=bz e
  exact⟨l,i,a,vs,rfl,n,λm=>k (x.pre.subset m),o,j.cut x.pre (by rw[st.len];exact c.2)⟩
 ·cases e
def BO{M:Md}{ρ:List Addr}{H:Hp}{ds:List D}{vs:List V}{N:List Str}(r:aL M ρ H ds vs):En M ρ H (ds.map some++List.replicate (N.length-ds.length) none) (L2.start N vs) where
 len:=by unfold L2.start;simp[r.length]
 get:=λi d q=>by
  unfold L2.start
  by_cases c:i<ds.length
  ·rw[QHq (by rw[lQm];exact c),gQm] at q
   obtain⟨g,f,a⟩:=oQm.mp q
   cases a
   obtain⟨v,e,b⟩:=r.get f
   exact⟨v,by rw[QHq (by rw[lQm,←r.length];exact c),gQm,e];rfl,b⟩
  ·rw[QQq (by rw[lQm];omega)] at q
   have:=mQg q
   rw[List.mem_replicate] at this
   cases this.2
section
variable{P:Program}{w:World}{K:PySem.W.Frag}{mg:Str->Option Value}{base:Heap}
def aS{x c:Str}{st:Stmt}{f:Addr}{B:FuncData}{N ps:List Str}{k:Nat}{b:cx}(F:dr K x c st f B)(S:aB N ps (ay st))
  (h:∀(g:Value) (A:Around) (outer:List Env) (s:Shared) (H:Hp) (E:XK),dS k (A.deeper (envOfC c (ay st) s.heap.objs.size f g))→
   qH (yd de P w K mg base N c (ay st) f g A outer s H E).nox (dX st) (tS ⟨K,mg⟩ b)):aV P w K mg base de (k+1) f B ps (dq ⟨K,mg⟩ ps.length (dI N.length b)):=by
 refine F.ok S (λL H Q E ⟨I,S,Y,r,U,G,z,_⟩=>by rw[←z.length];exact G) λg A outer s H L Q E hr ⟨I,S,Y,r,U,G,z,t,h4,q⟩=>⟨_,h g A outer s H E hr,?_⟩
 obtain⟨o,M,e⟩:=aq h4
 refine⟨I,_,S,o,⟨BO z,t⟩,M,?_⟩
 cases o with
 |nx R J=>exact λm a1 C n y=>by obtain⟨l,p,j⟩:=rP t n y.st .non e;exact q _ _ _ l p j
 |rt d J=>exact λm v C n i u=>by obtain⟨l,p,j⟩:=rP t n i u e;exact q _ _ _ l p j
 |rl d J=>exact λm a L C n i X W Z u=>by obtain⟨l,p,j⟩:=wQ t n i X W Z u e;exact q _ _ _ l p j
 |bk=>cases e
 |ct=>cases e
end
section
variable{X:Cx}{x:Str}{k n:Nat}{f:Addr}{fd:FuncData}{ps:List Str}{F:cI}{e:Expr}{es:List Expr}{g:fD}{p pos:Pos}
noncomputable def az(F:cI)(g:fD):aU:=λa S=>(g a S).bind λ(h,c)=>(F h c).bind λ(r,b)=>match r with
 |.d x=>some (x,b)
 |.l _=>none
def dJ(F:cI)(g:fD):fD:=λb S=>(g b S).bind λ(a,h)=>(F a h).bind λ(r,c)=>match r with
 |.d _=>none
 |.l a=>some (a,c)
def nA(n:Nat)(g:fD):Prop:=∀b S a c,g b S=some (a,c)->a.length=n
def xF:nA 0 aw:=λ_ _ _ _ e=>by cases e;rfl
def jC{n:Nat}{f:aU}{g:fD}(h:nA n g):nA (n+1) (av f g):=λj S o c e=>by
 obtain⟨⟨d,m⟩,i,e⟩:=aq e
 obtain⟨⟨b,l⟩,a,e⟩:=aq e
 cases e
 rw[Qnq,h _ _ _ _ a]
def yN{M:Md}(z:nA n g):∀h H Q,tD M (az F g) h H Q->Be (dq M n F) [] E0 (ve M g) h H Q:=λh H Q t=>by
 obtain⟨A,o,S,d,I,ok,e,q⟩:=t
 obtain⟨⟨i,m⟩,j,e⟩:=aq e
 obtain⟨⟨r,B⟩,G,e⟩:=aq e
 refine⟨A,o,S,i,m,ok,j,λb J H1 y c C=>⟨b,m,i,r,B,z _ _ _ _ j,by rw[List.append_nil];exact C,c,G,λw v H2 u a s=> ?_⟩⟩
 cases r with
 |d x=>obtain⟨rfl,rfl⟩:=bz e;exact q _ _ _ (y.trans u) a s
 |l i=>cases e
def D8{M:Md}(A:nA n g):∀i H Q,tL M (dJ F g) i H Q->Be (dq M n F) [] E0 (ve M g) i H Q:=λi H Q w=>by
 obtain⟨B,t,S,d,K,ok,e,q⟩:=w
 obtain⟨⟨j,s⟩,m,e⟩:=aq e
 obtain⟨⟨r,G⟩,J,e⟩:=aq e
 refine⟨B,t,S,j,s,ok,m,λc C H1 o h I=>⟨c,s,j,r,G,A _ _ _ _ m,by rw[List.append_nil];exact I,h,J,λz v H2 y b u=> ?_⟩⟩
 cases r with
 |d x=>cases e
 | l j=>
   obtain⟨rfl,rfl⟩:=bz e
   obtain⟨a,C,rfl,fr,na,ha,rr⟩:=u
   exact q _ _ _ _ (o.trans y) b (o.grow _ fr) na ha rr
def FS(G:aV X.prog X.w X.K X.mg X.base de k f fd ps (dq (md X) n F))(h:dS k X.A)(i:Gl X x)(d:X.mg x=some (.ref f))(c:PySem.W.keepIn X.K (.ref f)=true)(b:Binds X.K fd ps [])(j:PA X (e::es) (ve (md X) g))(l:nA n g)
  (a:(x==("__debug__":Str))=false:=by decide) (he:starEach (e::es) X.env=(false,eval e X.env)::starEach es X.env:=by rfl) (hpl:(backTo pos (starEach es X.env)).any (·.1)=false:=by rfl):
  PE X (.Call (.Name x p) (e::es) [] pos) (tD (md X) (az F g)):=iO (yX G h i d c b .nil BC j a he hpl) (yN l)
def EN(G:aV X.prog X.w X.K X.mg X.base de k f fd ps (dq (md X) n F))(h:dS k X.A)(i:Gl X x)(d:X.mg x=some (.ref f))(c:PySem.W.keepIn X.K (.ref f)=true)(b:Binds X.K fd ps [])(j:PA X (e::es) (ve (md X) g))(l:nA n g)
  (a:(x==("__debug__":Str))=false:=by decide) (he:starEach (e::es) X.env=(false,eval e X.env)::starEach es X.env:=by rfl) (hpl:(backTo pos (starEach es X.env)).any (·.1)=false:=by rfl):
  PE X (.Call (.Name x p) (e::es) [] pos) (tL (md X) (dJ F g)):=iO (yX G h i d c b .nil BC j a he hpl) (D8 l)
end
def hZ{α:Type}(xs:List α)(lo hi:Option Int):List α:=(xs.drop (HT.dB xs.length 0 lo)).take (HT.dB xs.length xs.length hi-HT.dB xs.length 0 lo)
def aL.cut3{M:Md}{ρ:List Addr}{H:Hp}{ds:List D}{vs:List V}{lo hi:Option Int}(h:aL M ρ H ds vs):aL M ρ H (hZ ds lo hi) (yb vs lo hi):=by
 unfold hZ yb
 rw[h.length]
 exact(h.drop _).take _
def Dm{α:Type}{xs:List α}{lo hi:Option Int}(b:HT.dB xs.length 0 lo=0)(a:HT.dB xs.length xs.length hi=xs.length):hZ xs lo hi=xs:=by
 unfold hZ
 rw[b,a]
 simp
abbrev Gj:=cp->aA->Option (Option Int×aA)
def Im(M:Md)(f:Gj):TO:=λg H Q=>∃c e S o d,Ok M c e S g H/\f e S=some (o,d)/\∀a b,bD c H a b->ed M a d b->Q o b
section
variable{X:Cx}{a b c e:Expr}{pos:Pos}{st:Stmt}
def qF:Gj:=λ_ S=>some (none,S)
def p5(f:aU):Gj:=λg S=>(f g S).bind λ(d,h)=>match d with
 |.int i=>some (some i,h)
 |_=>none
def Kq{o:Option Expr}{t t':TO}(h:PO X o t)(w:∀f H Q,t' f H Q->t f H Q):PO X o t':=λd s f H Q I q=>h d s f H Q I (w _ _ _ q)
def IU:PO X none (Im (md X) qF):=Kq DG λg H Q ⟨d,f,S,o,h,ok,e,q⟩=>by cases e;exact q _ _ bD.refl ok.st
def J0{f:aU}(h:PE X e (tD (md X) f)):PO X (some e) (Im (md X) (p5 f)):=Kq (DM h) λs H Q j=>by
 obtain⟨l,i,S,o,n,ok,e,q⟩:=j
 obtain⟨⟨d,m⟩,g,e⟩:=aq e
 dsimp only at e
 split at e
 ·obtain⟨rfl,rfl⟩:=bz e
  refine⟨l,i,S,_,m,ok,g,λk v p x st r=> ?_⟩
  cases r
  exact⟨_,rfl,q _ _ x st⟩
 ·cases e
def pU(f:aU)(lo hi:Gj):aU:=λg S=>(f g S).bind λ(d,m)=>(lo g m).bind λ(l,k)=>(hi g k).bind λ(h,j)=>match d with
 |.tup i=>some (.tup (hZ i l h),j)
 |_=>none
def Ih{lo hi:Option Expr}{M:Pos}{f:aU}{l h:Gj}(he:PE X e (tD (md X) f))(P:PO X lo (Im (md X) l))(N:PO X hi (Im (md X) h)):PE X (.Subscript e (.Slice lo hi none M) pos) (tD (md X) (pU f l h)):=
 iO (CB DV he P N) λσ H Q L=>by
  obtain⟨R,n,S,d,Z,ok,e,q⟩:=L
  obtain⟨⟨x,B⟩,G,e⟩:=aq e
  obtain⟨⟨z,F⟩,Y,e⟩:=aq e
  obtain⟨⟨w,I⟩,W,e⟩:=aq e
  cases x with
  | tup C=>
    dsimp only at e
    obtain⟨rfl,rfl⟩:=bz e
    refine⟨R,n,S,_,B,ok,G,λo v H1 u i U=>⟨o,n,B,z,F,ok.to u i,Y,λr H2 s m=>⟨r,n,F,w,I,(ok.to u i).to s m,W,λJ H3 y j=> ?_⟩⟩⟩
    have g:=(u.trans s).trans y
    have K:=U.ext (s.trans y)
    cases K with
    | tup A k=>
      refine⟨_,_,rfl,gB.of A,λc=> ?_,λc p t=> ?_⟩
      · have:hZ C z w=C:=Dm (by rw[k.length];exact c.1) (by rw[k.length];exact c.2)
        rw[this] at q
        exact q _ _ _ g j (.tup A k)
      · exact q _ _ _ (g.trans (bD.laid t)) (j.lay t) (.tup a0 (k.cut3.ext (bD.laid t)))
  |_=>cases e
open Classical in
def Eb(f:dg)(g:aU):fD:=λd S=>(f d S).bind λ(p,i)=>(g d i).bind λ(r,h)=>match r with
 |.int k=>if p.2.isM=true/\p.2.stays h p.1/\ -(2^63)<=k/\k<2^63/\p.1.length*k.toNat<=sizeLine then some ((List.replicate k.toNat p.1).flatten,h) else none
 |_=>none
def Kl{f:dg}{g:aU}(F:PE X a (tQ (md X) f))(K:PE X b (tD (md X) g)):PE X (.BinOp a .Mult b pos) (tL (md X) (Eb f g)):=iO (oU Ga F K) λR H Q A=>by
 obtain⟨G,o,S,d,P,ok,e,q⟩:=A
 obtain⟨⟨⟨I,t⟩,x⟩,y,e⟩:=aq e
 obtain⟨⟨r,L⟩,N,e⟩:=aq e
 cases r with
 | int k=>
   dsimp only at e
   split at e
   · rename_i c
     obtain⟨rfl,rfl⟩:=bz e
     refine⟨G,o,S,I,t,x,ok,y,λl a U H1 v m J M=>⟨l,o,x,_,L,ok.to v m,N,λB w H2 u h z=> ?_⟩⟩
     obtain⟨n,C,s⟩:=J.to M u h c.2.1
     have i:=v.trans u
     cases z
     refine⟨_,k,n,rfl,rfl,C.sqM c.1,c.2.2.1,c.2.2.2.1,by rw[←s.length];exact c.2.2.2.2,λp j=> ?_⟩
     exact q _ _ _ _ (i.trans (bD.laid j)) (h.lay j) (i.grow _ j) (dN i h j) a0 ((s.rep _).ext (bD.laid j))
   · cases e
 |_=>cases e
open Classical in
def eqQ(d:Bool)(f g:dg):aU:=λj S=>(f j S).bind λ(p,l)=>(g j l).bind λ(r,k)=>if p.2.isL=true/\r.2.isL=true/\p.2.stays k p.1 then(gI p.1).bind λh=>(gI r.1).bind λi=>some (.bl (if d then !yO h i else yO h i),k) else none
def H_{i:Bool}{f g:dg}:∀m H Q,tD (md X) (eqQ i f g) m H Q->CJ (Gq X.K i) (tQ (md X) f) (tQ (md X) g) m H Q:=λm H Q y=>by
 obtain⟨I,n,S,d,R,ok,e,q⟩:=y
 obtain⟨⟨⟨J,t⟩,r⟩,s,e⟩:=aq e
 obtain⟨⟨⟨A,C⟩,L⟩,P,e⟩:=aq e
 dsimp only at e
 split at e
 ·rename_i c
  obtain⟨U,M,e⟩:=aq e
  obtain⟨W,v,e⟩:=aq e
  obtain⟨rfl,rfl⟩:=bz e
  refine⟨I,n,S,J,t,r,ok,s,λj a Y H1 p k G N=>⟨j,n,r,A,C,L,ok.to p k,P,λz b w H2 o h B u=> ?_⟩⟩
  obtain⟨l,F,x⟩:=G.to N o h c.2.2
  obtain⟨rfl,f1⟩:=gN x M
  obtain⟨rfl,f2⟩:=gN u v
  exact⟨a,b,l,w,rfl,rfl,F.sqL c.1,B.sqL c.2.1,f1,f2,q _ _ _ (p.trans o) h (.bl _)⟩
 ·cases e
def J3{f g:dg}(i:X.A.units<cLine)(h:PE X a (tQ (md X) f))(d:PE X b (tQ (md X) g)):PT X (.Compare a [.NotEq] [b] pos) (tB (md X) (aQ (eqQ true f g))):=uo H_ (kZ (A0 i) h d (xx _))
open Classical in
def mN(f:dg):aU:=λg S=>(f g S).bind λ(p,d)=>if p.2.isL=true/\p.2.stays d p.1 then some (.bl (!p.1.isEmpty),d) else none
def Di{f:dg}:∀k H Q,tD (md X) (mN f) k H Q->CJ (Ci X.K) (tQ (md X) f) (tL (md X) (fN aw)) k H Q:=λk H Q u=>by
 obtain⟨x,m,S,d,C,ok,e,q⟩:=u
 obtain⟨⟨⟨y,t⟩,l⟩,p,e⟩:=aq e
 dsimp only at e
 split at e
 ·rename_i c
  obtain⟨rfl,rfl⟩:=bz e
  refine⟨x,m,S,y,t,l,ok,p,λh a J H1 o i w A=>⟨h,m,l,[],l,ok.to o i,rfl,λv b F H2 n g I G z r=> ?_⟩⟩
  obtain⟨j,B,s⟩:=w.to A n g c.2
  cases r
  refine⟨a,b,j,rfl,rfl,B.sqL c.1,gr.of z,?_⟩
  rw[←s.isEmpty]
  exact q _ _ _ (o.trans n) g (.bl _)
 ·cases e
def Hl:PE X (.List [] pos) (tL (md X) (fN aw)):=GP nN
def IB{f:dg}{p:Pos}(g:X.A.units<cLine)(d:PE X a (tQ (md X) f)):PT X (.Compare a [.NotEq] [.List [] p] pos) (tB (md X) (aQ (mN f))):=uo Di (kZ (BN g) d Hl (xx _))
def ed.putL{M:Md}{ρ:List Addr}{S:aA}{H:Hp}{k:Nat}{a:Addr}{ds d:List D}{ws:List V}(st:ed M ρ S H)(f:ρ[k]?=some a)(g:S[k]?=some (.lst ds))(r:aL M ρ H d ws):ed M ρ (S.set k (.lst d)) (upd H a (.lst ws))/\bD ρ H ρ (upd H a (.lst ws)):=by
 obtain⟨j,i,l⟩:=st.obj k a _ f g
 exact st.put f g ⟨ws,a0,r.off i⟩ λx h=>by rw[i] at h;cases h;exact id
def Aj(m:List D->List D->Option (List D×D))(f:aU)(g:fD):aU:=λh S=>(f h S).bind λ(x,j)=>match x with
 | .ref k=>(g h j).bind λ(n,i)=>match j[k]?,i[k]? with
   |some (.lst _),some (.lst ds)=>(m ds n).bind λ(l,d)=>some (d,i.set k (.lst l))
   |_,_=>none
 |_=>none
def Fk(M:Md)(r:V->List V->Hp->VK->Prop)(m:List D->List D->Option (List D×D)):Prop:=∀{f:List Addr} {H:Hp} {a:Addr} {l k h:List D} {d:D} {i g:List V} {Q:VK},H a=some (.lst i)->aL M f H l i->aL M f H k g->m l k=some (h,d)→
 (∀j w,aL M f H h j->Rel M f H d w->Q w (upd H a (.lst j)))->r (.ref a) g H Q
def G1{m:List D->List D->Option (List D×D)}{r:V->List V->Hp->VK->Prop}{f:aU}{g:fD}(R:Fk (md X) r m):∀o H Q,tD (md X) (Aj m f g) o H Q->IR X.K "list" r (tD (md X) f) (ve (md X) g) o H Q:=λo H Q I=>by
 obtain⟨N,u,S,d,S',ok,e,q⟩:=I
 obtain⟨⟨x,C⟩,F,e⟩:=aq e
 cases x with
 | ref k=>
   dsimp only at e
   obtain⟨⟨M,U⟩,e2,e⟩:=aq e
   dsimp only at e
   split at e
   · rename_i W ds t j
     obtain⟨⟨es,d'⟩,Y,e⟩:=aq e
     obtain⟨rfl,rfl⟩:=bz e
     refine⟨N,u,S,_,C,ok,F,λn v H1 A i Z=> ?_⟩
     cases Z with
     | ref B=>
       rename_i a
       obtain⟨p,g1,_⟩:=i.obj k a _ B t
       refine⟨.inl ⟨rfl,p,gr.of g1⟩,n,u,C,M,U,ok.to A i,e2,λJ us H2 y h G=> ?_⟩
       have l:=bV y.pre B
       obtain⟨vs,P,L⟩:=h.obj k a _ l j
       refine R P L G Y λws w rw rd=> ?_
       obtain⟨s,z⟩:=h.putL l j rw
       exact q _ _ _ ((A.trans y).trans z) s (rd.ext z)
   · cases e
 |_=>cases e
def nZ:List D->List D->Option (List D×D):=λd f=>match f with
 | [y]=>if d.length<sizeLine then some (d++ [y],.non) else none
 |_=>none
def E7{M:Md}:Fk M yJ nZ:=by
 intro n H a p o m d h l Q k g f e q
 unfold nZ at e
 split at e
 ·split at e
  ·rename_i i
   obtain⟨rfl,rfl⟩:=bz e
   cases f with
   | cons f j=>
     cases j
     exact⟨a,h,_,rfl,rfl,k,by rw[←g.length];exact i,q _ _ (g.append (.cons f .nil)) .non⟩
  ·cases e
 ·cases e
def Hx{f:aU}{g:aU}{o:Expr}{h d:Pos}(m:PE X o (tD (md X) f))(n:PE X e (tD (md X) g))(j:attributeBase o "append" X.env (eval o X.env)=eval o X.env:=by rfl) (k:((backTo d (starEach [e] X.env)).all (λx=> !x.1)&&(backToKw d (keywordEach [] X.env)).all (λx=>x.1.isSome)
   &&decide ([e].length+([]:List Keyword).length+(if ([]:List Keyword).isEmpty then 0 else 1)<30))=true:=by rfl)
  (i:(h.endLine==d.line)=true:=by rfl) (l:starEach [e] X.env= [(false,eval e X.env)]:=by rfl):PE X (.Call (.Attribute o "append" h) [e] [] d) (tD (md X) (Aj nZ f (av g aw))):=
 iO (sC PySem.F.plainAttrs_list PySem.F.slot_list_append PySem.F.type_list_append mB m (fI n nN l) j k i l) (G1 E7)
end
section
variable{X:Cx}{a b c e:Expr}{pos:Pos}{st:Stmt}
def kR:List D->List D->Option (List D×D):=λd f=>match f with
 | [.int i]=>if -(2^63)<=i/\i<2^63 then(seqIndex? i d.length).bind λk=>(d[k]?).bind λy=>some (d.eraseIdx k,y) else none
 |_=>none
def CC{M:Md}:Fk M BH kR:=by
 intro u H a w t s d o x Q n f g e q
 unfold kR at e
 split at e
 ·split at e
  ·rename_i i j
   obtain⟨k,h,e⟩:=aq e
   obtain⟨y,l,e⟩:=aq e
   obtain⟨rfl,rfl⟩:=bz e
   cases g with
   | cons g p=>
     cases p
     cases g
     obtain⟨v,r,m⟩:=f.get l
     rw[f.length] at h
     exact⟨a,o,i,k,v,rfl,rfl,n,j.1,j.2,h,r,q _ _ (f.eraseIdx k) m⟩
  ·cases e
 ·cases e
def Iu{f:aU}{g:aU}{o:Expr}{h d:Pos}(m:PE X o (tD (md X) f))(n:PE X e (tD (md X) g))(j:attributeBase o "pop" X.env (eval o X.env)=eval o X.env:=by rfl) (k:((backTo d (starEach [e] X.env)).all (λx=> !x.1)&&(backToKw d (keywordEach [] X.env)).all (λx=>x.1.isSome)
   &&decide ([e].length+([]:List Keyword).length+(if ([]:List Keyword).isEmpty then 0 else 1)<30))=true:=by rfl)
  (i:(h.endLine==d.line)=true:=by rfl) (l:starEach [e] X.env= [(false,eval e X.env)]:=by rfl):PE X (.Call (.Attribute o "pop" h) [e] [] d) (tD (md X) (Aj kR f (av g aw))):=
 iO (sC PySem.F.plainAttrs_list PySem.F.slot_list_pop PySem.F.type_list_pop CF m (fI n nN l) j k i l) (G1 CC)
def B7(f:aU)(g:dg):aU:=λd S=>(f d S).bind λ(x,i)=>match x with
 | .ref k=>(g d i).bind λ(p,h)=>match i[k]?,h[k]? with
   |some (.lst _),some (.lst ds)=>if p.2.isM=true/\ds.length+p.1.length<=sizeLine then some (.non,h.set k (.lst (ds++p.1))) else none
   |_,_=>none
 |_=>none
def Hu{f:aU}{g:dg}:∀n H Q,tD (md X) (B7 f g) n H Q->IR X.K "list" zf (tD (md X) f) (AN (tQ (md X) g) Ff) n H Q:=λn H Q F=>by
 obtain⟨N,s,S,d,S',ok,e,q⟩:=F
 obtain⟨⟨x,A⟩,C,e⟩:=aq e
 cases x with
 | ref k=>
   dsimp only at e
   obtain⟨⟨⟨L,t⟩,U⟩,e2,e⟩:=aq e
   dsimp only at e
   split at e
   · rename_i W ds r j
     split at e
     · rename_i c
       obtain⟨rfl,rfl⟩:=bz e
       refine⟨N,s,S,_,A,ok,C,λm v H1 y i Y=> ?_⟩
       cases Y with
       | ref z=>
         rename_i a
         obtain⟨o,Z,_⟩:=i.obj k a _ z r
         refine⟨.inl ⟨rfl,o,gr.of Z⟩,m,s,A,L,t,U,ok.to y i,e2,λG b P H2 w h J u=> ?_⟩
         have l:=bV w.pre z
         obtain⟨R,M,B⟩:=h.obj k a _ l j
         refine⟨a,b,R,P,rfl,rfl,M,J.sqM c.1,by rw[←B.length,←u.length];exact c.2,?_⟩
         obtain⟨p,I⟩:=h.putL l j (B.append u)
         exact q _ _ _ ((y.trans w).trans I) p .non
     · cases e
   · cases e
 |_=>cases e
def G7{f:aU}{g:dg}{o:Expr}{h d:Pos}(m:PE X o (tD (md X) f))(n:PE X e (tQ (md X) g))(j:attributeBase o "extend" X.env (eval o X.env)=eval o X.env:=by rfl) (k:((backTo d (starEach [e] X.env)).all (λx=> !x.1)&&(backToKw d (keywordEach [] X.env)).all (λx=>x.1.isSome)
   &&decide ([e].length+([]:List Keyword).length+(if ([]:List Keyword).isEmpty then 0 else 1)<30))=true:=by rfl)
  (i:(h.endLine==d.line)=true:=by rfl) (l:starEach [e] X.env= [(false,eval e X.env)]:=by rfl):PE X (.Call (.Attribute o "extend" h) [e] [] d) (tD (md X) (B7 f g)):=
 iO (sC PySem.F.plainAttrs_list PySem.F.slot_list_extend PySem.F.type_list_extend AD m (cB n eE l) j k i l) Hu
def DC(f g:aU):jB:=λd h S=>(f h S).bind λ(x,m)=>(g h m).bind λ(y,l)=>match x,y with
 | .ref k,.int i=>match l[k]? with
   |some (.lst ds)=>(yu ds.length i).bind λj=>some (h,l.set k (.lst (ds.set j d)))
   |_=>none
 |_,_=>none
def JL{f g:aU}:∀v o H Q,tG (md X) (DC f g) v o H Q->Ib (tD (md X) f) (tD (md X) g) Eo v o H Q:=λv o H Q K=>by
 obtain⟨N,t,S,d,J,Y,ok,r,e,q⟩:=K
 obtain⟨⟨x,C⟩,G,e⟩:=aq e
 obtain⟨⟨y,R⟩,W,e⟩:=aq e
 cases x with
 | ref k=>
   cases y with
   | int i=>
     dsimp only at e
     split at e
     · rename_i ds u
       obtain⟨j,U,e⟩:=aq e
       obtain⟨rfl,rfl⟩:=bz e
       refine⟨N,t,S,_,C,ok,G,λm Z H1 A n s=>⟨m,t,C,_,R,ok.to A n,W,λL v2 H2 w h I=> ?_⟩⟩
       cases I
       have s:=s.ext w
       cases s with
       | ref B=>
         obtain⟨P,M,F⟩:=h.obj k _ _ B u
         have l:=A.trans w
         obtain⟨p,z⟩:=h.putL B u (aL.set (r.ext l) j F)
         exact⟨_,P,i,j,rfl,rfl,M,by rw[←F.length];exact U,q _ _ _ (l.trans z) ((ok.to l h).to z p)⟩
     · cases e
   |_=>cases e
 |_=>cases e
def KL{o i:Expr}{f g:aU}(d:PE X o (tD (md X) f))(hi:PE X i (tD (md X) g))
  (h:∀v,assign (.Subscript o i pos) X.env v=(do
   let ov←holding [v] (eval o X.env)
   let iv←holding [v,ov] (eval i X.env)
   standAt pos
   holding [v,ov,iv] (setItem ov iv v)
   release [v,ov,iv] []):=by intro _;rfl):PG X (.Subscript o i pos) (tG (md X) (DC f g)):=IY (EI d hi set_list h) JL
def IH(f g h:aU):cx:=λd S=>(f d S).bind λ(x,p)=>(g d p).bind λ(y,o)=>match x,y with
 | .ref k,.int i=>match o[k]? with
   | some (.lst ds)=>if 0<=i then(ds[i.toNat]?).bind λz=>(h d o).bind λ(w,l)=>match z,w,l[k]? with
     |.int m,.int n,some (.lst es)=>(yu es.length i).bind λj=>some (.nx d (l.set k (.lst (es.set j (.int (m+n))))))
     |_,_,_=>none
     else none
   |_=>none
 |_,_=>none
def JO{o i e:Expr}{f g h:aU}{t:Pos}(ho:PE X o (tD (md X) f))(hi:PE X i (tD (md X) g))(he:PE X e (tD (md X) h))
  (B:∀C A new,augStore i C A new=(do holding [new,C,A] (setItem C A new);release [new,C,A] [];pure .next):=by intros;rfl):PS X (.AugAssign (.Subscript o i t) .Add e pos) (tS (md X) (IH f g h)):=
 As (DZ ho hi AW he Fl set_list B) λD σ H qq=>by
  obtain⟨ρ,F,S,o,ok,e,q⟩:=qq
  obtain⟨⟨x,W⟩,e1,e⟩:=aq e
  obtain⟨⟨y,Z⟩,e2,e⟩:=aq e
  cases x with
  | ref k=>
    cases y with
    | int i=>
      dsimp only at e
      split at e
      · rename_i ds hs
        split at e
        · rename_i hi
          obtain⟨z,e3,e⟩:=aq e
          obtain⟨⟨w,N⟩,e4,e⟩:=aq e
          cases z with
          | int m=>
            cases w with
            | int n=>
              cases d:N[k]? with
              |none=>rw[d] at e;cases e
              | some o3=>
                rw[d] at e
                cases o3 with
                | lst es=>
                  dsimp only at e
                  obtain⟨j,e5,e⟩:=aq e
                  cases e
                  refine⟨ρ,F,S,_,W,ok,e1,λG v1 H1 R I M=>⟨G,F,W,_,Z,ok.to R I,e2,λK v2 H2 P p r2=> ?_⟩⟩
                  cases r2
                  have M:=M.ext P
                  cases M with
                  | ref B=>
                    have u:=R.trans P
                    obtain⟨vs,h3,h4⟩:=p.obj k _ _ B hs
                    obtain⟨v,h5,h6⟩:=h4.get e3
                    cases h6
                    refine⟨_,vs,i.toNat,_,rfl,by rw[Int.toNat_of_nonneg hi],gr.of h3,h5,K,F,Z,_,N,ok.to u p,e4,λa1 v3 H3 Q l r3=> ?_⟩
                    cases r3
                    have r:=bV Q.pre B
                    obtain⟨J,g3,U⟩:=l.obj k _ _ r d
                    have s:=u.trans Q
                    obtain⟨L,Y⟩:=l.putL r d (aL.set (.int (m+n)) j U)
                    exact⟨m,n,rfl,rfl,_,J,i,j,rfl,rfl,g3,by rw[←U.length];exact e5,q _ _ _ (s.trans Y) ((ok.to s l).to Y L)⟩
                |_=>cases e
            |_=>cases e
          |_=>cases e
        · cases e
      · cases e
    |_=>cases e
  |_=>cases e
def CV(i j:Nat)(f:fD):cx:=λd S=>(f d S).bind λ(h,g)=>match h with
 | [v,w]=>some (.nx ((d.set i (some v)).set j (some w)) g)
 |_=>none
def GY{i j:Nat}{f:fD}(h:PS X st (Gs i j (ve (md X) f))):PS X st (tS (md X) (CV i j f)):=As h λD u H m=>by
 obtain⟨p,l,S,o,ok,e,q⟩:=m
 obtain⟨⟨v,s⟩,k,e⟩:=aq e
 dsimp only at e
 split at e
 ·cases e
  refine⟨p,l,S,_,s,ok,k,λn w t x st r=> ?_⟩
  cases r with
  | cons r d=>
    cases d with
    | cons g d=>
      cases d
      exact⟨_,_,rfl,q _ _ _ x ⟨((ok.en.ext x).set r).set g,st⟩⟩
 ·cases e
end
def cX(cells:List (Str×Addr)):List (Str×NameKind)->List (Str×Addr)->List (Str×Addr)
 | [],acc=>acc
 |(n,k)::r,acc=>if (k==.free)=true then cX cells r ((n,(cells.lookup n).getD 0)::acc) else cX cells r acc
theorem mU{env:Env}:∀(names:List (Str×NameKind)) (b:List (Str×Addr)),(∀y∈names,y.2=.free->(env.cells.lookup y.1).isSome=true)→
  (forIn names b λ(x:Str×NameKind) (f:List (Str×Addr))=>(do
   if (x.2==NameKind.free)=true then do
    let c←cellOf env x.1
    pure (ForInStep.yield ((x.1,c)::f))
   else pure (ForInStep.yield f):Sem (ForInStep (List (Str×Addr)))))=(pure (cX env.cells names b):Sem _)
 | [],b,_=>rfl
 | (n,k)::r,b,h=>by
   rw[List.forIn_cons]
   unfold cX
   by_cases c:(k==NameKind.free)=true
   · obtain⟨a,e⟩:=Option.isSome_iff_exists.mp (h (n,k) QBq (by simpa using c))
     simp only[c,if_true]
     have g:cellOf env n=pure a:=by
       unfold cellOf
       rw[e]
     rw[g,pure_bind,pure_bind,e]
     exact mU r _ λy d=>h y (Qpq _ d)
   · simp only[c,Bool.false_eq_true,if_false]
     rw[pure_bind]
     exact mU r _ λy d=>h y (Qpq _ d)
def BV{a:Scope}{env:Env}(h:∀y∈a.names,y.2=.free->(env.cells.lookup y.1).isSome=true):closureFor a env=pure (cX env.cells a.names []):=by
 unfold closureFor
 have:=mU a.names [] h
 rw[bind_pure]
 exact this
theorem oY{cells:List (Str×Addr)}:∀(names:List (Str×NameKind)) (a:List (Str×Addr)) (p:Str×Addr),p∈cX cells names a->p∈a\/∃n,(n,NameKind.free)∈names/\p=(n,(cells.lookup n).getD 0)
 | [],a,p,h=>.inl h
 | (n,k)::r,a,p,h=>by
   unfold cX at h
   split at h
   · rename_i c
     rcases oY r _ p h with h|⟨m,b,d⟩
     · rcases Qsq.mp h with h|h
       · exact .inr ⟨n,by rw[show k=NameKind.free by simpa using c];exact QBq,h⟩
       · exact .inl h
     · exact .inr ⟨m,Qpq _ b,d⟩
   · rcases oY r _ p h with h|⟨m,b,d⟩
     · exact .inl h
     · exact .inr ⟨m,Qpq _ b,d⟩
theorem qA{cells:List (Str×Addr)}{x:Str}:∀(names:List (Str×NameKind)) (a:List (Str×Addr)),((x,NameKind.free)∈names\/∃c,(x,c)∈a)->∃c,(x,c)∈cX cells names a
 | [],a,h=>by
   rcases h with h|h
   · cases h
   · exact h
 | (n,k)::r,a,h=>by
   unfold cX
   split
   · rename_i c
     refine qA r _ ?_
     rcases h with h|⟨c,h⟩
     · rcases Qsq.mp h with h|h
       · cases h;exact .inr ⟨_,QBq⟩
       · exact .inl h
     · exact .inr ⟨c,Qpq _ h⟩
   · rename_i c
     refine qA r _ ?_
     rcases h with h|h
     · rcases Qsq.mp h with h|h
       · cases h;exact absurd rfl c
       · exact .inl h
     · exact .inr h
theorem jY{x:Str}{c:Addr}:∀{l:List (Str×Addr)},(x,c)∈l->∃b,l.lookup x=some b
 | [],h=>by cases h
 | (n,d)::r,h=>by
   unfold List.lookup
   by_cases e:(x==n)=true
   · rw[e];exact⟨d,rfl⟩
   · have a:(x==n)=false:=by simpa using e
     rw[a]
     rcases Qsq.mp h with h|h
     · cases h;simp at e
     · exact jY h
def oX(b:List Str)(a:Str->Option NameKind)(names:List (Str×NameKind)):List (Option Nat)->List Str->Bool
 |some j::js,x::N=>(b[j]? ==some x)&&(a x==some .cell||a x==some .free)&&(names.lookup x==some .free)&&oX b a names js N
 |none::js,_::N=>oX b a names js N
 |_,_=>true
theorem o9{b:List Str}{a:Str->Option NameKind}{names:List (Str×NameKind)}:∀{js:List (Option Nat)} {N:List Str} {k j:Nat} {x:Str},oX b a names js N=true->js[k]?=some (some j)->N[k]?=some x->b[j]?=some x/\(a x=some .cell\/a x=some .free)/\names.lookup x=some .free
 | some i::js,y::N,0,j,x,h,h1,h2=>by
   cases h1
   cases h2
   simp only[oX,QCq,Bool.or_eq_true,beq_iff_eq] at h
   exact⟨h.1.1.1,h.1.1.2,h.1.2⟩
 | some i::js,y::N,k+1,j,x,h,h1,h2=>by
   simp only[oX,QCq] at h
   exact o9 h.2 (by simpa using h1) (by simpa using h2)
 |none::js,y::N,0,j,x,h,h1,h2=>by cases h1
 |none::js,y::N,k+1,j,x,h,h1,h2=>o9 (k:=k) (by simpa [oX] using h) (by simpa using h1) (by simpa using h2)
 | [],N,k,j,x,h,h1,h2=>by simp at h1
 |some i::js,[],k,j,x,h,h1,h2=>by simp at h2
 |none::js,[],k,j,x,h,h1,h2=>by simp at h2
theorem lz{env:Env}{x:Str}:∀{names:List (Str×NameKind)},names.lookup x=some .free->(names.map λ(n,k)=>if (k==NameKind.free&&env.scope.kind==.function&&env.kindOf n==some .cell) then(n,NameKind.cell) else(n,k)).lookup x=some .cell∨
  (names.map λ(n,k)=>if (k==NameKind.free&&env.scope.kind==.function&&env.kindOf n==some .cell) then(n,NameKind.cell) else(n,k)).lookup x=some .free
 | [],h=>by cases h
 | (n,k)::r,h=>by
   unfold List.lookup at h
   rw[QDq]
   by_cases e:(x==n)=true
   · rw[e] at h
     cases h
     dsimp only
     split
     · left;unfold List.lookup;rw[e]
     · right;unfold List.lookup;rw[e]
   · have a:(x==n)=false:=by simpa using e
     rw[a] at h
     have b:=lz (env:=env) h
     dsimp only
     split <;>(unfold List.lookup;rw[a];exact b)
def aH.gen{X:Cx}{N:List Str}{js:List (Option Nat)}{d:Scope}(k:d.kind=.function)(p:d.names.all (λy=>y.2 !=.cell)=true)(t:d.names.all (λy=>y.2 !=.local||d.names.lookup y.1==some .local)=true)
  (q:d.names.all (λy=>y.2 !=.free||(X.env.cells.lookup y.1).isSome)=true) (w:oX X.N X.env.kindOf d.names js N=true) (A:js.length=N.length):aH X N js d (cX X.env.cells d.names []) where
 kind:=k
 nocell:=λy f=>by
  have:=QUq.mp p y f
  simpa using this
 names:=λy f e=>by
  have:=QUq.mp t y f
  rw[e] at this
  simpa using this
 clos:=BV λy f e=>by
  have:=QUq.mp q y f
  rw[e] at this
  simpa using this
 sub:=λx c h=>by
  rcases oY _ _ _ (PySem.mem_of_lookup h) with h|⟨n,m,e⟩
  ·cases h
  ·cases e
   have:=QUq.mp q _ m
   have r:(X.env.cells.lookup x).isSome=true:=by simpa using this
   obtain⟨c,g⟩:=Option.isSome_iff_exists.mp r
   rw[g]
   rfl
 has:=λx h=>by
  have l:(x,NameKind.free)∈d.names:=by
   have:∃k,(relabel d X.env).names.lookup x=some k/\(k=.cell\/k=.free):=by
    rcases h with h|h
    ·exact⟨_,h,.inl rfl⟩
    ·exact⟨_,h,.inr rfl⟩
   obtain⟨B,s,g⟩:=this
   have o:=PySem.mem_of_lookup s
   unfold relabel at o
   obtain⟨⟨n,v⟩,f,i⟩:=Qkq.mp o
   dsimp only at i
   split at i
   ·rename_i c
    cases i
    simp only[QCq] at c
    have:v=NameKind.free:=by simpa using c.1.1
    rw[←this]
    exact f
   ·cases i
    rcases g with z|z
    ·have:=QUq.mp p _ f
     rw[z] at this
     simp at this
    ·rw[←z];exact f
  obtain⟨c,g⟩:=qA (cells:=X.env.cells) d.names [] (.inl l)
  exact jY g
 cap:=λk j x u m=>by
  obtain⟨a,b,c⟩:=o9 w u m
  refine⟨a,b,?_⟩
  unfold relabel
  exact lz c
 len:=A
structure dZ(P:Program)(w:World)(K:PySem.W.Frag)(mg:Str->Option Value)(base:Heap)(k:Nat)(x:Str)(ps:List Str)(F:cI):Prop where
 ex:∃f fd,aV P w K mg base de k f fd ps (dq ⟨K,mg⟩ ps.length F)/\Binds K fd ps []/\PySem.W.keepIn K (.ref f)=true/\mg x=some (.ref f)
section
variable{X:Cx}{x:Str}{k n:Nat}{ps:List Str}{F:cI}{e:Expr}{es:List Expr}{g:fD}{p pos:Pos}
def GI(C:dZ X.prog X.w X.K X.mg X.base k x ps F)(d:dS k X.A)(h:Gl X x)(i:PA X (e::es) (ve (md X) g))(j:nA ps.length g)
  (a:(x==("__debug__":Str))=false:=by decide) (he:starEach (e::es) X.env=(false,eval e X.env)::starEach es X.env:=by rfl) (hpl:(backTo pos (starEach es X.env)).any (·.1)=false:=by rfl):
  PE X (.Call (.Name x p) (e::es) [] pos) (tD (md X) (az F g)):=by
 obtain⟨f,l,G,b,c,m⟩:=C.ex
 exact FS G d h m c b i j a he hpl
def HK(C:dZ X.prog X.w X.K X.mg X.base k x ps F)(d:dS k X.A)(h:Gl X x)(i:PA X (e::es) (ve (md X) g))(j:nA ps.length g)
  (a:(x==("__debug__":Str))=false:=by decide) (he:starEach (e::es) X.env=(false,eval e X.env)::starEach es X.env:=by rfl) (hpl:(backTo pos (starEach es X.env)).any (·.1)=false:=by rfl):
  PE X (.Call (.Name x p) (e::es) [] pos) (tL (md X) (dJ F g)):=by
 obtain⟨f,l,G,b,c,m⟩:=C.ex
 exact EN G d h m c b i j a he hpl
end
def dZ.mono{P:Program}{w:World}{K:PySem.W.Frag}{mg:Str->Option Value}{base:Heap}{j k:Nat}{x:Str}{ps:List Str}{F:cI}(C:dZ P w K mg base j x ps F)(h:j<=k):dZ P w K mg base k x ps F:=by
 obtain⟨f,c,G,b,a,m⟩:=C.ex
 exact⟨f,c,G.mono h,b,a,m⟩
structure Bl(mg:Str->Option Value):Prop where
 len:mg "len"=none
 tuple:mg "tuple"=none
 list:mg "list"=none
 dict:mg "dict"=none
 set:mg "set"=none
 int:mg "int"=none
 str:mg "str"=none
 bool:mg "bool"=none
 all:mg "all"=none
 any:mg "any"=none
 range:mg "range"=none
 zip:mg "zip"=none
 sorted:mg "sorted"=none
 isi:mg "isinstance"=none
 min:mg "min"=none
 max:mg "max"=none
 abs:mg "abs"=none
 enum:mg "enumerate"=none
open AutoSeq1 in
def kF(l:Addr)(items:Array Value)(n:Nat)(b:Addr)(a:Array Value)(m:Nat)(o:Option Addr)(p:Array (Option Value))(k:¬(!items.isEmpty&&Builtin.List.listTooLong (items.size+a.size))=true)(f:items.size<=sizeLine)(c:items.size+a.size<=sizeLine+1):
  Meets (Builtin.«list.extend» ⟨[.ref l,.ref b],[]⟩) (λ_ R s=>s.heap.get? l=some {cls:=.type "list",dict:=none,data:=.seq items n,slots:= #[]}/\s.heap.get? b=some {cls:=.type "tuple",dict:=o,data:=.seq a m,slots:=p}/\R (.ok (.ret Value.none)) {s with heap:=s.heap.update l (Obj.mapSeq λx=>x++a),toks:=s.toks}):=
 .of_wp λj w A R s h=>by
  obtain⟨y,g,d,v,B⟩:=s;obtain⟨i,q,h⟩:=h;have z:=idx_int;have r:=AutoSeq1.sub_tuple_tuple;have C:=AutoSeq1.sub_list_list;have t:=AutoSeq1.sub_tuple_list;have u:=AutoSeq1.sub_list_tuple;
  have e:(items++a).size<=sizeLine+1:=by rw[Array.size_append];exact c
  wp_walk using (wpAny_updateSeq i rfl (hz:=f) (_hz':=e)),AutoSeq1.wpAny_loadPart' i,AutoSeq1.wpAny_loadPart' q;exact⟨_,rfl,h⟩
section
variable{X:Cx}{a b c e:Expr}{pos:Pos}{st:Stmt}
def DQ:Il X "list.extend" (λx vs H Q=>∃l b xs i,x=.ref l/\vs= [.ref b]/\H l=some (.lst xs)/\gB X.K H b i/\xs.length+i.length<=sizeLine/\Q .non (upd H l (.lst (xs++i)))):=by
 intro o s N H x vs v R Q I A w h
 obtain⟨l,b,xs,i,rfl,rfl,hH,hB,hz,q⟩:=h
 cases A
 obtain⟨u,rfl,ru⟩:=w.one
 cases ru
 obtain⟨z,f,n,r,P,e⟩:=I.lstM hH
 obtain⟨d,k,⟨⟨G,C,B,J⟩,M,p,y,m⟩,t⟩:=I.tuple hB
 have L:=k.length
 simp only at p m
 subst p m
 have j:f.toArray.size+d.toArray.size<=sizeLine:=by rw[Qjq,Qjq];omega
 have g:¬(!f.toArray.isEmpty&&Builtin.List.listTooLong (f.toArray.size+d.toArray.size))=true:=by
  rw[p8 j,Bool.and_false]
  exact Qtq
 refine call_meets F.slot_list_extend ⟨_,e,rfl⟩ F.entry_list_extend (F.args_list_extend_2 _ _)
  (kF l f.toArray n b d.toArray y C J g (by rw[Qjq];omega) (by omega)) ⟨e,M,?_⟩
 refine⟨.non,_,I.lset (its':=f++d) hH e (by simp) (r.append k) ?_,rfl,q⟩
 rw[lQa]
 omega
def rL(f:aU)(g:dg):aU:=λd S=>(f d S).bind λ(x,i)=>match x with
 | .ref k=>(g d i).bind λ(p,h)=>match i[k]?,h[k]? with
   |some (.lst _),some (.lst ds)=>if p.2.isL=false/\ds.length+p.1.length<=sizeLine then some (.non,h.set k (.lst (ds++p.1))) else none
   |_,_=>none
 |_=>none
def Fz{f:aU}{g:dg}:∀p H Q,tD (md X) (rL f g) p H Q->IR X.K "list" (λx vs H Q=>∃l b xs o,x=.ref l/\vs= [.ref b]/\H l=some (.lst xs)/\gB X.K H b o/\xs.length+o.length<=sizeLine/\Q .non (upd H l (.lst (xs++o)))) (tD (md X) f) (AN (tQ (md X) g) Ff) p H Q:=λp H Q I=>by
 obtain⟨R,w,S,d,S',ok,e,q⟩:=I
 obtain⟨⟨x,C⟩,G,e⟩:=aq e
 cases x with
 | ref k=>
   dsimp only at e
   obtain⟨⟨⟨N,t⟩,W⟩,e2,e⟩:=aq e
   dsimp only at e
   split at e
   · rename_i Y ds u j
     split at e
     · rename_i c
       obtain⟨rfl,rfl⟩:=bz e
       refine⟨R,w,S,_,C,ok,G,λn v H1 A i Z=> ?_⟩
       cases Z with
       | ref B=>
         rename_i a
         obtain⟨r,g1,_⟩:=i.obj k a _ B u
         refine⟨.inl ⟨rfl,r,gr.of g1⟩,n,w,C,N,t,W,ok.to A i,e2,λJ b U H2 z h M y=> ?_⟩
         have m:=bV z.pre B
         obtain⟨vs,P,F⟩:=h.obj k a _ m j
         refine⟨a,b,vs,U,rfl,rfl,P,M.sqT c.1,by rw[←F.length,←y.length];exact c.2,?_⟩
         obtain⟨s,L⟩:=h.putL m j (F.append y)
         exact q _ _ _ ((A.trans z).trans L) s .non
     · cases e
   · cases e
 |_=>cases e
def Gk{f:aU}{g:dg}{o:Expr}{h d:Pos}(m:PE X o (tD (md X) f))(n:PE X e (tQ (md X) g))(j:attributeBase o "extend" X.env (eval o X.env)=eval o X.env:=by rfl) (k:((backTo d (starEach [e] X.env)).all (λx=> !x.1)&&(backToKw d (keywordEach [] X.env)).all (λx=>x.1.isSome)
   &&decide ([e].length+([]:List Keyword).length+(if ([]:List Keyword).isEmpty then 0 else 1)<30))=true:=by rfl)
  (i:(h.endLine==d.line)=true:=by rfl) (l:starEach [e] X.env= [(false,eval e X.env)]:=by rfl):PE X (.Call (.Attribute o "extend" h) [e] [] d) (tD (md X) (rL f g)):=
 iO (sC PySem.F.plainAttrs_list PySem.F.slot_list_extend PySem.F.type_list_extend DQ m (cB n eE l) j k i l) Fz
def lH(x:V):List V->Option Nat
 | []=>none
 |y::r=>if oz y x=true then some 0 else(lH x r).map (·+1)
theorem yS{x:V}:∀{xs:List V} {j:Nat},lH x xs=some j->(∃y,xs[j]?=some y/\oz y x=true)/\∀m y,m<j->xs[m]?=some y->oz y x=false
 | [],_,h=>by cases h
 | y::r,j,h=>by
   unfold lH at h
   split at h
   · rename_i c
     cases h
     exact⟨⟨y,rfl,c⟩,λm _ f=>absurd f (Nat.not_lt_zero _)⟩
   · rename_i c
     obtain⟨i,n,rfl⟩:=oQm.mp h
     obtain⟨⟨z,l,g⟩,k⟩:=yS n
     refine⟨⟨z,by simpa using l,g⟩,λm w f d=> ?_⟩
     cases m with
     |zero=>cases d;simpa using c
     |succ m=>exact k m w (by omega) (by simpa using d)
def Cw:Jf X "list.index" (λx vs H Q=>∃a xs y j,x=.ref a/\vs= [y]/\gr X.K H a xs/\fm y=true/\xs.all fm=true/\lH y xs=some j/\Q (.int (j:Nat)) H):=by
 intro G s σ H x vs v us Q I U N h
 obtain⟨a,xs,y,j,rfl,rfl,hq,fy,fs,hj,q⟩:=h
 cases U
 obtain⟨u,rfl,ru⟩:=N.one
 obtain⟨f,r,R,hz⟩:=I.list hq
 obtain⟨⟨Z,dd,Y,sl⟩,n,e,J,g,B⟩:=R
 simp only at J g B
 subst J g B
 obtain⟨⟨z,o,W⟩,h3⟩:=yS hj
 have hl:=r.length
 have S:j<xs.length:=(gQs.mp o).1
 obtain⟨w,l,A⟩:=r.get o
 have p:f.toArray[j]'(by rw[Qjq];omega)=w:=by
  have:=(gQs.mp l).2
  simpa using this
 have C:=jv
 refine call_meets PySem.F.slot_list_index ⟨_,e,rfl⟩ PySem.F.entry_list_index (PySem.F.args_list_index_2 _ _)
  (SeqAt.list_indexAt a f.toArray n none sl u (wK y) j (by rw[Qjq];omega) (by omega) (by rw[p,ug A (QUq.mp fs z (mQg o))];exact W) λm L k=> ?_)
  ⟨e,λw l=>gW ru fy r fs w (by simpa using l),⟨.int j,H,I.tok _,⟨_,rfl⟩,q⟩⟩
 have d:m<xs.length:=by rw[Qjq] at L;omega
 obtain⟨M,t,i⟩:=r.get (gQe d)
 have P:f.toArray[m]=M:=by
  have:=(gQs.mp t).2
  simpa using this
 rw[P,ug i (QUq.mp fs _ (List.getElem_mem d))]
 exact h3 m _ k (gQe d)
end
end DL
namespace Zq
open PySem
def It(t:Bool)(h:Heap)(i a:Addr)(k:Nat):Prop:=if t=true then h.IsTupleIter i a k else h.IsListIter i a k
def Sq(t:Bool)(h:Heap)(a:Addr)(xs:Array Value):Prop:=if t=true then h.IsTuple a xs else h.IsList a xs
section
variable{t t2:Bool}{h h':Heap}{i j a b z O T:Addr}{k:Nat}{xs ys:Array Value}
theorem It.at(g:It t h i a k)(f:∀o,h.get? i=some o->h'.get? i=some o):It t h' i a k:=by
 cases t with
 |true=>exact(show h.IsTupleIter i a k from g).at f
 |false=>exact(show h.IsListIter i a k from g).at f
def It.ext{c:Addr}(g:It t h i a k)(f:Heap.ExtBut c h h')(n:i≠c):It t h' i a k:=g.at λo e=>f i o n e
def Sq.at(g:Sq t h a xs)(f:∀o,h.get? a=some o->h'.get? a=some o):Sq t h' a xs:=by
 cases t with
 |true=>obtain⟨o,e,r⟩:=(show h.IsTuple a xs from g);exact(show h'.IsTuple a xs from⟨o,f o e,r⟩)
 |false=>obtain⟨o,e,r⟩:=(show h.IsList a xs from g);exact(show h'.IsList a xs from⟨o,f o e,r⟩)
def Sq.ext{c:Addr}(g:Sq t h a xs)(f:Heap.ExtBut c h h')(n:a≠c):Sq t h' a xs:=g.at λo e=>f a o n e
def It.obj(g:It t h i a k):∃o,h.get? i=some o/\∀v,o.data≠.cell v:=by
 cases t with
 |true=>obtain⟨o,e,_,d⟩:=(show h.IsTupleIter i a k from g);exact⟨o,e,λv n=>by rw[d] at n;cases n⟩
 |false=>obtain⟨o,e,_,d⟩:=(show h.IsListIter i a k from g);exact⟨o,e,λv n=>by rw[d] at n;cases n⟩
end
section
variable{prog:Program}{w:World}{A:Around}{E:Value->Shared->Prop}{s:Shared}{t t2:Bool}{z T O i j a b:Addr}{k:Nat}{xs ys:Array Value}{x y u v:Value}
def draw{Q:Value->Shared->Prop}(d:It t s.heap i a k)(e:Sq t s.heap a xs)(c:xs[k]?=some v)
  (q:∀h',It t h' i a (k+1)->Heap.SameBut i s.heap h'->Q v {s with heap:=h'}):wpAny (model prog w) A (Builtin.SmallTypes.nextOf (.ref i)) Q E s:=by
 cases t with
 |true=>exact Zp.HX d e c q
 |false=>exact wpAny_nextOf_list_item d e c q
def yE{Q:Value->Shared->Prop}(d:A.handled=none)(f:It t s.heap i a k)(g:Sq t s.heap a xs)(c:xs[k]?=none)
  (q:∀h' e,Heap.ExtBut i s.heap h'->(∃o,h'.get? e=some o/\o.cls=.type "StopIteration")->E (.ref e) {s with heap:=h'}):wpAny (model prog w) A (Builtin.SmallTypes.nextOf (.ref i)) Q E s:=by
 cases t with
 |true=>exact Zp.Gw d f g c q
 |false=>exact wpAny_nextOf_list_end d f g c q
abbrev qE(h:Heap)(z T O:Addr)(c d:Value):Prop:=
 h.get? z=some {cls:=.type "zip",dict:=none,data:=.fields #[c,d,.bool false,.ref T,.ref O],slots:= #[]}
def item(D:ZipApart z T O i j a b){Q:Value->Shared->Prop}(m:qE s.heap z T O .none (.bool false))(gT:IsPair s.heap T (.ref i) (.ref j))(gO:IsPair s.heap O u v)(gi:It t s.heap i a k)(gj:It t2 s.heap j b k)
  (ga:Sq t s.heap a xs) (gb:Sq t2 s.heap b ys) (ex:xs[k]?=some x) (ey:ys[k]?=some y)
  (q:∀h',qE h' z T O (rawInt s.heap.objs.size) (.bool false)->IsPair h' O x y->It t h' i a (k+1)->It t2 h' j b (k+1)->IsPair h' s.heap.objs.size x y->Zp.Rest z O i j s.heap h'->Q (.ref s.heap.objs.size) {s with heap:=h'}):
  wpAny (model prog w) A (Builtin.«zip.__next__» ⟨[.ref z],[]⟩) (λJ s'=>∃r,J=.done (.ret r)/\Q r s') E s:=by
 refine(?_:wpAny _ _ (field (.ref z) 2 >>= _) _ _ _)
 refine Qaq (QMq m rfl (x:=.bool false) rfl ?_)
 refine(?_:wpAny _ _ (field (.ref z) 3 >>= _) _ _ _)
 refine Qaq (QMq m rfl (x:=.ref T) rfl (Qaq (wpAny_seqItems gT rfl ?_)))
 refine(?_:wpAny _ _ (Builtin.SmallTypes.ownedTupleIsFree (.ref z) >>= _) _ _ _)
 refine Qaq ?_
 unfold Builtin.SmallTypes.ownedTupleIsFree
 refine Qaq (QMq m rfl (x:=.none) rfl (Qgq ?_))
 simp only[if_true]
 refine Qaq (wpAny_rule (Qaq (QMq m rfl (x:=.ref O) rfl (Qaq (wpAny_setField_rec m (by simp) λh1 I f=> ?_)))))
 replace I:qE h1 z T O .ellipsis (.bool false):=I
 refine Qaq ?_
 simp only[List.zipIdx_cons,List.zipIdx_nil,List.forIn_nil,List.forIn_cons]
 refine Qaq (Qaq (wpAny_onRaise ?_))
 refine(?_:wpAny _ _ (Builtin.SmallTypes.nextOf (.ref i) >>= _) _ _ _)
 refine Qaq (draw (gi.ext f.extBut D.i1z) (ga.ext f.extBut D.l1z) ex λh2 i2 h=>Qgq ?_)
 have Z:IsPair h2 O u v:=h.extBut _ _ D.TOi1 (f.extBut _ _ D.TOz gO)
 refine Qaq (wpAny_seqItems Z rfl (Qaq (wpAny_updateSeq_pair Z λh3 K l=>Qaq (wpAny_letGo (Qgq ?_)))))
 replace K:IsPair h3 O x v:=K
 refine Qaq (Qaq (wpAny_onRaise ?_))
 refine(?_:wpAny _ _ (Builtin.SmallTypes.nextOf (.ref j) >>= _) _ _ _)
 refine Qaq (draw (((gj.ext f.extBut D.i2z).ext h.extBut D.i12.symm).ext l.extBut D.TOi2.symm) (((gb.ext f.extBut D.l2z).ext h.extBut D.l2i1).ext l.extBut D.l2TO) ey λh4 j4 n=>Qgq ?_)
 have W:IsPair h4 O x v:=n.extBut _ _ D.TOi2 K
 refine Qaq (wpAny_seqItems W rfl (Qaq (wpAny_updateSeq_pair W λd B p=>Qaq (wpAny_letGo (Qgq (Qgq ?_))))))
 replace B:IsPair d O x y:=B
 refine Qaq (wpAny_seqItems B rfl (Qaq (wpAny_newTuple ?_)))
 have Y:d.objs.size=s.heap.objs.size:=by rw[p.1,n.1,l.1,h.1,f.1]
 have P:qE d z T O .ellipsis (.bool false):=p.extBut _ _ D.TOz.symm (n.extBut _ _ D.i2z.symm (l.extBut _ _ D.TOz.symm (h.extBut _ _ D.i1z.symm I)))
 have r5:Zp.Rest z O i j s.heap d:=λc o g H N L e=>p.extBut _ _ H (n.extBut _ _ L (l.extBut _ _ H (h.extBut _ _ N (f.extBut _ _ g e))))
 have i5:It t d i a (k+1):=((i2.ext l.extBut D.TOi1.symm).ext n.extBut D.i12).ext p.extBut D.TOi1.symm
 have j5:It t2 d j b (k+1):=j4.ext p.extBut D.TOi2.symm
 have S:z<d.objs.size:=Qiq P
 refine(?_:wpAny _ _ (Builtin.SmallTypes.ownedTupleHandOut (.ref z) (.ref d.objs.size) >>= _) _ _ _)
 refine Qaq ?_
 unfold Builtin.SmallTypes.ownedTupleHandOut
 have z6:qE (d.push {cls:=.type "tuple",data:=.seq #[x,y]}) z T O .ellipsis (.bool false):=Qcq _ P
 refine Qaq (wpAny_setField_rec z6 (by simp) λh7 M U=> ?_)
 replace M:qE h7 z T O (rawInt d.objs.size) (.bool false):=M
 refine wpAny_setField_rec M (by simp) λG F X=> ?_
 replace F:qE G z T O (rawInt d.objs.size) (.bool false):=F
 have C:∀c o,c≠z->d.get? c=some o->G.get? c=some o:=λc o g e=>X.extBut _ _ g (U.extBut _ _ g (Qcq _ e))
 have R:IsPair G d.objs.size x y:=X.extBut _ _ (Nat.ne_of_gt S) (U.extBut _ _ (Nat.ne_of_gt S) (Qrq _ rfl))
 rw[Y] at F R
 refine Qgq ⟨_,rfl,?_⟩
 refine(?_:Q (.ref d.objs.size) _)
 rw[Y]
 exact q G F (C _ _ D.TOz B) (i5.at λo e=>C _ o D.i1z e) (j5.at λo e=>C _ o D.i2z e) R λc o g H N L e=>C c o g (r5 c o g H N L e)
def alive{α:Addr}{Q:Option Obj->Shared->Prop}(h:Q (s.heap.get? α) s):wpAny (model prog w) A (loadIfAlive α) Q E s:=λ_ _ _=>h
def again(D:ZipApart z T O i j a b){p:Addr}{Z:Obj}{m:Value}{Q:Value->Shared->Prop}(g:qE s.heap z T O (rawInt p) m)(N:s.heap.get? p=some Z)(S:IsPair s.heap T (.ref i) (.ref j))(P:It t s.heap i a k)(X:It t2 s.heap j b k)
  (Y:Sq t s.heap a xs) (M:Sq t2 s.heap b ys) (ex:xs[k]?=some x) (U:ys[k]?=some y)
  (q:∀h',qE h' z T O (rawInt p) (.bool true)->It t h' i a (k+1)->It t2 h' j b (k+1)->IsPair h' s.heap.objs.size x y->Zp.Rest z O i j s.heap h'->Q (.ref s.heap.objs.size) {s with heap:=h'}):
  wpAny (model prog w) A (Builtin.«zip.__next__» ⟨[.ref z],[]⟩) (λI C=>∃r,I=.done (.ret r)/\Q r C) E s:=by
 refine(?_:wpAny _ _ (field (.ref z) 2 >>= _) _ _ _)
 refine Qaq (QMq g rfl (x:=.bool false) rfl ?_)
 refine(?_:wpAny _ _ (field (.ref z) 3 >>= _) _ _ _)
 refine Qaq (QMq g rfl (x:=.ref T) rfl (Qaq (wpAny_seqItems S rfl ?_)))
 refine(?_:wpAny _ _ (Builtin.SmallTypes.ownedTupleIsFree (.ref z) >>= _) _ _ _)
 refine Qaq ?_
 unfold Builtin.SmallTypes.ownedTupleIsFree
 refine Qaq (QMq g rfl (x:=rawInt p) rfl ?_)
 refine(?_:wpAny _ _ (loadIfAlive ((p:Int).toNat) >>= _) _ _ _)
 refine Qaq ?_
 rw[Int.toNat_natCast]
 refine alive ?_
 rw[N]
 refine(?_:wpAny _ _ (field (.ref z) 1 >>= _) _ _ _)
 refine Qaq (QMq g rfl (x:=m) rfl ?_)
 have H:wpAny (model prog w) A (if (m !=Value.bool true)=true then(do let _←setField (.ref z) 1 (.bool true);pure false) else pure false)
   (λr C=>r=false/\∃l,C={s with heap:=l}/\qE l z T O (rawInt p) (.bool true)/\Heap.SameBut z s.heap l) E s:=by
  by_cases c:(m !=Value.bool true)=true
  ·rw[Qhq c]
   exact Qaq (wpAny_setField_rec g (by simp) λl J d=>Qgq ⟨rfl,l,rfl,J,d⟩)
  ·rw[Quq c]
   have e:m=Value.bool true:=by simpa using c
   subst e
   exact Qgq ⟨rfl,s.heap,rfl,g,Heap.SameBut.refl _ _⟩
 refine QRq H (λr C G=> ?_) λ_ _ h=>h
 obtain⟨rfl,l,rfl,J,d⟩:=G
 simp only[Bool.false_eq_true,if_false]
 refine Qaq ?_
 simp only[List.forIn_toArray,List.forIn_cons,List.forIn_nil]
 refine Qaq (Qaq (QLq ?_))
 refine(?_:wpAny _ _ (Builtin.SmallTypes.nextOf (.ref i) >>= _) _ _ _)
 refine Qaq (draw (P.ext d.extBut D.i1z) (Y.ext d.extBut D.l1z) ex λh2 i2 n=>Qgq (Qgq ?_))
 refine Qaq (Qaq (QLq ?_))
 refine(?_:wpAny _ _ (Builtin.SmallTypes.nextOf (.ref j) >>= _) _ _ _)
 refine Qaq (draw ((X.ext d.extBut D.i2z).ext n.extBut D.i12.symm) ((M.ext d.extBut D.l2z).ext n.extBut D.l2i1) U λf L F=>Qgq (Qgq (Qgq ?_)))
 refine Qaq (wpAny_newTuple ?_ (by show 2<=_;decide))
 have sz:f.objs.size=s.heap.objs.size:=by rw[F.1,n.1,d.1]
 have B:∀c o,f.get? c=some o->(f.push {cls:=.type "tuple",data:=.seq #[x,y]}).get? c=some o:=λc o e=>Qcq _ e
 have K:IsPair (f.push {cls:=.type "tuple",data:=.seq #[x,y]}) f.objs.size x y:=Qrq _ rfl
 have W:qE (f.push {cls:=.type "tuple",data:=.seq #[x,y]}) z T O (rawInt p) (.bool true):=B _ _ (F.extBut _ _ D.i2z.symm (n.extBut _ _ D.i1z.symm J))
 refine Qgq ⟨_,rfl,?_⟩
 refine(?_:Q (.ref f.objs.size) _)
 rw[sz] at K⊢
 exact q _ W ((i2.ext F.extBut D.i12).at λo e=>B _ o e) (L.at λo e=>B _ o e) K λc o R c2 c3 c4 e=>B c o (F.extBut _ _ c4 (n.extBut _ _ c3 (d.extBut _ _ R e)))
def stop(D:ZipApart z T O i j a b){Q:Fin->Shared->Prop}(N:A.handled=none)(d:qE s.heap z T O .none (.bool false))(G:IsPair s.heap T (.ref i) (.ref j))(C:It t s.heap i a k)(J:Sq t s.heap a xs)(ex:xs[k]?=none)
  (q:∀h' e,Zp.Rest z O i j s.heap h'->(∃o,h'.get? e=some o/\o.cls=.type "StopIteration")->E (.ref e) {s with heap:=h'}):
  wpAny (model prog w) A (Builtin.«zip.__next__» ⟨[.ref z],[]⟩) Q E s:=by
 refine(?_:wpAny _ _ (field (.ref z) 2 >>= _) _ _ _)
 refine Qaq (QMq d rfl (x:=.bool false) rfl ?_)
 refine(?_:wpAny _ _ (field (.ref z) 3 >>= _) _ _ _)
 refine Qaq (QMq d rfl (x:=.ref T) rfl (Qaq (wpAny_seqItems G rfl ?_)))
 refine(?_:wpAny _ _ (Builtin.SmallTypes.ownedTupleIsFree (.ref z) >>= _) _ _ _)
 refine Qaq ?_
 unfold Builtin.SmallTypes.ownedTupleIsFree
 refine Qaq (QMq d rfl (x:=.none) rfl (Qgq ?_))
 simp only[if_true]
 refine Qaq (wpAny_rule (Qaq (QMq d rfl (x:=.ref O) rfl (Qaq (wpAny_setField_rec d (by simp) λK g f=> ?_)))))
 replace g:qE K z T O .ellipsis (.bool false):=g
 refine Qaq ?_
 simp only[List.zipIdx_cons,List.zipIdx_nil,List.forIn_nil,List.forIn_cons]
 refine Qaq (Qaq (wpAny_onRaise ?_))
 refine(?_:wpAny _ _ (Builtin.SmallTypes.nextOf (.ref i) >>= _) _ _ _)
 refine Qaq (yE N (C.ext f.extBut D.i1z) (J.ext f.extBut D.l1z) ex λI e r M=> ?_)
 obtain⟨F,h,l⟩:=M
 have m:qE I z T O .ellipsis (.bool false):=r _ _ D.i1z.symm g
 have H:e≠z:=λn=>by rw[n,m] at h;cases h;simp at l
 exact wpAny_setField_rec m (by simp) λP _ B=>q P e (λc o p _ L _ n=>B.extBut _ _ p (r _ _ L (f.extBut _ _ p n))) ⟨F,B.extBut _ _ H h,l⟩
def Ht(D:ZipApart z T O i j a b){p:Addr}{N:Obj}{l:Value}{Q:Fin->Shared->Prop}(S:A.handled=none)(d:qE s.heap z T O (rawInt p) l)(G:s.heap.get? p=some N)(J:IsPair s.heap T (.ref i) (.ref j))(H:It t s.heap i a k)(M:Sq t s.heap a xs)(ex:xs[k]?=none)
  (q:∀h' e,Zp.Rest z O i j s.heap h'->(∃o,h'.get? e=some o/\o.cls=.type "StopIteration")->E (.ref e) {s with heap:=h'}):
  wpAny (model prog w) A (Builtin.«zip.__next__» ⟨[.ref z],[]⟩) Q E s:=by
 refine(?_:wpAny _ _ (field (.ref z) 2 >>= _) _ _ _)
 refine Qaq (QMq d rfl (x:=.bool false) rfl ?_)
 refine(?_:wpAny _ _ (field (.ref z) 3 >>= _) _ _ _)
 refine Qaq (QMq d rfl (x:=.ref T) rfl (Qaq (wpAny_seqItems J rfl ?_)))
 refine(?_:wpAny _ _ (Builtin.SmallTypes.ownedTupleIsFree (.ref z) >>= _) _ _ _)
 refine Qaq ?_
 unfold Builtin.SmallTypes.ownedTupleIsFree
 refine Qaq (QMq d rfl (x:=rawInt p) rfl ?_)
 refine(?_:wpAny _ _ (loadIfAlive ((p:Int).toNat) >>= _) _ _ _)
 refine Qaq ?_
 rw[Int.toNat_natCast]
 refine alive ?_
 rw[G]
 refine(?_:wpAny _ _ (field (.ref z) 1 >>= _) _ _ _)
 refine Qaq (QMq d rfl (x:=l) rfl ?_)
 have B:wpAny (model prog w) A (if (l !=Value.bool true)=true then(do let _←setField (.ref z) 1 (.bool true);pure false) else pure false)
   (λr C=>r=false/\∃f,C={s with heap:=f}/\qE f z T O (rawInt p) (.bool true)/\Heap.SameBut z s.heap f) E s:=by
  by_cases c:(l !=Value.bool true)=true
  ·rw[Qhq c]
   exact Qaq (wpAny_setField_rec d (by simp) λf F g=>Qgq ⟨rfl,f,rfl,F,g⟩)
  ·rw[Quq c]
   have e:l=Value.bool true:=by simpa using c
   subst e
   exact Qgq ⟨rfl,s.heap,rfl,d,Heap.SameBut.refl _ _⟩
 refine QRq B (λr C m=> ?_) λ_ _ h=>h
 obtain⟨rfl,f,rfl,F,g⟩:=m
 simp only[Bool.false_eq_true,if_false]
 refine Qaq ?_
 simp only[List.forIn_toArray,List.forIn_cons,List.forIn_nil]
 refine Qaq (Qaq (QLq ?_))
 refine(?_:wpAny _ _ (Builtin.SmallTypes.nextOf (.ref i) >>= _) _ _ _)
 refine Qaq (yE S (H.ext g.extBut D.i1z) (M.ext g.extBut D.l1z) ex λL e P K=> ?_)
 exact q L e (λc o I _ R _ n=>P _ _ R (g.extBut _ _ I n)) K
def Zs(h:Heap)(z T O i j:Addr):Prop:=qE h z T O .none (.bool false)/\(∃u v,IsPair h O u v)\/∃(p:Addr) (d:Obj) (c:Value),qE h z T O (rawInt (p:Nat)) c/\h.get? p=some d/\p≠z/\p≠O/\p≠i/\p≠j
def Zs.but{h h':Heap}{S:Addr}(g:Zs h z T O i j)(f:∀c o,c≠S->h.get? c=some o->h'.get? c=some o)(e:z≠S)(q:O≠S)(r:∃o,h'.get? S=some o):Zs h' z T O i j:=by
 rcases g with⟨d,u,v,B⟩|⟨p,C,l,d,m,n⟩
 ·exact .inl ⟨f _ _ e d,u,v,f _ _ q B⟩
 ·by_cases c:p=S
  ·subst c
   obtain⟨o,F⟩:=r
   exact .inr ⟨p,o,l,f _ _ e d,F,n⟩
  ·exact .inr ⟨p,C,l,f _ _ e d,f _ _ c m,n⟩
def Bd(D:ZipApart z T O i j a b){Q:Option Value->Shared->Prop}(d:Zs s.heap z T O i j)(K:IsPair s.heap T (.ref i) (.ref j))(n:It t s.heap i a k)(r:It t2 s.heap j b k)
  (P:Sq t s.heap a xs) (H:Sq t2 s.heap b ys) (ex:xs[k]?=some x) (L:ys[k]?=some y)
  (q:∀h',Zs h' z T O i j->It t h' i a (k+1)->It t2 h' j b (k+1)->IsPair h' s.heap.objs.size x y->Zp.Rest z O i j s.heap h'->Q (some (.ref s.heap.objs.size)) {s with heap:=h'}):
  wpAny (model prog w) A (pyNext (.ref z)) Q E s:=by
 unfold pyNext
 have h:∀{c o},s.heap.get? c=some o->s.heap.objs.size≠c:=λe=>Nat.ne_of_gt (Qiq e)
 obtain⟨X,W,_⟩:=n.obj
 obtain⟨Y,S,_⟩:=r.obj
 rcases d with⟨d,u,v,M⟩|⟨p,U,Z,d,I,J,N,R,G⟩
 ·have f:s.TypeIs (.ref z) "zip":=⟨_,d,rfl⟩
  exact Qaq (wpAny_attempt (QiQ (name:=Str.ofString "__next__") f F.slot_zip_next (wpAny_call_entry F.slot_zip_next f F.entry_zip_next
   (item D d K M n r P H ex L λh' B a2 m C g l=>Qgq (q h' (.inr ⟨_,_,_,B,g,h d,h M,h W,h S⟩) m C g l)) (F.args_zip_next_1 _))))
 ·have f:s.TypeIs (.ref z) "zip":=⟨_,d,rfl⟩
  exact Qaq (wpAny_attempt (QiQ (name:=Str.ofString "__next__") f F.slot_zip_next (wpAny_call_entry F.slot_zip_next f F.entry_zip_next
   (again D d I K n r P H ex L λh' B m C g l=>Qgq (q h' (.inr ⟨p,U,_,B,l _ _ J N R G I,J,N,R,G⟩) m C g l)) (F.args_zip_next_1 _))))
def u9(D:ZipApart z T O i j a b){Q:Option Value->Shared->Prop}(n:A.handled=none)(c:Zs s.heap z T O i j)(l:IsPair s.heap T (.ref i) (.ref j))(h:It t s.heap i a k)(m:Sq t s.heap a xs)(ex:xs[k]?=none)
  (q:∀h',Zp.Rest z O i j s.heap h'->Q none {s with heap:=h'}):wpAny (model prog w) A (pyNext (.ref z)) Q E s:=by
 unfold pyNext
 rcases c with⟨c,u,v,C⟩|⟨p,H,G,c,B,_⟩
 ·have d:s.TypeIs (.ref z) "zip":=⟨_,c,rfl⟩
  exact Qaq (wpAny_attempt (QiQ (name:=Str.ofString "__next__") d F.slot_zip_next (wpAny_call_entry F.slot_zip_next d F.entry_zip_next
   (stop D n c l h m ex λh' e r ⟨o,f,g⟩=>Qaq (wpAny_isInstance (T:="StopIteration") (b:=true) ⟨o,f,g⟩ isSubtype_stop (Qgq (q _ r)))) (F.args_zip_next_1 _))))
 ·have d:s.TypeIs (.ref z) "zip":=⟨_,c,rfl⟩
  exact Qaq (wpAny_attempt (QiQ (name:=Str.ofString "__next__") d F.slot_zip_next (wpAny_call_entry F.slot_zip_next d F.entry_zip_next
   (Ht D n c B l h m ex λh' e r ⟨o,f,g⟩=>Qaq (wpAny_isInstance (T:="StopIteration") (b:=true) ⟨o,f,g⟩ isSubtype_stop (Qgq (q _ r)))) (F.args_zip_next_1 _))))
end
def Je(t:Bool):String:=if t=true then "tuple_iterator" else "list_iterator"
abbrev H1(t:Bool)(h:Heap)(a:Addr):Heap:=h.push {cls:=.type (Je t),data:=.fields #[.ref a,.int 0 0]}
abbrev H2(t t2:Bool)(h:Heap)(a b:Addr):Heap:=(H1 t h a).push {cls:=.type (Je t2),data:=.fields #[.ref b,.int 0 0]}
abbrev H3(t t2:Bool)(h:Heap)(a b:Addr):Heap:=(H2 t t2 h a b).push {cls:=.type "tuple",data:=.seq #[.ref h.objs.size,.ref (H1 t h a).objs.size]}
abbrev H4(t t2:Bool)(h:Heap)(a b:Addr):Heap:=(H3 t t2 h a b).push {cls:=.type "tuple",data:=.seq #[.none,.none]}
abbrev H5(t t2:Bool)(h:Heap)(a b:Addr):Heap:=(H4 t t2 h a b).push {cls:=.type "zip",data:=.fields #[.none,.bool false,.bool false,.ref (H2 t t2 h a b).objs.size,.ref (H3 t t2 h a b).objs.size]}
def Sq.push{t:Bool}{h:Heap}{a:Addr}{xs:Array Value}(g:Sq t h a xs)(o:Obj):Sq t (h.push o) a xs:=g.at λ_ e=>Qcq _ e
def zU(t t2:Bool)(a b:Addr)(xs ys:Array Value):Meets (Builtin.«zip.__new__» ⟨[.type "zip",.ref a,.ref b],[]⟩) (λ_ R s=>Sq t s.heap a xs/\Sq t2 s.heap b ys/\R (.ok (.ret (.ref (H4 t t2 s.heap a b).objs.size))) {s with heap:=H5 t t2 s.heap a b}):=
 .of_wp λm w A R s h=>by
  obtain⟨f,g,d,e,i⟩:=s
  obtain⟨l,n,h⟩:=h
  have o:=sub_zip
  have c:=n.push {cls:=.type (Je t),data:=.fields #[.ref a,.int 0 0]}
  cases t <;>cases t2
  ·have j:Heap.IsList (Shared.heap ⟨f,g,d,e,i⟩) a xs:=l
   have k:Heap.IsList (Shared.heap ⟨f.push {cls:=.type "list_iterator",data:=.fields #[.ref a,.int 0 0]},g,d,e,i⟩) b ys:=c
   wp_walk using wpAny_pyIter_list j,wpAny_pyIter_list k
   exact⟨_,rfl,h⟩
  ·have j:Heap.IsList (Shared.heap ⟨f,g,d,e,i⟩) a xs:=l
   have k:Heap.IsTuple (Shared.heap ⟨f.push {cls:=.type "list_iterator",data:=.fields #[.ref a,.int 0 0]},g,d,e,i⟩) b ys:=c
   wp_walk using wpAny_pyIter_list j,wpAny_pyIter_tuple k
   exact⟨_,rfl,h⟩
  ·have j:Heap.IsTuple (Shared.heap ⟨f,g,d,e,i⟩) a xs:=l
   have k:Heap.IsList (Shared.heap ⟨f.push {cls:=.type "tuple_iterator",data:=.fields #[.ref a,.int 0 0]},g,d,e,i⟩) b ys:=c
   wp_walk using wpAny_pyIter_tuple j,wpAny_pyIter_list k
   exact⟨_,rfl,h⟩
  ·have j:Heap.IsTuple (Shared.heap ⟨f,g,d,e,i⟩) a xs:=l
   have k:Heap.IsTuple (Shared.heap ⟨f.push {cls:=.type "tuple_iterator",data:=.fields #[.ref a,.int 0 0]},g,d,e,i⟩) b ys:=c
   wp_walk using wpAny_pyIter_tuple j,wpAny_pyIter_tuple k
   exact⟨_,rfl,h⟩
section
variable{prog:Program}{w:World}{A:Around}{E:Value->Shared->Prop}{s:Shared}
def Ef{t t2:Bool}{a b:Addr}{xs ys:Array Value}{Q:Value->Shared->Prop}(p:Sq t s.heap a xs)(m:Sq t2 s.heap b ys)
  (q:∀h',qE h' (s.heap.objs.size+4) (s.heap.objs.size+2) (s.heap.objs.size+3) .none (.bool false)->IsPair h' (s.heap.objs.size+2) (.ref s.heap.objs.size) (.ref (s.heap.objs.size+1))->IsPair h' (s.heap.objs.size+3) .none .none→
   It t h' s.heap.objs.size a 0->It t2 h' (s.heap.objs.size+1) b 0->(∀c o,s.heap.get? c=some o->h'.get? c=some o)->Q (.ref (s.heap.objs.size+4)) {s with heap:=h'}):
  wpAny (model prog w) A (call (.type "zip") [.ref a,.ref b]) Q E s:=by
 refine callType_new F.called_zip (by decide) (F.typeCall_zip_2 _ _) (F.newCall_zip_2 _ _) (λe=>F.args_object_init_3 e _ _) F.entry_zip_new (zU t t2 a b xs ys) ⟨p,m,?_⟩
 have d:(H1 t s.heap a).objs.size=s.heap.objs.size+1:=Heap.size_push ..
 have h:(H2 t t2 s.heap a b).objs.size=s.heap.objs.size+2:=by rw[Heap.size_push,d]
 have g:(H3 t t2 s.heap a b).objs.size=s.heap.objs.size+3:=by rw[Heap.size_push,h]
 have i:(H4 t t2 s.heap a b).objs.size=s.heap.objs.size+4:=by rw[Heap.size_push,g]
 have f:(H5 t t2 s.heap a b).get? (H4 t t2 s.heap a b).objs.size=some _:=Qrq _ rfl
 have j:(H5 t t2 s.heap a b).get? (H3 t t2 s.heap a b).objs.size=some _:=Qcq _ (Qrq _ rfl)
 have l:(H5 t t2 s.heap a b).get? (H2 t t2 s.heap a b).objs.size=some _:=Qcq _ (Qcq _ (Qrq _ rfl))
 have k:(H5 t t2 s.heap a b).get? (H1 t s.heap a).objs.size=some _:=Qcq _ (Qcq _ (Qcq _ (Qrq _ rfl)))
 have r:(H5 t t2 s.heap a b).get? s.heap.objs.size=some _:=Qcq _ (Qcq _ (Qcq _ (Qcq _ (Qrq _ rfl))))
 refine(?_:_/\_)
 rw[h,g,i] at f
 rw[d,h] at l
 rw[g] at j
 rw[d] at k
 rw[i]
 refine⟨⟨_,f,rfl⟩,q _ f l j ?_ ?_ λc o n=>Qcq _ (Qcq _ (Qcq _ (Qcq _ (Qcq _ n))))⟩
 ·cases t <;>exact⟨_,r,rfl,rfl⟩
 ·cases t2 <;>exact⟨_,k,rfl,rfl⟩
end
def mG:typeLookup (.type "zip") "__getattr__"=pure none:=by rw[typeLookup_type,builtinLookup_eq_fast];kernel_rfl
def hX:entryFor table "zip.__getattribute__"=some Builtin.«object.__getattribute__»:=
 entryFor_alias (id':="object.__getattribute__") (by kernel_rfl) (by decide +kernel) (by decide +kernel) (by kernel_rfl)
def oq:typeLookup (Value.type "zip") (Str.ofString "keys")=pure none:=by
 rw[typeLookup_type,builtinLookup_eq_fast]
 rfl
def p_(a:Addr)(fs:Array Value)(name:Str)(u:Tok)(e:typeLookup (.type "zip") name=pure none)(b:(["__module__","__name__","__qualname__","__doc__","__annotations__"]:List Str).contains name=false)(hsz:name.length+100<=sizeLine:=by size_fits):
  Meets (Builtin.«object.__getattribute__» ⟨[.ref a,.str name u],[]⟩) (λA R s=>s.heap.get? a=some {cls:=.type "zip",dict:=none,data:=.fields fs,slots:= #[]}/\raisesAttr (.ref a) name A R s):=
 Meets.of_wp λf w A R s c=>by
  obtain⟨i,g,d,h,k⟩:=s
  obtain⟨j,c⟩:=c
  have l:(⟨i,g,d,h,k⟩:Shared).TypeIs (.ref a) "zip":=⟨_,j,rfl⟩
  unfold Builtin.«object.__getattribute__»
  repeat (any_goals (first|assumption|wp_step))
  simp only[b,Bool.false_eq_true,if_false]
  repeat (any_goals (first|assumption|wp_step))
  exact wpAny_raiseAttrError c.1 c.2 (attrMsg_fits (by decide +kernel) hsz)
def mD{prog:Program}{w:World}{A:Around}{E:Value->Shared->Prop}{s:Shared}{a:Addr}{fs:Array Value}{Q:Option Value->Shared->Prop}
  (j:s.heap.get? a=some {cls:=.type "zip",dict:=none,data:=.fields fs,slots:= #[]}) (u:A.handled=none)
  (h:∀(h':Heap) (i:Nat),(∀b o,s.heap.get? b=some o->h'.get? b=some o)->Q none {s with heap:=h',toks:=i}):
  wpAny (model prog w) A (getAttr? (.ref a) (Str.ofString "keys")) Q E s:=by
 obtain⟨r,g,d,i,m⟩:=s
 have t:∀x,Shared.TypeIs ⟨r,g,d,x,m⟩ (.ref a) "zip":=λx=>⟨_,j,rfl⟩
 have l:=sub_AttributeError
 have v:=F.slot_zip_getattribute.lookup
 have n:=F.slot_zip_getattribute.bind (Value.ref a)
 have p:=mG
 unfold getAttr? mkText getAttrBy? getAttrBy
 refine Qaq (Qaq (wpAny_fresh' (Qgq (Qaq (wpAny_attempt (QLq ?_))))))
 unfold typeOf
 refine Qaq (Qaq (wpAny_loadPart' j (Qgq (Qaq (wpAny_of_eq v (QgQ rfl ?_))))))
 unfold getAttrByItsOwn hookBefore
 refine Qaq (QgQ rfl (Qgq (Qaq (wpAny_attempt (QLq ?_)))))
 unfold callGetattribute
 refine QgQ rfl ?_
 unfold boundAndCalled
 refine Qaq (wpAny_of_eq n ?_)
 refine call_meets F.slot_zip_getattribute (t (i+1)) hX (F.args_zip_getattribute_2 (Value.ref a) _) (p_ a fs (Str.ofString "keys") i oq (by decide +kernel) (by decide +kernel)) ⟨j,u,λh' f e c=> ?_⟩
 obtain⟨y,z,q⟩:=c.there
 have k:Shared.TypeIs ⟨h',g,d,f,m⟩ (.ref e) "AttributeError":=⟨_,q,rfl⟩
 show wpAny _ _ (getattributeRaised _ _ _ _ _ _ _) _ _ _
 unfold getattributeRaised
 refine Qaq (wpAny_isInstance k l (wpAny_ite_true rfl ?_))
 unfold hookBehind hookOrError
 refine Qaq (QgQ rfl (wpAny_of_eq p ?_))
 show wpAny _ _ (attributeErrorLeaves _ _ _ _ _) _ _ _
 unfold attributeErrorLeaves
 refine wpAny_ite_true rfl (wpAny_throw ?_)
 exact Qaq (wpAny_isInstance k l (wpAny_ite_true rfl (Qgq (h h' f c.keeps))))
def qS{prog:Program}{w:World}{A:Around}{E:Value->Shared->Prop}{s:Shared}{z:Addr}{fs:Array Value}{Q:Value->Shared->Prop}
  (l:s.heap.get? z=some {cls:=.type "zip",dict:=none,data:=.fields fs,slots:= #[]}) (m:A.handled=none)
  (h:∀(h':Heap) (d:Nat),(∀b o,(s.heap.push {cls:=.type "dict",data:=.dict #[]}).get? b=some o->h'.get? b=some o)→
   wpAny (model prog w) A.in1.in1 (pyIter (.ref z)) (λit f=>codeAny (model prog w) A.in1 (.builtin "dict.update.loop" {pos:= [.ref s.heap.objs.size,it,rawInt 0,.none]}) (wants (λr c=>r=.none/\Q (.ref s.heap.objs.size) c) E) f) E {s with heap:=h',toks:=d}):
  wpAny (model prog w) A (call (.type "dict") [.ref z]) Q E s:=by
 refine Dk.nM ?_
 have i:=Qrq s.heap (o:={cls:=.type "dict",data:=.dict #[]}) rfl
 have k:Shared.TypeIs {s with heap:=s.heap.push {cls:=.type "dict",data:=.dict #[]}} (.ref s.heap.objs.size) "dict":=⟨_,i,rfl⟩
 have a:=Qcq {cls:=.type "dict",data:=.dict #[]} l
 have j:Shared.TypeIs {s with heap:=s.heap.push {cls:=.type "dict",data:=.dict #[]}} (.ref z) "zip":=⟨_,a,rfl⟩
 unfold Builtin.«dict.__init__» Builtin.Dict.selfAndRest
 refine Qaq (Qaq (wpAny_notOrdered_dict k ?_))
 refine Qaq (Qgq (Qgq ?_))
 show wpAny _ _ (Builtin.Dict.updateFrom _ _ _ _ _) _ _ _
 unfold Builtin.Dict.updateFrom
 refine Qaq (wpAny_typeOf j (wpAny_ite_true (by decide +kernel) (Qaq (mD a (by simpa using m) λh' d g=> ?_))))
 refine wpAny_ite_true rfl ?_
 refine Qaq (wpAny_rule (Qaq (QRq (h h' d g) (λit f q=> ?_) λe f q=>q)))
 exact Qgq ⟨plainId_quiet (by decide +kernel) _,q⟩
end Zq
namespace Zq
open PySem Dk
section
variable{prog:Program}{w:World}{K:Type}[DecidableEq K]{knd:KeyKind prog w K}{z T O i j a b S:Addr}{t t2:Bool}{xs ys:Array Value}
def xA{A:Around}{R:Result->Shared->Prop}(hA:A.in1.handled=none)(D:ZipApart z T O i j a b)(nS:S≠z/\S≠T/\S≠O/\S≠i/\S≠j/\S≠a/\S≠b)(a5:a≠T/\b≠T)(f:Nat->K)(x:∀(n:Nat) v,xs[n]?=some v->knd.is (f n) v=true)(a6:xs.size<=ys.size)(hn:xs.size<=sizeLine):
  ∀ (m n:Nat) (c:Int) (s:Shared),xs.size-n=m->n<=xs.size->Zs s.heap z T O i j->IsPair s.heap T (.ref i) (.ref j)->It t s.heap i a n->It t2 s.heap j b n->Sq t s.heap a xs->Sq t2 s.heap b ys->Heap.DictOf knd s.heap S (Ah f (λn=>ys.getD n .none) n)→
    (∀h' M,Heap.DictOf knd h' S (Ah f (λn=>ys.getD n .none) xs.size)->(∀c o,c≠z->c≠O->c≠i->c≠j->c≠S->s.heap.get? c=some o->h'.get? c=some o)->R (.ok (.ret .none)) {s with heap:=h',toks:=M})→
    codeAny (model prog w) A (.builtin "dict.update.loop" {pos:= [.ref S,.ref z,rawInt c,.none]}) R s:=by
 obtain⟨n1,n2,P,Y,n5,n6,n7⟩:=nS
 intro m
 induction m with
 | zero=>
   intro n c s hm a2 W y L gj C I Q h
   have e:n=xs.size:=by omega
   subst e
   refine codeAny_builtin fj ?_
   rw[Around.under_plainId cU]
   show wpAny _ _ (do let __x←pyNext (.ref z);_) _ _ _
   refine Qaq (u9 D hA W y L C (by simp) λh' r=> ?_)
   refine Qaq (Qgq (Qgq (h h' s.toks ?_ λc o g l k p _ e=>r c o g l k p e)))
   obtain⟨o,X,H,h1,h2⟩:=Q
   exact⟨o,X,H,r _ _ n1 P Y n5 h1,h2⟩
 | succ m ih=>
   intro n c s hm a2 W y L gj C I Q h
   have q:n<xs.size:=by omega
   have ex:xs[n]?=some xs[n]:=by simp[q]
   have ey:ys[n]?=some ys[n]:=by simp[show n<ys.size by omega]
   refine codeAny_builtin fj ?_
   rw[Around.under_plainId cU]
   show wpAny _ _ (do let __x←pyNext (.ref z);_) _ _ _
   refine Qaq (Bd D W y L gj C I ex ey λhp a1 G Z gp r=> ?_)
   have N:Heap.DictOf knd hp S (Ah f (λn=>ys.getD n .none) n):=by
     obtain⟨o,X,H,h1,h2⟩:=Q
     exact⟨o,X,H,r _ _ n1 P Y n5 h1,h2⟩
   refine Qaq (QLq (Qaq (wpAny_tryCatch ?_)))
   unfold Builtin.Dict.pairItems
   refine Qaq (wpAny_typeOf (T:="tuple") ⟨_,gp,rfl⟩ (wpAny_ite_true rfl (Qaq ?_)))
   unfold seqItems?
   refine Qaq (wpAny_load' gp (Qgq (Qgq (QLq (wpAny_dictSet_pairs (x n _ ex) N (λh' u hs=> ?_) (QAq (ue f _ n) (by omega)))))))
   have ev:ys.getD n .none=ys[n]:=by simp[Array.getD,show n<ys.size by omega]
   have B:∀c o,c≠S->hp.get? c=some o->h'.get? c=some o:=λc o hc e=>by rw[hs.2 c hc];exact e
   have d:∀c o,c≠z->c≠O->c≠i->c≠j->c≠S->s.heap.get? c=some o->h'.get? c=some o:=λc o g l k p F e=>B c o F (r c o g l k p e)
   have J:∃o,h'.get? S=some o:=by obtain⟨o,_,_,e,_⟩:=u;exact⟨o,e⟩
   have a3:Heap.DictOf knd h' S (Ah f (λn=>ys.getD n .none) (n+1)):=by
     show Heap.DictOf knd h' S (stored _ (f n) (ys.getD n .none))
     rw[ev]
     exact u
   refine Qgq ⟨plainId_quiet cU _,ih (n+1) (c+1) _ (by omega) q (a1.but B n1.symm P.symm J) ?_ (G.at λo e=>B _ o Y.symm e) (Z.at λo e=>B _ o n5.symm e) ?_ ?_ a3 λa4 M U k4=>h a4 M U λc o g l k p F e=>k4 c o g l k p F (d c o g l k p F e)⟩
   · exact d _ _ D.TIz D.TITO D.TIi1 D.TIi2 n2.symm y
   · exact C.at λo e=>d _ o D.l1z D.l1TO D.l1i1 D.l1i2 n6.symm e
   · exact I.at λo e=>d _ o D.l2z D.l2TO D.l2i1 D.l2i2 n7.symm e
end
end Zq
namespace L2
open PySem PySem.Spec PyProof.Rows Zq
section
variable{X:Cx}
def wj(K:PySem.W.Frag)(t:Bool)(H:Hp)(a:Addr)(xs:List V):Prop:=if t=true then gB K H a xs else gr K H a xs
def Inv.sq{c:List (Addr×Obj)}{d:St}{H:Hp}{s:Shared}{t:Bool}{a:Addr}{xs:List V}(I:Inv X c d H s)(h:wj X.K t H a xs):∃b:List Value,aX xs b/\Sq t s.heap a b.toArray/\xs.length<=sizeLine:=by
 cases t with
 | true=>
   obtain⟨b,r,p,z⟩:=I.tuple h
   exact⟨b,r,(show s.heap.IsTuple a b.toArray from p),z⟩
 | false=>
   obtain⟨b,r,p,z⟩:=I.list h
   exact⟨b,r,(show s.heap.IsList a b.toArray from p.isList),z⟩
def Sq.lt{t:Bool}{h:Heap}{a:Addr}{xs:Array Value}(g:Sq t h a xs):a<h.objs.size:=by
 cases t with
 |true=>obtain⟨o,e,_⟩:=(show h.IsTuple a xs from g);exact Qiq e
 |false=>obtain⟨o,e,_⟩:=(show h.IsList a xs from g);exact Qiq e
def F4(K:PySem.W.Frag):List V->Hp->VK->Prop:=λe H Q=>∃(t f:Bool) (a b:Addr) (c:List Key) (d:List V),e= [.ref a,.ref b]/\wj K t H a (c.map kV)/\wj K f H b d/\c.length=d.length/\∀p,H p=none->Q (.ref p) (upd H p (.dK (fe [] (c.zip d))))
def wY{x y:Expr}{ta:TA}{p1 R c1 P:Pos}(B:X.calm=true)(a1:Gl X "dict")(a4:X.mg "dict"=none)(hg:Gl X "zip")(hm:X.mg "zip"=none)(ha:PA X [x,y] ta)(hs:starEach [x,y] X.env= [(false,eval x X.env),(false,eval y X.env)]:=by rfl)(J:starEach [y] X.env= [(false,eval y X.env)]:=by rfl)
  (he:starEach [Expr.Call (.Name "zip" R) [x,y] [] P] X.env= [(false,eval (Expr.Call (.Name "zip" R) [x,y] [] P) X.env)]:=by rfl):
  PE X (.Call (.Name "dict" p1) [.Call (.Name "zip" R) [x,y] [] P] [] c1) (IS (F4 X.K) ta):=by
 intro C s σ H Q I h
 refine wpAny_Call_Name_kw (jg I a1 a4 (by rfl) ?_)
 refine PyProof.Rows.callWith_type1 ?_ he rfl
 rw[he]
 show wpAny _ _ (spliced ((false,eval (Expr.Call (.Name "zip" R) [x,y] [] P) X.env)::backTo c1 (starEach [] X.env))) _ _ s
 refine Calls.spliced_cons ?_
 refine wpAny_Call_Name_kw (jg I hg hm (by rfl) ?_)
 refine PyProof.Rows.callWith_type1 (bT (ha P C s σ H _ I h) λus j ⟨vs,H1,F,r1,q1⟩=> ?_) (by rw[hs,J]) (by rw[J];rfl)
 obtain⟨t,t2,a,b,d,ys,e,qa,qb,hl,q⟩:=q1
 subst e
 cases r1 with
 | cons r rr=>
   cases rr with
   | cons r' rr=>
     cases rr
     cases r
     cases r'
     obtain⟨p,ra,pa,za⟩:=F.sq qa
     obtain⟨z,rb,pb,zb⟩:=F.sq qb
     have lx:=Sq.lt pa
     have ly:=Sq.lt pb
     have la:=ra.length
     have lb:=rb.length
     rw[lQm] at la
     refine Zq.Ef pa pb λg U gT gO gi gj W=>Calls.spliced_nil ?_
     have I2:Inv X C σ H1 {j with heap:=g}:=F.kept (t':=j.toks) W
     refine Zq.qS U (F.ok.hd B) λS tk k2=> ?_
     have m:∀c o,g.get? c=some o->S.get? c=some o:=λc o e=>k2 c o (Qcq _ e)
     have a5:S.get? g.objs.size=some {cls:=.type "dict",data:=.dict #[]}:=k2 _ _ (Qrq g rfl)
     refine wpAny_pyIter_zip (m _ _ U) ?_
     have DD:=PyProof.Rows.zipApart_new lx ly
     have f:j.heap.objs.size+4<g.objs.size:=Qiq U
     have M:∀(n:Nat) k,d[n]?=some k->d.getD n (.inl 0)=k:=λn k e=>by rw[Qlq,e];rfl
     have G:∀c,c<j.heap.objs.size->c≠j.heap.objs.size+4/\c≠j.heap.objs.size+3/\c≠j.heap.objs.size/\c≠j.heap.objs.size+1/\c≠g.objs.size:=λc B=>
       ⟨Qwq (Qqq B (Nat.le_add_right _ _)),Qwq (Qqq B (Nat.le_add_right _ _)),Qwq B,Qwq (Qqq B (Nat.le_add_right _ _)),Qwq (Nat.lt_trans (Qqq B (Nat.le_add_right _ 4)) f)⟩
     refine Zq.xA (knd:=aW X.prog X.w) (t:=t) (t2:=t2) (xs:=p.toArray) (ys:=z.toArray) (show X.A.in1.in1.handled=none from F.ok.hd B) DD ?_ ?_ (λn=>d.getD n (.inl 0)) ?_ (by simp;omega) (by simp;omega) p.toArray.size 0 0 _ rfl (Nat.zero_le _)
       (.inl ⟨m _ _ U,_,_,m _ _ gO⟩) (m _ _ gT) (gi.at λo e=>m _ o e) (gj.at λo e=>m _ o e) (pa.at λo e=>m _ o (W _ o e)) (pb.at λo e=>m _ o (W _ o e)) ?_ ?_
     · refine⟨Nat.ne_of_gt f,Nat.ne_of_gt (Nat.lt_trans ?_ f),Nat.ne_of_gt (Nat.lt_trans ?_ f),Nat.ne_of_gt (Nat.lt_trans ?_ f),Nat.ne_of_gt (Nat.lt_trans ?_ f),(G _ lx).2.2.2.2.symm,(G _ ly).2.2.2.2.symm⟩ <;>(show _<j.heap.objs.size+4) <;>omega
     · exact⟨Qwq (Qqq lx (Nat.le_add_right _ _)),Qwq (Qqq ly (Nat.le_add_right _ _))⟩
     · intro n v hv
       have L:p[n]?=some v:=by simpa using hv
       have hn:n<d.length:=by
         have:=(gQs.mp L).1
         omega
       have N:=gQe hn
       obtain⟨u,Y,ru⟩:=ra.get (i:=n) (x:=kV d[n]) (by rw[gQm,N];rfl)
       rw[L] at Y
       cases Y
       show(aW X.prog X.w).is (d.getD n (.inl 0)) v=true
       rw[M n _ N]
       exact key_is ru _ _
     · obtain⟨o,es,ep,e1,e2⟩:=Heap.DictOf.new (knd:=aW X.prog X.w) g
       exact⟨o,es,ep,k2 _ _ e1,e2⟩
     · intro h3 Z dd k3
       have a3:g.objs.size≠sysModules:=by
         have:=I2.big
         exact Nat.ne_of_gt this
       have le:j.heap.objs.size<=g.objs.size:=nQl (Nat.lt_of_le_of_lt (Nat.le_add_right _ 4) f)
       refine⟨rfl,.ref g.objs.size,_,F.laid (a:=g.objs.size) (o:=.dK (fe [] (d.zip ys))) (t':=Z) (h':=h3) (λc o e=> ?_) le (mv ?_ (beq_eq_false_iff_ne.mpr a3) ?_ dd),rfl,q _ (F.hok.fresh le)⟩
       · obtain⟨o1,o2,o3,o4,o5⟩:=G c (Qiq e)
         exact k3 c o o1 o2 o3 o4 o5 (m c o (W c o e))
       · have:=eL (d.zip ys) []
         rw[QGq,List.length_zip] at this
         omega
       · have a2:∀n,n<=d.length->KV (fe [] ((d.zip ys).take n)) (Dk.Ah (λn=>d.getD n (.inl 0)) (λn=>z.toArray.getD n .none) n):=by
           intro n
           induction n with
           |zero=>intro _;exact .nil
           | succ n ih=>
             intro hn
             have N:=gQe (l:=d) (i:=n) (by omega)
             have hy:=gQe (l:=ys) (i:=n) (by omega)
             obtain⟨u,Y,ru⟩:=rb.get hy
             have ez:(d.zip ys)[n]?=some (d[n],ys[n]):=by rw[List.getElem?_zip_eq_some];exact⟨N,hy⟩
             have e3:(d.zip ys).take (n+1)=(d.zip ys).take n++ [(d[n],ys[n])]:=by rw[QYq,ez];rfl
             have eu:z.toArray.getD n .none=u:=by
               have:=(gQs.mp Y)
               obtain⟨g,S⟩:=this
               simp[Array.getD,g,S]
             rw[e3]
             show KV (List.foldl _ [] ((d.zip ys).take n++ [(d[n],ys[n])])) (stored _ (d.getD n (.inl 0)) (z.toArray.getD n .none))
             rw[List.foldl_append,M n _ N,eu]
             exact(ih (by omega)).put d[n] ru
         have:=a2 d.length (Qmq _)
         have e4:(d.zip ys).take d.length=d.zip ys:=by
           have:(d.zip ys).length=d.length:=by rw[List.length_zip];omega
           rw[←this,QEq]
         rw[e4] at this
         have e5:p.toArray.size=d.length:=by simp;omega
         rw[e5]
         exact this
end
end L2
namespace Zq
open PySem
section
variable{prog:Program}{w:World}{A:Around}{E:Value->Shared->Prop}{s:Shared}{t t2:Bool}{z T O i j a b:Addr}{k:Nat}{xs ys:Array Value}{x y u v:Value}
def zY(D:ZipApart z T O i j a b){Q:Option Value->Shared->Prop}(d:qE s.heap z T O .none (.bool false))(l:IsPair s.heap T (.ref i) (.ref j))(n:IsPair s.heap O u v)(g:It t s.heap i a k)(p:It t2 s.heap j b k)
  (r:Sq t s.heap a xs) (e:Sq t2 s.heap b ys) (ex:xs[k]?=some x) (m:ys[k]?=some y)
  (q:∀h',qE h' z T O (rawInt s.heap.objs.size) (.bool false)->IsPair h' O x y->It t h' i a (k+1)->It t2 h' j b (k+1)->IsPair h' s.heap.objs.size x y->Zp.Rest z O i j s.heap h'->Q (some (.ref s.heap.objs.size)) {s with heap:=h'}):
  wpAny (model prog w) A (pyNext (.ref z)) Q E s:=by
 have c:s.TypeIs (.ref z) "zip":=⟨_,d,rfl⟩
 unfold pyNext
 exact Qaq (wpAny_attempt (QiQ (name:=Str.ofString "__next__") c F.slot_zip_next (wpAny_call_entry F.slot_zip_next c F.entry_zip_next
  (item D d l n g p r e ex m λh' B C f G h o=>Qgq (q h' B C f G h o)) (F.args_zip_next_1 _))))
end
end Zq
namespace L2
open PySem PySem.Spec PyProof.Rows Zq
def Inv.sq_inj{X:Cx}{b:List (Addr×Obj)}{c:St}{H:Hp}{s:Shared}{t:Bool}{a:Addr}{xs ys:List V}(I:Inv X b c H s)(h:wj X.K t H a xs)(h':wj X.K t H a ys):xs=ys:=by
 cases t with
 |true=>exact I.tuple_inj h h'
 |false=>exact I.list_inj h h'
def K4(K:PySem.W.Frag)(t t2:Bool)(a b:Addr):It:=
  ⟨λi H=>∃c d x y,wj K t H a c/\wj K t2 H b d/\c[i]?=some x/\d[i]?=some y,
   λi H v e=>∃p,v=.ref p/\H p=none/\∀c d x y,wj K t H a c->wj K t2 H b d->c[i]?=some x->d[i]?=some y->e=upd H p (.tup [x,y]),
   λi H=>∃c,wj K t H a c/\c.length<=i⟩
def zy{P:Program}{w:World}{K:PySem.W.Frag}{B:List Expr}{x1:Nat}{tp:Pos}{t t2:Bool}{z T O i j a b:Addr}(D:ZipApart z T O i j a b):
  Turn P w K (.Tuple B x1 tp) (K4 K t t2 a b) [z,T,O,i,j] z (λn h=>qE h z T O .none (.bool false)/\IsPair h T (.ref i) (.ref j)/\(∃u v,IsPair h O u v)/\Zq.It t h i a n/\Zq.It t2 h j b n) where
 mem:=by simp
 obj:=λn h ⟨f,g,⟨u,v,l⟩,m,q⟩ c d=>by
  simp at d
  rcases d with rfl|rfl|rfl|rfl|rfl
  ·exact⟨_,f,λv n=>by cases n⟩
  ·exact⟨_,g,λv n=>by cases n⟩
  ·exact⟨_,l,λv n=>by cases n⟩
  ·exact m.obj
  ·exact q.obj
 keep:=λn h h' ⟨f,g,⟨u,v,l⟩,m,q⟩ k=>⟨k z (by simp) _ f,k T (by simp) _ g,⟨u,v,k O (by simp) _ l⟩,m.at λo e=>k i (by simp) o e,q.at λo e=>k j (by simp) o e⟩
 item:=by
  rintro X Q Y Z d n p s σ H E I J ⟨f,g,⟨u,v,l⟩,m,q⟩ U
  subst Q Y Z
  obtain⟨xs,ys,x,y,G,qb,M,hy⟩:=U
  obtain⟨a1,S,N,_⟩:=I.sq G
  obtain⟨a4,rb,pb,_⟩:=I.sq qb
  obtain⟨ux,ex,rx⟩:=S.get M
  obtain⟨uy,ey,ry⟩:=rb.get hy
  have C:∀{c o},s.heap.get? c=some o->c≠s.heap.objs.size:=λe=>Qwq (Qiq e)
  have A:∀c∈[z,T,O,i,j],c≠s.heap.objs.size:=λc d=>by
   obtain⟨oi,e1,_⟩:=m.obj
   obtain⟨oj,e2,_⟩:=q.obj
   simp at d
   rcases d with rfl|rfl|rfl|rfl|rfl
   ·exact C f
   ·exact C g
   ·exact C l
   ·exact C e1
   ·exact C e2
  refine Zq.zY D f g l m q N pb (x:=ux) (y:=uy) (by simpa using ex) (by simpa using ey) λh1 z1 O1 i1 j1 n1 F=>⟨_,rfl,?_⟩
  have T1:=F _ _ D.TIz D.TITO D.TIi1 D.TIi2 g
  refine wpAny_letOwnedTupleGo_zip z1 λh2 z2 r=> ?_
  have I2:Inv X p σ (upd H s.heap.objs.size (.tup [x,y])) {s with heap:=h2}:=I.turnedNew (t':=s.toks) (fp:= [z,T,O,i,j]) J (λc o d e=> ?_) (Qmq _) ?_
  ·refine⟨.ref s.heap.objs.size,_,I2,rfl,⟨s.heap.objs.size,rfl,I.hok.fresh (Qmq _),λa2 a3 x' y' q1 q2 L R=> ?_⟩,⟨z2,r.extBut _ _ D.TIz T1,⟨_,_,r.extBut _ _ D.TOz O1⟩,i1.ext r.extBut D.i1z,j1.ext r.extBut D.i2z⟩,λc d=> ?_⟩
   ·rw[I.sq_inj q1 G] at L
    rw[I.sq_inj q2 qb] at R
    rw[M] at L
    rw[hy] at R
    cases L
    cases R
    rfl
   ·rw[aJ (A c d)]
    exact(J c d).1
  ·simp at d
   exact r.extBut _ _ d.1 (F c o d.1 d.2.2.1 d.2.2.2.1 d.2.2.2.2 e)
  ·exact⟨by show 2<=_;decide,[ux,uy],.cons rx (.cons ry .nil),_,r.extBut _ _ (λe=>A z (by simp) e.symm) n1,rfl,rfl,0,rfl⟩
 done:=by
  rintro X Q Y Z d n p s σ H E I J ⟨f,g,⟨u,v,l⟩,m,q⟩ U
  subst Q Y Z
  obtain⟨xs,G,M⟩:=U
  obtain⟨a1,S,N,_⟩:=I.sq G
  have hl:=S.length
  refine Zq.u9 D (I.ok.hd d) (.inl ⟨f,u,v,l⟩) g m N (by simp;omega) λh1 F=>⟨rfl,I.turnedL (t':=s.toks) (fp:= [z,T,O,i,j]) J λc o d e=> ?_⟩
  simp at d
  exact F c o d.1 d.2.2.1 d.2.2.2.1 d.2.2.2.2 e
 self:=λ_ _ _ _ _ ⟨f,_⟩ h=>wpAny_pyIter_zip f h
section
variable{X:Cx}
def K5(K:PySem.W.Frag)(h:TA):TI:=λf H R=>h f H λe H1=>∃(t c:Bool) (a b:Addr) (d g:List V),e= [.ref a,.ref b]/\wj K t H1 a d/\wj K c H1 b g/\R (K4 K t c a b) H1
def C2{i:List Expr}{M:Nat}{P:Pos}{a b:Expr}{v:TA}{p pos:Pos}(U:Gl X "zip")(B:X.mg "zip"=none)(W:PA X [a,b] v)(F:starEach [a,b] X.env= [(false,eval a X.env),(false,eval b X.env)]:=by rfl)(d:starEach [b] X.env= [(false,eval b X.env)]:=by rfl):
  PI X (.Tuple i M P) (.Call (.Name "zip" p) [a,b] [] pos) (K5 X.K v):=by
 intro g s S H R I h
 refine Call_ (jg I U B (by rfl) (PyProof.Rows.callWith_type1 (bT (W pos g s S H _ I h) λus l ⟨vs,H1,f,r1,Z⟩=> ?_) (by rw[F,d]) (by rw[d];rfl)))
 obtain⟨t,t2,x,y,xs,ys,e,A,G,q⟩:=Z
 subst e
 cases r1 with
 | cons r j=>
   cases j with
   | cons z j=>
     cases j
     cases r
     cases z
     obtain⟨Q,ra,n,_⟩:=f.sq A
     obtain⟨a1,rb,m,_⟩:=f.sq G
     have lx:=Sq.lt n
     have J:=Sq.lt m
     refine Zq.Ef n m λh' o L N C Y k=> ?_
     refine wpAny_pyIter_zip o ⟨_,_,_,_,H1,rfl,f.kept (t':=l.toks) k,zy (PyProof.Rows.zipApart_new lx J),⟨o,L,⟨_,_,N⟩,C,Y⟩,λc u=> ?_,q⟩
     have w:l.heap.objs.size<=c:=by
       simp only[Qsq,QXq,or_false] at u
       rcases u with e|e|e|e|e <;>(rw[e];first|exact Qmq _|exact Nat.le_add_right _ _)
     exact f.fpOk w (f.hok.fresh w)
end
end L2
namespace DL
open PySem PySem.Spec PyProof.Rows L2
def xY.sqB{M:Md}{ρ:List Addr}{H:Hp}{a:Addr}{vs:List V}{t:Tag}(h:xY M ρ H a vs t):L2.wj M.K (!t.isL) H a vs:=by
 cases c:t.isL with
 |true=>exact h.sqL c
 |false=>exact h.sqT c
def ph(xs ys:List D):List D:=List.zipWith (λx y=>D.tup [x,y]) xs ys
open Classical in
def zW(f g:dg):qG:=λa S=>(f a S).bind λ(p,c)=>(g a c).bind λ(r,b)=>if p.2.stays b p.1/\p.1.length<=r.1.length then some ((ph p.1 r.1,λS=>p.2.stays S p.1/\r.2.stays S r.1),b) else none
section
variable{X:Cx}{a b c e:Expr}{pos:Pos}{st:Stmt}
def Kg{m:List Expr}{s:Nat}{tp p:Pos}{f g:dg}(hg:Gl X "zip")(hm:X.mg "zip"=none)(ha:PE X a (tQ (md X) f))(hb:PE X b (tQ (md X) g))(I:starEach [a,b] X.env= [(false,eval a X.env),(false,eval b X.env)]:=by rfl)(j:starEach [b] X.env= [(false,eval b X.env)]:=by rfl):
  PI X (.Tuple m s tp) (.Call (.Name "zip" p) [a,b] [] pos) (tI (md X) (zW f g)):=Gu (C2 hg hm (cB ha (cB hb eE j) (by rw[I,j])) I j) λσ H R ⟨ρ,U,S,ds,W,S',ok,e,q⟩=>by
 obtain⟨⟨⟨o,t1⟩,Q⟩,e1,e⟩:=aq e
 obtain⟨⟨⟨n,t2⟩,S2⟩,e2,e⟩:=aq e
 dsimp only at e
 split at e
 ·rename_i c
  obtain⟨e3,rfl⟩:=bz e
  obtain⟨rfl,rfl⟩:=Prod.mk.inj e3
  refine⟨ρ,U,S,o,t1,Q,ok,e1,λC a1 a4 H1 s G h1 r1=>⟨C,U,Q,n,t2,S2,ok.to s G,e2,λa3 b1 ws H2 Y l K r2=> ?_⟩⟩
  obtain⟨t,L,r3⟩:=h1.to r1 Y l c.1
  refine⟨_,_,a1,b1,t,ws,rfl,L.sqB,K.sqB,q _ _ _ (s.trans Y) l λi a2 S3 H3 P k w=> ?_⟩
  obtain⟨A,B,N⟩:=L.to r3 P k w.1
  obtain⟨J,M,g4⟩:=K.to r2 P k w.2
  refine⟨λd h=> ?_,λhi=>⟨A,B.sqB,?_⟩⟩
  ·unfold ph at h
   rw[List.getElem?_zipWith] at h
   cases r:o[i]? with
   |none=>rw[r] at h;cases h
   | some x=>
     cases F:n[i]? with
     |none=>rw[r,F] at h;cases h
     | some y=>
       rw[r,F] at h
       cases h
       obtain⟨u,hu,ru⟩:=N.get r
       obtain⟨z,Z,rz⟩:=g4.get F
       refine⟨⟨A,J,u,z,B.sqB,M.sqB,hu,Z⟩,λv H4 hv=> ?_⟩
       obtain⟨p,rfl,hp,hq⟩:=hv
       have:=hq A J u z B.sqB M.sqB hu Z
       subst this
       exact⟨bD.laid hp,k.lay hp,.tup a0 ((aL.cons ru (.cons rz .nil)).ext (bD.laid hp))⟩
  ·rw[hi]
   unfold ph
   rw[List.length_zipWith,N.length.symm]
   have:=c.2
   omega
 ·cases e
end
def kc:D->Option Key
 |.int i=>some (.inl i)
 |.str x=>some (.inr x)
 |_=>none
def ie{M:Md}{ρ:List Addr}{H:Hp}{d:D}{v:V}{k:Key}(r:Rel M ρ H d v)(e:kc d=some k):v=kV k:=by
 cases r <;>simp[kc] at e <;>subst e <;>rfl
def vq:List D->Option (List Key)
 | []=>some []
 |d::r=>(kc d).bind λk=>(vq r).bind λa=>some (k::a)
theorem vt{M:Md}{ρ:List Addr}{H:Hp}:∀{ds:List D} {vs:List V} {a:List Key},aL M ρ H ds vs->vq ds=some a->vs=a.map kV
 |_,_,_,.nil,e=>by cases e;rfl
 | _,_,_,.cons h hs,e=>by
   obtain⟨k,b,e⟩:=aq e
   obtain⟨a,c,e⟩:=aq e
   cases e
   rw[ie h b,vt hs c]
   rfl
def iM(a:List (Key×D))(k:Key):Option D:=(a.find? λb=>decide (b.1=k)).map (·.2)
def putD(a:List (Key×D))(k:Key)(v:D):List (Key×D):=
 if (a.any λb=>decide (b.1=k))=true then a.map (λb=>if b.1=k then(b.1,v) else b) else a++ [(k,v)]
def bC(a more:List (Key×D)):List (Key×D):=more.foldl (λb c=>putD b c.1 c.2) a
section
variable{M:Md}{ρ:List Addr}{H:Hp}
theorem bo.append:∀{l m:List (Key×D)} {kv kw:List (Key×V)},bo M ρ H l kv->bo M ρ H m kw->bo M ρ H (l++m) (kv++kw)
 | [],_,_,_,h,h'=>by cases h;exact h'
 |(_,_)::_,_,_,_,⟨v,t,e,h,hs⟩,h'=>by subst e;exact⟨v,_,rfl,h,bo.append hs h'⟩
theorem bo.any:∀{l:List (Key×D)} {kv:List (Key×V)} (k:Key),bo M ρ H l kv->(l.any λp=>decide (p.1=k))=kv.any λp=>decide (p.1=k)
 | [],_,_,h=>by cases h;rfl
 |(_,_)::_,_,k,⟨v,t,e,h,hs⟩=>by subst e;simp only[List.any_cons,bo.any k hs]
theorem bo.mapP{d:D}{v:V}{k:Key}(r:Rel M ρ H d v):∀{l:List (Key×D)} {kv:List (Key×V)},bo M ρ H l kv->bo M ρ H (l.map λp=>if p.1=k then(p.1,d) else p) (kv.map λp=>if p.1=k then(p.1,v) else p)
 | [],_,h=>by cases h;rfl
 | (k',_)::_,_,⟨u,t,e,h,hs⟩=>by
   subst e
   simp only[QDq]
   by_cases c:k'=k
   · simp only[c,if_true];exact⟨v,_,rfl,r,bo.mapP r hs⟩
   · simp only[c,if_false];exact⟨u,_,rfl,h,bo.mapP r hs⟩
def bo.put{l:List (Key×D)}{kv:List (Key×V)}{k:Key}{d:D}{v:V}(h:bo M ρ H l kv)(r:Rel M ρ H d v):bo M ρ H (putD l k d) (putK kv k v):=by
 unfold putD putK
 rw[h.any k]
 split
 ·exact h.mapP r
 ·exact h.append ⟨v,[],rfl,r,rfl⟩
theorem bo.merge:∀{m:List (Key×D)} {kw:List (Key×V)} {l:List (Key×D)} {kv:List (Key×V)},bo M ρ H m kw->bo M ρ H l kv->bo M ρ H (bC l m) (fe kv kw)
 | [],_,_,_,h,h'=>by cases h;exact h'
 | (k,d)::m,_,_,_,⟨v,t,e,h,hs⟩,h'=>by
   subst e
   unfold bC fe
   rw[List.foldl_cons,List.foldl_cons]
   exact bo.merge (m:=m) (kw:=t) hs (h'.put h)
theorem bo.zip:∀{a:List Key} {ds:List D} {vs:List V},aL M ρ H ds vs->bo M ρ H (a.zip ds) (a.zip vs)
 | [],_,_,_=>rfl
 |_::_,_,_,.nil=>rfl
 |k::a,_,_,.cons h hs=>⟨_,_,rfl,h,bo.zip hs⟩
theorem bo.val:∀{l:List (Key×D)} {kv:List (Key×V)} {k:Key} {d:D},bo M ρ H l kv->iM l k=some d->∃v,mT kv k=some v/\Rel M ρ H d v
 | [],_,_,_,_,e=>by cases e
 | (k',d')::_,_,k,d,⟨v,t,e,h,hs⟩,e'=>by
   subst e
   unfold iM at e'
   unfold mT
   rw[List.find?_cons] at e'⊢
   by_cases c:k'=k
   · simp only[c,decide_true] at e'⊢
     cases e'
     exact⟨v,rfl,h⟩
   · simp only[c,decide_false] at e'⊢
     exact bo.val hs e'
def bo.ext'{a:List Addr}{b:Hp}{l:List (Key×D)}{kv:List (Key×V)}(h:bo M ρ H l kv)(e:bD ρ H a b):bo M a b l kv:=h.imp λ_ _ r=>r.ext e
def bo.pre'{a:List Addr}{l:List (Key×D)}{kv:List (Key×V)}(h:bo M ρ H l kv)(e:ρ <+: a):bo M a H l kv:=h.imp λ_ _ r=>r.pre e
end
section
variable{X:Cx}{a b c e:Expr}{pos:Pos}{st:Stmt}
def FF{M:Md}{ρ d:List Addr}{H h:Hp}{m:aA}{l:List (Key×D)}{kv:List (Key×V)}{p:Addr}{Q:VK}(x:bD ρ H d h)(st:ed M d m h)(j:h p=none)(r:bo M d h l kv)
  (q:∀f v g,bD ρ H f g->ed M f (m++ [.dct l]) g->Rel M f g (.ref m.length) v->Q v g):Q (.ref p) (upd h p (.dK kv)):=by
 have s:p∉d:=dN x st j
 have n:bD d h d (upd h p (.dK kv)):=bD.laid j
 have k:=(st.lay (u:=.dK kv) j).box (o:=.dct l) s ⟨kv,a0,(r.ext' n).pre' (List.prefix_append _ _)⟩
 refine q (d++ [p]) (.ref p) _ ⟨x.pre.trans (List.prefix_append _ _),λc i=> ?_,(x.trans n).keep,(x.trans n).grow⟩ k (.ref ?_)
 ·rcases mQa.mp i with i|i
  ·exact x.new c i
  ·rw[Qfq] at i;subst i;exact .inr (x.grow _ j)
 ·rw[←st.len,QQq (Qmq _)]
  simp
open Classical in
def Gm(f g:dg):aU:=λh S=>(f h S).bind λ(p,j)=>(g h j).bind λ(r,d)=>if p.2.stays d p.1/\p.1.length=r.1.length then(vq p.1).bind λi=>some (.ref d.length,d++ [.dct (bC [] (i.zip r.1))]) else none
def Gc{L r K t:Pos}{f g:dg}(hc:X.calm=true)(j:Gl X "dict")(o:X.mg "dict"=none)(Z:Gl X "zip")(G:X.mg "zip"=none)(ha:PE X a (tQ (md X) f))(hb:PE X b (tQ (md X) g))(w:starEach [a,b] X.env= [(false,eval a X.env),(false,eval b X.env)]:=by rfl)(h:starEach [b] X.env= [(false,eval b X.env)]:=by rfl)
  (he:starEach [Expr.Call (.Name "zip" r) [a,b] [] t] X.env= [(false,eval (Expr.Call (.Name "zip" r) [a,b] [] t) X.env)]:=by rfl):
  PE X (.Call (.Name "dict" L) [.Call (.Name "zip" r) [a,b] [] t] [] K) (tD (md X) (Gm f g)):=iO (wY hc j o Z G (cB ha (cB hb eE h) (by rw[w,h])) w h he) λσ H Q ⟨ρ,u,S,d,S',ok,e,q⟩=>by
 obtain⟨⟨⟨s,P⟩,B⟩,F,e⟩:=aq e
 obtain⟨⟨⟨m,t2⟩,S2⟩,e2,e⟩:=aq e
 dsimp only at e
 split at e
 ·rename_i c
  obtain⟨W,e3,e⟩:=aq e
  obtain⟨rfl,rfl⟩:=bz e
  refine⟨ρ,u,S,s,P,B,ok,F,λk a1 Y H1 z n h1 r1=>⟨k,u,B,m,t2,S2,ok.to z n,e2,λN C M H2 y i U v=> ?_⟩⟩
  obtain⟨J,h3,x⟩:=h1.to r1 y i c.1
  have I:=vt x e3
  subst I
  have A:=x.length
  rw[lQm] at A
  refine⟨_,_,a1,C,W,M,rfl,h3.sqB,U.sqB,by rw[←A,←v.length];exact c.2,λp R=> ?_⟩
  exact FF (z.trans y) i R (bo.merge (l:= []) (bo.zip v) rfl) q
 ·cases e
def JG:aU:=λ_ S=>some (.ref S.length,S++ [.dct []])
def Jx:PE X (.Dict [] [] pos) (tD (md X) JG):=iO B4 λj H Q f=>by
 obtain⟨h,i,S,d,k,ok,e,q⟩:=f
 obtain⟨rfl,rfl⟩:=bz e
 exact λp g=>FF bD.refl ok.st g (l:= []) (kv:= []) rfl q
def Gy(f g:aU):aU:=λh S=>(f h S).bind λ(x,m)=>(g h m).bind λ(y,i)=>match x with
 | .ref k=>match i[k]? with
   |some (.dct l)=>(kc y).bind λj=>(iM l j).bind λd=>some (d,i)
   |_=>none
 |_=>none
def JP{f g:aU}(R:X.A.units+1<cLine)(n:PE X a (tD (md X) f))(K:PE X b (tD (md X) g))(m:B2 b):PE X (.Subscript a b pos) (tD (md X) (Gy f g)):=iO (yD R n K m) λσ H Q B=>by
 obtain⟨I,p,S,d,W,ok,e,q⟩:=B
 obtain⟨⟨x,t⟩,u,e⟩:=aq e
 obtain⟨⟨y,L⟩,P,e⟩:=aq e
 cases x with
 | ref k=>
   dsimp only at e
   split at e
   · rename_i l m
     obtain⟨ky,M,e⟩:=aq e
     obtain⟨Z,z,e⟩:=aq e
     obtain⟨rfl,rfl⟩:=bz e
     refine⟨I,p,S,_,t,ok,u,λi Y H1 s j o=>⟨i,p,t,y,L,ok.to s j,P,λC v2 H2 r h w=> ?_⟩⟩
     cases ie w M
     have o:=o.ext r
     cases o with
     | ref n=>
       obtain⟨U,J,F⟩:=h.obj k _ _ n m
       obtain⟨v,G,N⟩:=F.val z
       exact⟨_,v,rfl,by rw[←G];exact xn.k J,q _ _ _ (s.trans r) h N⟩
   · cases e
 |_=>cases e
def Iz(f g h:aU):cx:=λi S=>(h i S).bind λ(d,o)=>(f i o).bind λ(x,m)=>(g i m).bind λ(y,j)=>match x with
 | .ref k=>match j[k]? with
   |some (.dct l)=>(kc y).bind λn=>if l.length<sizeLine then some (.nx i (j.set k (.dct (putD l n d)))) else none
   |_=>none
 |_=>none
mutual
theorem Rel.offK{M:Md}{ρ:List Addr}{H:Hp}{b:Addr}{g:List (Key×V)}{o:HO}(f:H b=some (.dK g)):∀{d:D} {v:V},Rel M ρ H d v->Rel M ρ (upd H b o) d v
 |_,_,.non=>.non
 |_,_,.bl x=>.bl x
 |_,_,.int i=>.int i
 |_,_,.str x=>.str x
 |_,_,.tup h hs=>.tup (by rw[aJ (BL h f (by intro z;cases z))];exact h) (aL.offK f hs)
 |_,_,.ref h=>.ref h
 |_,_,.fn h=>.fn h
theorem aL.offK{M:Md}{ρ:List Addr}{H:Hp}{b:Addr}{f:List (Key×V)}{o:HO}(d:H b=some (.dK f)):∀{ds:List D} {vs:List V},aL M ρ H ds vs->aL M ρ (upd H b o) ds vs
 |_,_,.nil=>.nil
 |_,_,.cons h hs=>.cons (Rel.offK d h) (aL.offK d hs)
end
def ed.putKd{M:Md}{ρ:List Addr}{S:aA}{H:Hp}{k:Nat}{a:Addr}{l g:List (Key×D)}{kw:List (Key×V)}(st:ed M ρ S H)(d:ρ[k]?=some a)(f:S[k]?=some (.dct l))(r:bo M ρ H g kw):ed M ρ (S.set k (.dct g)) (upd H a (.dK kw))/\bD ρ H ρ (upd H a (.dK kw)):=by
 obtain⟨m,h,j⟩:=st.obj k a _ d f
 exact st.put d f ⟨kw,a0,r.imp λ_ _ q=>q.offK h⟩ λx i=>by rw[h] at i;cases i;exact id
def IT{f g h:aU}{i:Pos}{v:Expr}(hu:X.A.units+1<cLine)(r:PE X a (tD (md X) f))(hb:PE X b (tD (md X) g))(U:PE X v (tD (md X) h))(p:swapsWith v (some (.Subscript a b i)) pos.line X.env=pure false:=by rfl):PS X (.Assign [.Subscript a b i] v pos) (tS (md X) (Iz f g h)):=
 As (DF hu r hb U p) λD σ H Y=>by
  obtain⟨ρ,t,S,o,ok,e,q⟩:=Y
  obtain⟨⟨d,K⟩,N,e⟩:=aq e
  obtain⟨⟨x,M⟩,e2,e⟩:=aq e
  obtain⟨⟨y,P⟩,e3,e⟩:=aq e
  cases x with
  | ref k=>
    dsimp only at e
    split at e
    · rename_i l p
      obtain⟨Z,Q,e⟩:=aq e
      split at e
      · rename_i hl
        cases e
        refine⟨ρ,t,S,d,K,ok,N,λu v1 H1 F n I=>⟨u,t,K,_,M,ok.to F n,e2,λz v2 H2 B s w=>⟨z,t,M,y,P,(ok.to F n).to B s,e3,λR v3 H3 C j W=> ?_⟩⟩⟩
        cases ie W Q
        have w:=w.ext C
        have I:=I.ext (B.trans C)
        have m:=(F.trans B).trans C
        cases w with
        | ref r=>
          obtain⟨kv,h1,J⟩:=j.obj k _ _ r p
          obtain⟨G,L⟩:=j.putKd r p (J.put (k:=Z) I)
          exact⟨_,_,rfl,Cd.k h1 (by rw[←J.length];exact hl),q _ _ _ (m.trans L) ((ok.to m j).to L G)⟩
      · cases e
    · cases e
  |_=>cases e
open Classical in
def Fc(f:dg)(g:aU):aU:=λd S=>(f d S).bind λ(p,k)=>if p.2.isL=true then(g d k).bind λ(y,h)=>if p.2.stays h p.1 then(uC y).bind λv=>(gI p.1).bind λi=>(lH v i).bind λj=>some (.int (j:Nat),h) else none else none
def Ip{f:dg}{g:aU}{o:Expr}{i h:Pos}(ho:PE X o (tQ (md X) f))(Y:PE X e (tD (md X) g))(k:attributeBase o "index" X.env (eval o X.env)=eval o X.env:=by rfl) (n:((backTo h (starEach [e] X.env)).all (λx=> !x.1)&&(backToKw h (keywordEach [] X.env)).all (λx=>x.1.isSome)
   &&decide ([e].length+([]:List Keyword).length+(if ([]:List Keyword).isEmpty then 0 else 1)<30))=true:=by rfl)
  (l:(i.endLine==h.line)=true:=by rfl) (z:starEach [e] X.env= [(false,eval e X.env)]:=by rfl):PE X (.Call (.Attribute o "index" i) [e] [] h) (tD (md X) (Fc f g)):=
 iO (sC PySem.F.plainAttrs_list PySem.F.slot_list_index PySem.F.type_list_index Cw ho (fI Y nN z) k n l z) λσ H Q P=>by
  obtain⟨Z,w,S,d,S',ok,e,q⟩:=P
  obtain⟨⟨⟨ds,t⟩,I⟩,K,e⟩:=aq e
  dsimp only at e
  split at e
  ·rename_i B
   obtain⟨⟨y,S2⟩,e2,e⟩:=aq e
   dsimp only at e
   split at e
   ·rename_i cS
    obtain⟨v,J,e⟩:=aq e
    obtain⟨vs,L,e⟩:=aq e
    obtain⟨j,U,e⟩:=aq e
    obtain⟨rfl,rfl⟩:=bz e
    refine⟨Z,w,S,ds,t,I,ok,K,λr a us H1 G s A r1=>⟨.inl ⟨rfl,us,A.sqL B⟩,r,w,I,[y],S2,ok.to G s,by simp only[av,aw,e2,Qbq],λR ws H2 C m p=> ?_⟩⟩
    obtain⟨u,W,N⟩:=A.to r1 C m cS
    cases p with
    | cons p M=>
      cases M
      cases ja p J
      obtain⟨rfl,f1⟩:=gN N L
      exact⟨a,u,_,j,rfl,rfl,W.sqL B,lj J,f1,U,q _ _ _ (G.trans C) m (.int _)⟩
   ·cases e
  ·cases e
end
section
variable{X:Cx}{a b c e:Expr}{pos:Pos}{st:Stmt}
def Ja:V->List V->Hp->VK->Prop:=λx g H Q=>∃a b f d,x=.ref a/\g= [.ref b]/\a≠b/\H a=some (.dK f)/\H b=some (.dK d)/\f.length+d.length<=sizeLine/\Q .non (upd H a (.dK (fe f d)))
def zu:Jf X "dict.update" Ja:=by
 intro n s J H x M v L Q I A p h
 obtain⟨a,b,k,f,rfl,rfl,ab,ha,hb,hz,q⟩:=h
 cases A
 obtain⟨u,rfl,ru⟩:=p.one
 cases ru
 obtain⟨z,y,B,g,m⟩:=yy I.hok ha
 obtain⟨G,l,C,d,j⟩:=yy I.hok hb
 refine call_meetsIn PySem.F.slot_dict_update m.typeIs PySem.F.entry_dict_update (PySem.F.args_dict_update_2 _ _) (meets_dict_update (aW X.prog X.w) a b ab l) ⟨B,C,m,j,by rw[←g.length,←d.length];exact hz,λo i _ r=> ?_⟩
 have t:∃q,o.get? a=some q:=let ⟨q,_,_,hq,_⟩:=i;⟨q,hq⟩
 have K:=eL f k
 exact⟨.non,_,oP I (by rw[ha];exact True.intro) r t (mv (by omega) y (KV.merge d g) i),rfl,q⟩
def Ea(f g:aU):aU:=λh S=>(f h S).bind λ(x,i)=>(g h i).bind λ(y,d)=>match x,y with
 | .ref k,.ref j=>if k≠j then match i[k]?,d[k]?,d[j]? with
   |some (.dct _),some (.dct l),some (.dct m)=>if l.length+m.length<=sizeLine then some (.non,d.set k (.dct (bC l m))) else none
   |_,_,_=>none
   else none
 |_,_=>none
def Gp{f g:aU}{o:Expr}{n h:Pos}(ho:PE X o (tD (md X) f))(A:PE X e (tD (md X) g))(p:attributeBase o "update" X.env (eval o X.env)=eval o X.env:=by rfl) (u:((backTo h (starEach [e] X.env)).all (λx=> !x.1)&&(backToKw h (keywordEach [] X.env)).all (λx=>x.1.isSome)
   &&decide ([e].length+([]:List Keyword).length+(if ([]:List Keyword).isEmpty then 0 else 1)<30))=true:=by rfl)
  (s:(n.endLine==h.line)=true:=by rfl) (P:starEach [e] X.env= [(false,eval e X.env)]:=by rfl):PE X (.Call (.Attribute o "update" n) [e] [] h) (tD (md X) (Ea f g)):=
 iO (sC PySem.F.plainAttrs_dict PySem.F.slot_dict_update PySem.F.type_dict_update zu ho (fI A nN P) p u s P) λσ H Q qq=>by
  obtain⟨ρ,N,S,d,S',ok,e,q⟩:=qq
  obtain⟨⟨x,J⟩,e1,e⟩:=aq e
  obtain⟨⟨y,L⟩,e2,e⟩:=aq e
  cases x with
  | ref k=>
    cases y with
    | ref j=>
      dsimp only at e
      split at e
      · rename_i ne
        cases K:J[k]? with
        |none=>rw[K] at e;cases e
        | some o1=>
          rw[K] at e
          cases o1 with
          | dct l0=>
            cases w:L[k]? with
            |none=>rw[w] at e;cases e
            | some o2=>
              rw[w] at e
              cases o2 with
              | dct l=>
                cases I:L[j]? with
                |none=>rw[I] at e;cases e
                | some o3=>
                  rw[I] at e
                  cases o3 with
                  | dct m=>
                    dsimp only at e
                    split at e
                    · rename_i hl
                      obtain⟨rfl,rfl⟩:=bz e
                      refine⟨ρ,N,S,_,J,ok,e1,λC v H1 W t r1=> ?_⟩
                      cases r1 with
                      | ref A=>
                        rename_i a
                        obtain⟨G,g0,_⟩:=t.obj k a _ A K
                        refine⟨.inr (.inr (.inl ⟨rfl,.inl ⟨G,g0⟩⟩)),C,N,J,[.ref j],L,ok.to W t,by simp only[av,aw,e2,Qbq],λa1 ws H2 U i B=> ?_⟩
                        cases B with
                        | cons B rr=>
                          cases rr
                          cases B with
                          | ref Z=>
                            rename_i b
                            have r:=bV U.pre A
                            obtain⟨kv,g1,R⟩:=i.obj k a _ r w
                            obtain⟨kw,g3,Y⟩:=i.obj j b _ Z I
                            have ab:a≠b:=λz=>by subst z;exact ne (i_ i.nd r Z)
                            obtain⟨M,x3⟩:=i.putKd r w (bo.merge Y R)
                            exact⟨a,b,kv,kw,rfl,rfl,ab,g1,g3,by rw[←R.length,←Y.length];exact hl,q _ _ _ ((W.trans U).trans x3) M .non⟩
                    · cases e
                  |_=>cases e
              |_=>cases e
          |_=>cases e
      · cases e
    |_=>cases e
  |_=>cases e
end
end DL
namespace L2
open PySem PySem.Spec PyProof.Rows
section
variable{prog:Program}{w:World}{A:Around}{s:Shared}
def qU{G F a l:Expr}{p:List Expr}{d:Scope}{pos:Pos}{it:Value}{D:Addr}{env:Env}{R:Result->Shared->Prop}(I:Nat->Shared->Prop)
  (z:∀n s,I n s->wpAny (model prog w) A (pyNext it) (λr e=>match r with
   |none=>R (.ok .next) e
   |some v=>wpAny (model prog w) A (letOwnedTupleGo a it v) (λ_ f=>wpAny (model prog w) A (assign a env v) (λ_ k=>
     wpAny (model prog w) A (forIn p true λc r=>if r=true then do let ok←isTrue c env (eval c env);pure (ForInStep.yield ok) else pure (ForInStep.yield r)) (λok s₃=>
      if ok=true then wpAny (model prog w) A (eval G env) (λx g=>wpAny (model prog w) A (eval F env) (λy i=>
       wpAny (model prog w) A (dictSet D x y) (λ_ o=>∃m,m<n/\I m o) (λ_ _=>False) i) (λ_ _=>False) g) (λ_ _=>False) s₃
      else∃m,m<n/\I m s₃) (λ_ _=>False) k) (λ_ _=>False) f) (λ_ _=>False) e) (λ_ _=>False) s)
  (n:Nat) (h:I n s):codeAny (model prog w) A (.compLoop (.DictComp G F [⟨a,l,p,0⟩] d pos) 0 it (.ref D) env) R s:=by
 refine codeAny_loop rfl I (λn s H=> ?_) n h
 show wpAny _ A ((compTurn (.DictComp G F [⟨a,l,p,0⟩] d pos) 0 it (.ref D) env).onRaise (λx=>do noteFrame x env;theTreesLotGoes x)) _ _ s
 refine wpAny_noted ?_
 rw[compTurn_dict]
 refine Qaq (wpAny_standAt (Qaq (QRq (z n s H) (λr e j=> ?_) λ_ _ b=>b.elim)))
 cases r with
 |none=>exact Qgq j
 | some v=>
   refine Qaq (QRq j (λ_ f q=> ?_) λ_ _ b=>b.elim)
   refine Qaq (QRq q (λ_ k C=>Qaq (QRq C (λok s₃ h₃=> ?_) λ_ _ b=>b.elim)) λ_ _ b=>b.elim)
   cases ok with
   |false=>exact Qgq ⟨rfl,h₃⟩
   | true=>
     exact Qaq (Qaq (QRq h₃ (λx g u=>Qaq (QLq (QRq u (λy i t=>Qaq (wpAny_standAt (QLq (QRq t (λ_ o B=>Qgq ⟨rfl,B⟩) λ_ _ b=>b.elim)))) λ_ _ b=>b.elim))) λ_ _ b=>b.elim))
end
def FR(J:It)(g:TG)(p:TT)(o r:TE)(Q:VK)(D:Addr)(q:St)(H:Hp):Prop:=
 ∃ W:Nat->Nat->St->Hp->Prop,(∃m,W 0 m q H)/\∀i m f d,W i m f d→
   (J.stop i d/\Q (.ref D) d)\/(J.go i d/\∃h:St->Hp->Prop,(∀b e,h b e->∃l,l<m/\W (i+1) l b e)∧
     ∀ x H2,J.yld i d x H2->g x f H2 λa H3=>p a H3 λok H4=>
       if ok=true then o a H4 λk H5=>r a H5 λy j=>∃c n,k=kV n/\j D=some (.dK c)/\c.length<sizeLine/\h a (upd j D (.dK (putK c n y))) else h a H4)
def BZ(js:List (Option Nat))(c:TI)(g:TG)(b:TT)(e d:TE):TE:=λa H Q=>c a H λJ H1=>∀D,H1 D=none->FR J g b e d Q D (iq js a) (upd H1 D (.dK []))
def Cg{X:Cx}{N:List Str}{js:List (Option Nat)}{a:Scope}{Z:List (Str×Addr)}{tg R kx vx K:Expr}{b0:List Expr}{pos b1:Pos}{wi:TI}{g gt:TG}{tt:TT}{tk tv:TE}
  (S:aH X N js a Z) (hc:X.calm=true) (hi:PI X tg R wi)
  (hg:∀C s H fp,PG (aC X N a Z C s H fp) tg g) (ht:∀C s H fp,j_ (aC X N a Z C s H fp) b0 tt) (hk:∀C s H fp,PE (aC X N a Z C s H fp) kx tk) (hv:∀C s H fp,PE (aC X N a Z C s H fp) vx tv) (e4:PG X K gt)
  (hs:∀x,foldedSetIterable R X.env x=pure x:=by intro _;rfl) (e0:swapsWithSole [K] (.DictComp kx vx [⟨tg,R,b0,0⟩] a pos) b1.line X.env=pure true:=by rfl)
  (h1:(assignEach [K] X.env).map (·.2)= [assign K X.env]:=by rfl):PS X (.Assign [K] (.DictComp kx vx [⟨tg,R,b0,0⟩] a pos) b1) (Ap (BZ js wi g tt tk tv) gt):=by
 intro a1 s σ H Dn I h
 rw[exec_Assign_arm]
 refine Qaq (wpAny_standAt (Qaq (wpAny_of_eq e0 (wpAny_ite_true rfl (Qaq ?_)))))
 rw[h1]
 show wpAny _ _ (do let _←comprehension _ _ _ _ _ _ _ (some λv=>assignAll v [assign K X.env]);pure ()) _ _ _
 refine Qaq ?_
 refine wpAny_comprehension_free (use:=some λv=>assignAll v [assign K X.env]) rfl hs S.clos S.kind S.names (bT (hi a1 s σ H _ I h) λv s1 h1=>bT h1 λe6 t h2=> ?_)
 obtain⟨it,fp,tn,J,H2,e,F,T,b3,f2,hD⟩:=h2
 subst e
 refine QhQ (wpAny_newFunctionEnv S.nocell (by intro y hy;simp at hy) (λP L B=> ?_) S.kind)
 dsimp only at L B⊢
 generalize a7:t.heap.push {cls:=.type "dict",data:=.dict #[]}=P2 at L B⊢
 have hC:P2.objs.size=t.heap.objs.size+1:=by rw[←a7,Heap.size_push]
 have b6:t.heap.objs.size≠P2.objs.size:=by rw[hC];exact Qwq (Nat.lt_succ_self _)
 have a5:t.heap.objs.size<=P2.objs.size:=by rw[hC];exact Nat.le_succ _
 have M:∀b,b<t.heap.objs.size->b≠P2.objs.size:=λb f=>by rw[hC];exact Qwq (Nat.lt_succ_of_lt f)
 have a2:∀b o,t.heap.get? b=some o->P.get? b=some o:=λb o e=>B.extBut b o (M b (Qiq e)) (Qcq _ (a7▸Qcq _ e))
 have e5:P.get? t.heap.objs.size=some {cls:=.type "dict",data:=.dict #[]}:=B.extBut _ _ b6 (Qcq _ (a7▸Qrq _ rfl))
 have nD:H2 t.heap.objs.size=none:=F.fresh
 have nC:H2 P2.objs.size=none:=F.hok.fresh a5
 have b4:∀b∈fp,b<t.heap.objs.size:=λb f=>by
  obtain⟨o,e,_⟩:=T.obj _ _ b3 b f
  exact Qiq e
 obtain⟨W,⟨m0,w0⟩,b7⟩:=hD t.heap.objs.size nD
 have c7:(aC X N a Z P2.objs.size t H2 fp).Ok:=by
  refine⟨F.ok.mod,S.kind,F.ok.glob,F.ok.blt,a5,λx y c h1 h2=>F.ok.inj x y c (S.sub x c h1) (S.sub y c h2),S.has,(λx c h=>by cases h),F.ok.hd,F.ok.frames,.inl rfl,
   λb f=>⟨M b (b4 b f),λx c h=>(f2 b f).2.2.2.2.1 x c (S.sub x c h)⟩,F.bs,QAq F.ok.bsz F.sz,λb o e f=> ?_,λb f z=> ?_,F.stack,F.stkFree⟩
  ·rcases(f2 b f).2.2.2.1 with z|z
   ·exact F.ok.noex b o e z
   ·exact absurd (Qqq (Qqq (Qiq e) F.ok.bsz) z) (Nat.lt_irrefl _)
  ·rcases Qsq.mp (F.stkSub b z) with q|q
   ·exact(f2 b f).2.1 q
   ·exact(f2 b f).2.2.1 q
 have c8:bI X.prog X.w (upd H2 t.heap.objs.size (.dK [])) P t.heap.objs.size (.dK []):=by
  obtain⟨o,es,ep,e1,e2⟩:=Heap.DictOf.new (knd:=aW X.prog X.w) t.heap
  exact mv (Nat.zero_le _) (beq_eq_false_iff_ne.mpr (Ne.symm (Qwq F.big))) .nil ⟨o,es,ep,B.extBut _ _ b6 (Qcq _ (a7▸e1)),e2⟩
 have I4:Inv (aC X N a Z P2.objs.size t H2 fp) [] (iq js σ) (upd H2 t.heap.objs.size (.dK [])) {t with heap:=P,toks:=t.toks+([]:List (Str×Value)).length}:=by
  refine⟨c7,rfl,F.bare,Un.laid a2 (Qmq _) nD,⟨_,L,λi x v h1 h2 h3=> ?_⟩,λx c h=> ?_,by show upd H2 _ _ P2.objs.size=none;rw[aJ b6.symm];exact nC,λx c h=> ?_,λp hp=>absurd (show p∈([]:List (Addr×Obj)) from hp) (by simp),F.hok.laid a2 (Qmq _) c8,by show(iq js σ).length=N.length;unfold iq;rw[lQm];exact S.len⟩
  ·unfold iq at h2
   rw[gQm] at h2
   cases e:js[i]? with
   |none=>rw[e] at h2;cases h2
   | some o=>
     rw[e] at h2
     cases o with
     |none=>cases h2
     | some j=>
       have a4:σ.getD j none=some v:=QdQ h2
       have hj:σ[j]?=some (some v):=by
         rw[Qlq] at a4
         cases q:σ[j]? with
         |none=>rw[q] at a4;cases a4
         |some y=>rw[q] at a4;exact congrArg some a4
       obtain⟨c1,c2,c3⟩:=S.cap i j x e h1
       obtain⟨m,hn,hl⟩:=F.loc
       have d6:Er X.env.scope x:=by
         rcases c2 with z|z
         · exact .inr (.inl z)
         · exact .inr (.inr z)
       obtain⟨u,r,l⟩:=hl j x v c1 hj d6
       refine⟨u,r,.inr ⟨c3,?_⟩⟩
       obtain⟨c,d3⟩:=S.has x c3
       refine⟨c,d3,?_⟩
       rcases l with⟨z,_⟩|⟨_,c',e',z⟩
       · rcases c2 with y|y <;>rw[y] at z <;>cases z
       · rw[S.sub x c d3] at e'
         cases e'
         obtain⟨o,ho,hd⟩:=z
         exact⟨o,a2 _ _ ho,hd⟩
  ·obtain⟨v,o,ho,hd⟩:=F.cell x c (S.sub x c h)
   exact⟨v,o,a2 _ _ ho,hd⟩
  ·obtain⟨v,o,ho,hd⟩:=F.cell x c (S.sub x c h)
   rw[aJ (Qwq (Qiq ho))]
   exact F.freeC x c (S.sub x c h)
 have a6:∀{Y:List (Addr×Obj)} {H':Hp},Y= []->(∀b∈fp,H' b=none)->∀b∈fp,mr (aC X N a Z P2.objs.size t H2 fp) Y H' b:=λ{Y H'} ep hn b f=>by
  subst ep
  refine⟨hn b f,M b (b4 b f),λz=>c7.exfs b f z,.inl f,λx c h=>(f2 b f).2.2.2.2.1 x c (S.sub x c h),λp hp=>absurd (show p∈([]:List (Addr×Obj)) from hp) (by simp)⟩
 have b2:codeAny (model X.prog X.w) X.A (.compLoop (.DictComp kx vx [⟨tg,R,b0,0⟩] a pos) 0 (.ref it) (.ref t.heap.objs.size) (compEnvC a Z P2.objs.size X.env))
   (compPost (model X.prog X.w) X.A X.xe (some λv=>assignAll v [assign K X.env]) (λ_ s9=>wpAny (model X.prog X.w) X.A (pure ()) (λ_ d4=>wpAny (model X.prog X.w) X.A (pure Flow.next) (SP X a1 Dn) X.xe d4) X.xe s9) (.ref t.heap.objs.size) P2.objs.size) {t with heap:=P,toks:=t.toks+([]:List (Str×Value)).length}:=by
  refine qU (λn s'=>∃i a3 H',Inv (aC X N a Z P2.objs.size t H2 fp) [] a3 H' s'/\tn i s'.heap/\(∀b∈fp,H' b=none)/\W i n a3 H') ?_ m0
   ⟨0,_,_,I4,T.keep _ _ _ b3 λb _ o e=>a2 b o e,λb f=>by rw[aJ (Qwq (b4 b f))];exact(f2 b f).1,w0⟩
  rintro n s3 ⟨i,a9,H3,I3,d1,c5,w3⟩
  rcases b7 i n a9 H3 w3 with⟨stop,q⟩|⟨go,Nx,hN,c4⟩
  ·refine bT (T.done (aC X N a Z P2.objs.size t H2 fp) rfl rfl rfl hc i [] s3 a9 H3 _ I3 (a6 rfl c5) d1 stop) λr s4 U=> ?_
   obtain⟨hr,I5⟩:=U
   subst hr
   obtain⟨m,hn,_⟩:=id I5.loc
   have d8:∀h',Heap.SameBut P2.objs.size s4.heap h'->Inv X a1 σ H3 {s4 with heap:=h'}:=by
    intro h' Q
    have u:=I5.base
    have ne:∀b o,t.heap.get? b=some o->b≠P2.objs.size:=λb o e=>M b (Qiq e)
    refine F.call' (ch:=fp) I5.os ⟨λb o e n f hx=>(Q.2 b (ne b o e)).trans (u.keep b o e n f hx),λb o e n f hx=> ?_,u.free,λb o e hx=> ?_,u.tups,u.frzs,u.tbls⟩ (λb ob e=> ?_) I5.bare λb f=>⟨(f2 b f).2.2.2.1,(f2 b f).2.1,(f2 b f).2.2.2.2.1,(f2 b f).2.2.2.2.2⟩
    ·obtain⟨sl,e1⟩:=u.slot b o e n f hx
     exact⟨sl,(Q.2 b (ne b o e)).trans e1⟩
    ·obtain⟨o',e1⟩:=u.there b o e hx
     exact⟨o',(Q.2 b (ne b o e)).trans e1⟩
    ·refine(I5.hok b ob e).stay (λc w' hc q=>(Q.2 c ?_).trans q) (λ_ q=>q) λ_ _ q=>q
     have fC:H3 P2.objs.size=none:=I5.free
     rintro rfl
     rcases hc with z|z
     ·rw[←z,fC] at e;cases e
     ·rw[fC] at z;cases z
   have IX:=d8 s4.heap ⟨rfl,λ_ _=>rfl⟩
   have a8:mr X a1 H3 P2.objs.size:=F.fpOk a5 I5.free
   obtain⟨oC,es,ep,c0,c6,d7⟩:=hn
   have IP:=IX.pinned (fp:= [P2.objs.size]) (λb f=>by rw[Qfq] at f;rw[f];exact a8) (λb f=>by rw[Qfq] at f;rw[f];exact⟨oC,c0,λv=>by rw[c6];simp⟩)
   show wpAny _ _ (assignAll (.ref t.heap.objs.size) [assign K X.env]) _ _ _
   rw[assignAll.eq_2]
   refine bT (e4 _ s4 σ H3 (.ref t.heap.objs.size) (.ref t.heap.objs.size) _ IP rfl q) λ_ s6 U=> ?_
   obtain⟨G,H6,I6,q6⟩:=U
   have pC:=I6.pin (P2.objs.size,oC) (Qoq _ (Qoq _ (cy (Qfq.mpr rfl) c0)))
   refine⟨m,⟨oC,es,ep,pC.1,c6,d7⟩,λh' Q=>Qgq (Qgq ⟨G,H6,?_,q6⟩)⟩
   exact I6.unpinned.turned (it:=P2.objs.size) (t':=s6.toks) (λb o' f e=>(Q.2 b f).trans e) pC.2.1 pC.2.2.1 a8.2.2.2.1 a8.2.2.2.2.1 a8.2.2.2.2.2
  ·refine bT (T.item (aC X N a Z P2.objs.size t H2 fp) rfl rfl rfl hc i [] s3 a9 H3 _ I3 (a6 rfl c5) d1 go) λr s4 U=> ?_
   obtain⟨u,hr,h4⟩:=U
   subst hr
   refine bT h4 λ_ s5 U=> ?_
   obtain⟨x,H5,I5,r5,y5,b5,e3⟩:=U
   have d5:=I5.pinned (a6 rfl e3) (T.obj _ _ b5)
   refine bT (hg P2.objs.size t H2 fp _ s5 a9 H5 x u _ d5 r5 (c4 x H5 y5)) λ_ s6 U=> ?_
   obtain⟨G,H6,I6,q6⟩:=U
   refine bT (ht P2.objs.size t H2 fp _ s6 G H6 _ I6 q6) λok s7 U=> ?_
   obtain⟨H7,I7,q7⟩:=U
   have again:∀{s8:Shared} {H8:Hp},Inv (aC X N a Z P2.objs.size t H2 fp) ([]++kq fp s5.heap) G H8 s8->Nx G H8->∃m,m<n/\∃i a3 H',Inv (aC X N a Z P2.objs.size t H2 fp) [] a3 H' s8/\tn i s8.heap/\(∀b∈fp,H' b=none)/\W i m a3 H':=λ{s8 H8} I8 n8=>by
    obtain⟨m',hm,w8⟩:=hN G H8 n8
    refine⟨m',hm,i+1,G,H8,I8.unpinned,T.keep _ _ _ b5 λb f o e=>(I8.pin (b,o) (Qoq _ (Qoq _ (cy f e)))).1,λb f=> ?_,w8⟩
    obtain⟨o,e,d⟩:=T.obj _ _ b5 b f
    exact(I8.pin (b,o) (Qoq _ (Qoq _ (cy f e)))).2.1
   cases ok with
   |false=>exact again I7 q7
   | true=>
     refine bT (hk P2.objs.size t H2 fp _ s7 G H7 _ I7 q7) λkv s8 U=> ?_
     obtain⟨k,H8,I8,rk,q8⟩:=U
     refine bT (hv P2.objs.size t H2 fp _ s8 G H8 _ I8 q8) λyv s9 U=> ?_
     obtain⟨y,H9,I9,ry,d9,ky,ek,hx,hl,n9⟩:=U
     subst ek
     obtain⟨z,hd,vs,b8,dd⟩:=yy I9.hok hx
     refine wpAny_dictSet_pairs (vj rk) dd (λh' d2 Q=> ?_) (by rw[←b8.length];exact z)
     have he:∃q,h'.get? t.heap.objs.size=some q:=let ⟨q,_,_,hq,_⟩:=d2;⟨q,hq⟩
     have e7:=gn d9 ky y
     exact again (oP I9 (by rw[hx];exact True.intro) Q he (mv (by omega) hd (b8.put ky ry) d2)) n9
 exact codeAny_compStart_dict b2 (T.self _ 0 _ _ _ (T.keep _ _ _ b3 λb _ o e=>a2 b o e) b2)
end L2
namespace DL
open PySem PySem.Spec PyProof.Rows L2
section
variable{M:Md}{ρ:List Addr}{H:Hp}{b:Addr}{us:List (Key×V)}{o:HO}
theorem ed.offK{S:aA}(st:ed M ρ S H)(e:H b=some (.dK us))(n:b∉ρ):ed M ρ S (upd H b o):=⟨st.len,st.nd,λk a p j l=>by
 have q:=st.obj k a p j l
 have f:a≠b:=λz=>n (z▸mQg j)
 cases p with
 |lst m=>obtain⟨i,d,c⟩:=q;exact⟨i,by rw[aJ f];exact d,c.offK e⟩
 |frz m=>obtain⟨i,o,d,c⟩:=q;exact⟨i,o,by rw[aJ f];exact d,c.offK e⟩
 |dct h=>obtain⟨g,d,c⟩:=q;exact⟨g,by rw[aJ f];exact d,c.imp λ_ _ r=>r.offK e⟩
 |fdc h=>obtain⟨g,o,d,c⟩:=q;exact⟨g,o,by rw[aJ f];exact d,c.imp λ_ _ r=>r.offK e⟩⟩
def En.offK{a:cp}{c:L2.St}(h:En M ρ H a c)(e:H b=some (.dK us)):En M ρ (upd H b o) a c:=⟨h.len,λi d q=>by obtain⟨v,g,f⟩:=h.get i d q;exact⟨v,g,f.offK e⟩⟩
end
open Classical in
def gu(g:jB)(t:ir)(b c:aU)(W:aA->Prop):List D->cp->aA->List (Key×D)->Option (List (Key×D)×aA)
 | [],Γ,S,acc=>if W S then some (acc,S) else none
 |d ::ds,Γ,S,acc=>if W S then(g d Γ S).bind λ(a,j)=>(t a j).bind λ(k,e)=>
    if k=true then(b a e).bind λ(x,h)=>(c a h).bind λ(y,i)=>(kc x).bind λf=>if acc.length<sizeLine then gu g t b c W ds a i (putD acc f y) else none
    else gu g t b c W ds a e acc
  else none
def mh(js:List (Option Nat))(i:qG)(g:jB)(t:ir)(b d:aU):cp->aA->Option (List (Key×D)×aA):=λa S=>(i a S).bind λ(p,c)=>gu g t b d p.2 p.1 (kg js a) c []
def Dp{M:Md}{js:List (Option Nat)}{i:qG}{g:jB}{t:ir}{fk fv:aU}{σ:L2.St}{H:Hp}{Q:VK}{ρ:List Addr}{Γ:cp}{S S':aA}{l:List (Key×D)}(ok:Ok M ρ Γ S σ H)(e:mh js i g t fk fv Γ S=some (l,S'))
  (q:∀b a kv f,bD ρ H b f->ed M b S' f->H a=none->a∉b->f a=some (.dK kv)->bo M b f l kv->Q (.ref a) f):BZ js (tI M i) (tG M g) (tB M t) (tD M fk) (tD M fv) σ H Q:=by
 obtain⟨⟨⟨n,W⟩,S1⟩,e1,e⟩:=aq e
 refine⟨ρ,Γ,S,n,W,S1,ok,e1,λp J H1 x1 Y wk D U=> ?_⟩
 have n1:D∉p:=dN x1 Y U
 have a9:Ok M p (kg js Γ) S1 (iq js σ) (upd H1 D (.dK [])):=⟨((ok.en.ext x1).ext (bD.laid U)).sig js,Y.lay U⟩
 refine⟨λi m u f=>m=n.length-i/\i<=n.length/\∃c B R d j,bD p H1 c f/\Ok M c B R u f/\D∉c/\f D=some (.dK j)/\bo M c f d j/\gu g t fk fv W (n.drop i) B R d=some (l,S'),
  ⟨n.length,by simp,Nat.zero_le _,p,_,S1,[],[],bD.laid U,a9,n1,a0,rfl,e⟩,?_⟩
 rintro i m b3 H2 ⟨rfl,hi,c,B,R,d,j,x2,ok2,n2,hD2,racc,e2⟩
 by_cases N:i<n.length
 ·have hd:n[i]?=some n[i]:=gQe N
  rw[QWq N] at e2
  unfold gu at e2
  split at e2
  ·rename_i w
   obtain⟨w1,w2⟩:=wk i c R H2 x2 ok2.st w
   obtain⟨go,b0⟩:=w1 _ hd
   refine .inr ⟨go,λu f=>∃b C F d j,bD p H1 b f/\Ok M b C F u f/\D∉b/\f D=some (.dK j)/\bo M b f d j/\gu g t fk fv W (n.drop (i+1)) C F d=some (l,S'),
    λu f ⟨b,C,F,d,j,h1,h2,h3,h4,h5,h6⟩=>⟨n.length-(i+1),by omega,rfl,N,b,C,F,d,j,h1,h2,h3,h4,h5,h6⟩,λx H3 hy=> ?_⟩
   obtain⟨x3,a8,r3⟩:=b0 x H3 hy
   obtain⟨⟨h,S4⟩,e4,e5⟩:=aq e2
   refine⟨c,B,R,_,h,S4,ok2.to x3 a8,r3,e4,λa2 b4 H4 x4 o=> ?_⟩
   obtain⟨⟨k,S5⟩,e6,e7⟩:=aq e5
   refine⟨a2,h,S4,k,S5,o,e6,λZ H5 X I=> ?_⟩
   have A:=(x3.trans x4).trans X
   have G:∀{b f},bD c H2 b f->f D=some (.dK j)/\D∉b:=λ{b f} x=>⟨x.keep _ _ hD2 (.inl n2),λm=>(x.new _ m).elim n2 λz=>by rw[z] at hD2;cases hD2⟩
   dsimp only at e7⊢
   split at e7
   ·rename_i ck
    rw[Qhq ck]
    obtain⟨⟨kx,S6⟩,e8,e9⟩:=aq e7
    obtain⟨⟨y,S7⟩,a4,a1⟩:=aq e9
    obtain⟨kk,a6,P⟩:=aq a1
    refine⟨Z,h,S5,kx,S6,o.to X I,e8,λb2 kv H6 x6 b1 r6=>⟨b2,h,S6,y,S7,(o.to X I).to x6 b1,a4,λa5 v H7 x7 a7 r7=> ?_⟩⟩
    have K:=(A.trans x6).trans x7
    obtain⟨s,n7⟩:=G K
    have L:=racc.ext' K
    split at P
    ·rename_i cl
     refine⟨j,kk,ie r6 a6,s,by rw[←racc.length];exact cl,a5,h,S7,putD d kk y,_,(x2.trans K).off U _,⟨(((o.en.ext X).ext x6).ext x7).offK s,a7.offK s n7⟩,n7,a0,(L.put r7).imp λ_ _ r=>r.offK s,P⟩
    ·cases P
   ·rename_i ck
    rw[Quq ck]
    obtain⟨a3,n5⟩:=G A
    exact⟨Z,h,S5,d,j,x2.trans A,o.to X I,n5,a3,racc.ext' A,e7⟩
  ·cases e2
 ·have e3:i=n.length:=by omega
  subst e3
  rw[List.drop_length] at e2
  unfold gu at e2
  split at e2
  ·rename_i w
   obtain⟨rfl,rfl⟩:=bz e2
   obtain⟨w1,w2⟩:=wk n.length c R H2 x2 ok2.st w
   exact .inl ⟨w2 rfl,q c D j H2 (x1.trans x2) ok2.st (x1.grow _ U) n2 hD2 racc⟩
  ·cases e2
def Hq(n:Nat)(f:cp->aA->Option (List (Key×D)×aA)):cx:=λa S=>(f a S).bind λ(l,b)=>some (.nx (a.set n (some (.ref b.length))) (b++ [.dct l]))
section
variable{X:Cx}{pos:Pos}
def C6{N:List Str}{js:List (Option Nat)}{c:Scope}{p:List (Str×Addr)}{r d w v f:Expr}{j:List Expr}{i:qG}{g:jB}{t:ir}{G I:aU}{n:Nat}{h:Pos}
  (S:aH X N js c p) (hc:X.calm=true) (hi:PI X r d (tI (md X) i))
  (Y:∀C s H fp,PG (aC X N c p C s H fp) r (tG (md X) g)) (R:∀C s H fp,j_ (aC X N c p C s H fp) j (tB (md X) t)) (P:∀C s H fp,PE (aC X N c p C s H fp) w (tD (md X) G)) (M:∀C s H fp,PE (aC X N c p C s H fp) v (tD (md X) I)) (y:PG X f (lg n))
  (L:∀x,foldedSetIterable d X.env x=pure x:=by intro _;rfl) (u:swapsWithSole [f] (.DictComp w v [⟨r,d,j,0⟩] c pos) h.line X.env=pure true:=by rfl)
  (Z:(assignEach [f] X.env).map (·.2)= [assign f X.env]:=by rfl):PS X (.Assign [f] (.DictComp w v [⟨r,d,j,0⟩] c pos) h) (tS (md X) (Hq n (mh js i g t G I))):=
 As (Cg S hc hi Y R P M y L u Z) λD σ H Q=>by
  obtain⟨ρ,Γ,S,o,ok,e,q⟩:=Q
  obtain⟨⟨l,S1⟩,J,e⟩:=aq e
  cases e
  refine Dp ok J λk a K B x A W U ha rs=> ?_
  have z:=A.box (o:=.dct l) U ⟨K,ha,rs.pre' (List.prefix_append k [a])⟩
  have F:bD ρ H (k++ [a]) B:=⟨x.pre.trans (List.prefix_append _ _),λb m=>by
   rcases mQa.mp m with m|m
   ·exact x.new b m
   ·rw[Qfq] at m;subst m;exact .inr W,x.keep,x.grow⟩
  refine q (k++ [a]) _ B F ⟨((ok.en.ext F).set (.ref ?_)),z⟩
  rw[←A.len,QQq (Qmq _)]
  simp
end
end DL
namespace Zp
open PySem PySem.W PyProof.Rows
end Zp
namespace L2
open PySem PySem.Spec PyProof.Rows
end L2
namespace DL
open PySem PySem.Spec PyProof.Rows L2
def rX(a b:Str):Prop:=¬(b.cps.toList<a.cps.toList)
instance(a b:Str):Decidable (rX a b):=by unfold rX;infer_instance
def Ae(a b:Str):rX a b\/rX b a:=by
 by_cases h:b.cps.toList<a.cps.toList
 ·exact .inr λc=>List.lt_asymm h c
 ·exact .inl h
def rQ{a b c:Str}(e:rX a b)(d:rX b c):rX a c:=by
 unfold rX at *
 rw[List.not_lt] at *
 exact List.le_trans e d
def A7{a b:Str}(d:rX a b)(c:rX b a):a=b:=by
 unfold rX at *
 rw[List.not_lt] at *
 have:=List.le_antisymm d c
 cases a
 cases b
 simp only[Str.mk.injEq]
 exact Array.toList_inj.mp this
def xh(x:Str):List Str->List Str
 | []=> [x]
 |y::r=>if rX x y then x::y::r else y::xh x r
def mH:List Str->List Str
 | []=> []
 |x::r=>xh x (mH r)
theorem nk(x:Str):∀l:List Str,(xh x l).Perm (x::l)
 | []=>List.Perm.refl _
 | y::r=>by
   unfold xh
   split
   · exact List.Perm.refl _
   · exact((nk x r).cons y).trans (List.Perm.swap _ _ _)
theorem fY:∀l:List Str,(mH l).Perm l
 | []=>List.Perm.refl _
 |x::r=>(nk x _).trans ((fY r).cons x)
theorem nY{x:Str}:∀{l:List Str},l.Pairwise rX->(xh x l).Pairwise rX
 | [],_=>by simp[xh]
 | y::r,h=>by
   rw[List.pairwise_cons] at h
   unfold xh
   split
   · rename_i c
     refine List.pairwise_cons.mpr ⟨λz a=> ?_,List.pairwise_cons.mpr h⟩
     rcases Qsq.mp a with rfl|a
     · exact c
     · exact rQ c (h.1 z a)
   · rename_i c
     refine List.pairwise_cons.mpr ⟨λz a=> ?_,nY h.2⟩
     rcases Qsq.mp ((nk x r).mem_iff.mp a) with rfl|a
     · exact(Ae _ _).resolve_left c
     · exact h.1 z a
theorem jQ:∀l:List Str,(mH l).Pairwise rX
 | []=>List.Pairwise.nil
 |x::r=>nY (jQ r)
def sZ:∀{l:List Str},sortedS l=true->l.Pairwise rX
 | [],_=>List.Pairwise.nil
 | x::r,h=>by
   have e:∀(r:List Str) (x:Str),risingS x r=true->(x::r).Pairwise rX:=by
     intro r
     induction r with
     |nil=>intro x _;simp
     | cons y r d=>
       intro x h
       unfold risingS at h
       simp only[QCq] at h
       have b:=d y h.2
       have c:rX x y:=by
         have:=h.1
         unfold rX
         rw[ltCps_eq] at this
         simpa using this
       refine List.pairwise_cons.mpr ⟨λz a=> ?_,b⟩
       rcases Qsq.mp a with rfl|a
       · exact c
       · exact rQ c ((List.pairwise_cons.mp b).1 z a)
   exact e r x h
def Ab{c d:List Str}(h:sortedS c=true)(p:c.Perm d):c=mH d:=
 List.Perm.eq_of_pairwise (le:=rX) (λa b _ _ e f=>A7 e f) (sZ h) (jQ d) (p.trans (fY d).symm)
end DL
namespace L2
open PySem PySem.Spec PyProof.Rows
end L2
namespace DL
open PySem PySem.Spec L2
section
variable{X:Cx}{a b e:Expr}{pos:Pos}
def rF:List D->Option (List Str)
 | []=>some []
 |.str x::r=>(rF r).bind λc=>some (x::c)
 |_::_=>none
theorem va{M:Md}{ρ:List Addr}{H:Hp}:∀{ds:List D} {vs:List V} {xs:List Str},aL M ρ H ds vs->rF ds=some xs->vs=xs.map V.str
 | [],_,_,h,e=>by cases h;cases e;rfl
 | d::ds,_,_,h,e=>by
   cases d with
   | str b=>
     simp only[rF] at e
     obtain⟨g,c,e⟩:=aq e
     cases e
     cases h with
     | cons h f=>
       cases h
       rw[va f c]
       rfl
   |_=>cases e
theorem rZ{M:Md}{ρ:List Addr}{H:Hp}:∀c:List Str,aL M ρ H (c.map D.str) (c.map V.str)
 | []=>.nil
 |s::c=>.cons (.str s) (rZ c)
def yK(f:dg):fD:=λd S=>(f d S).bind λ(p,g)=>if p.2.isL=true then(rF p.1).bind λc=>if c.length<64 then some ((mH c).map D.str,g) else none else none
def HR{f:dg}{p:Pos}(y:Gl X "sorted")(n:X.mg "sorted"=none)(z:PE X a (tQ (md X) f))(i:starEach [a] X.env= [(false,eval a X.env)]:=by rfl):
  PE X (.Call (.Name "sorted" p) [a] [] pos) (tL (md X) (yK f)):=
 iO (ju sI y n PyProof.Rows.boot_sorted (cB z eE i) (he:=i)) λL H Q u=>by
  obtain⟨A,o,S,d,J,ok,e,q⟩:=u
  obtain⟨⟨⟨C,t⟩,B⟩,m,e⟩:=aq e
  dsimp only at e
  split at e
  ·rename_i c
   obtain⟨s,I,e⟩:=aq e
   split at e
   ·rename_i G
    obtain⟨rfl,rfl⟩:=bz e
    refine⟨A,o,S,C,t,B,ok,m,λv a M K x j h r=>⟨a,s,rfl,?_,G,λl k g F w=> ?_⟩⟩
    ·rw[←va r I];exact h.sqL c
    ·cases Ab F w
     exact q _ _ _ _ (x.trans (bD.laid g)) (j.lay g) (x.grow _ g) (dN x j g) a0 (rZ _)
   ·cases e
  ·cases e
end
def y4{P:Program}{w:World}{K:PySem.W.Frag}{mg:Str->Option Value}{base:Heap}{f:Addr}{c:FuncData}{ps:List Str}{k n:Nat}:aV P w K mg base de k f c ps (dq ⟨K,mg⟩ n λ_ _=>none):=
 {len:=λd H Q E h=>by
   obtain⟨_,_,_,_,_,_,_,_,e,_⟩:=h
   cases e
  run:=λA a s H b g d Q E _ _ _ _ h=>by
   obtain⟨_,_,_,_,_,_,_,_,e,_⟩:=h
   cases e}
end DL
namespace Zq
open PySem PyProof.Rows
def Dc{prog:Program}{w:World}{A:Around}(n:A.handled=none)(t:Bool)(it a:Addr)(f:a≠it)(items:Array Value):
  Draws prog w A it [it,a] items.size (λi v=>items[i]?=some v) (λi h=>It t h it a i/\Sq t h a items) where
 live:=λ_ _ b=>by obtain⟨o,h,_⟩:=b.1.obj;exact⟨o,h⟩
 frame:=λ_ _ _ b j=>⟨b.1.at λo e=>j it (by simp) o e,b.2.at λo e=>j a (by simp) o e⟩
 item:=λi s Q E g b m=>draw b.1 b.2 (v:=items[i]) (by simp[g]) λl c d=>m _ l s.toks (by simp[g]) ⟨c,b.2.ext d.extBut f⟩ d
 done:=λs Q E b k=>yE n b.1 b.2 (by simp) k
def Co{prog:Program}{w:World}{A:Around}(g:A.handled=none)(t:Bool)(it a:Addr)(items:Array Value)(k:Nat)(c:items.size<=k):
  Draws prog w A it [it,a] k (λi v=>items[i]?=some v) (λi h=>i=k/\It t h it a k/\Sq t h a items) where
 live:=λ_ _ b=>by obtain⟨o,h,_⟩:=b.2.1.obj;exact⟨o,h⟩
 frame:=λ_ _ _ b c=>⟨b.1,b.2.1.at λo e=>c it (by simp) o e,b.2.2.at λo e=>c a (by simp) o e⟩
 item:=λi s Q E f b j=>absurd b.1 (Qwq f)
 done:=λs Q E b d=>yE g b.2.1 b.2.2 (by simp[c]) d
abbrev E2(t:Bool)(h:Heap)(a:Addr):Heap:=(H1 t h a).push {cls:=.type "enumerate",data:=.fields #[.none,.bool false,.ref h.objs.size,rawInt 0,.none,.none]}
def ye(t:Bool)(a:Addr)(xs:Array Value):Meets (Builtin.«enumerate.__new__» ⟨[.type "enumerate",.ref a],[]⟩) (λ_ R s=>Sq t s.heap a xs/\R (.ok (.ret (.ref (H1 t s.heap a).objs.size))) {s with heap:=E2 t s.heap a}):=
 .of_wp λk w A R s h=>by
  obtain⟨f,g,d,e,j⟩:=s
  obtain⟨i,h⟩:=h
  have l:=sub_enumerate
  cases t
  ·have b:Heap.IsList (Shared.heap ⟨f,g,d,e,j⟩) a xs:=i
   wp_walk
   refine wpAny_stack_any λm=>Qgq ?_
   split
   ·rename_i c _ _ _ _ _
    cases (c==Value.type "enumerate")
    ·wp_walk using wpAny_pyIter_list b
     exact⟨_,rfl,h⟩
    ·wp_walk using wpAny_pyIter_list b
     exact⟨_,rfl,h⟩
   ·wp_walk using wpAny_pyIter_list b
    exact⟨_,rfl,h⟩
  ·have b:Heap.IsTuple (Shared.heap ⟨f,g,d,e,j⟩) a xs:=i
   wp_walk
   refine wpAny_stack_any λm=>Qgq ?_
   split
   ·rename_i c _ _ _ _ _
    cases (c==Value.type "enumerate")
    ·wp_walk using wpAny_pyIter_tuple b
     exact⟨_,rfl,h⟩
    ·wp_walk using wpAny_pyIter_tuple b
     exact⟨_,rfl,h⟩
   ·wp_walk using wpAny_pyIter_tuple b
    exact⟨_,rfl,h⟩
section
variable{prog:Program}{w:World}{A:Around}{E:Value->Shared->Prop}{s:Shared}
def Gx{t:Bool}{a:Addr}{xs:Array Value}{Q:Value->Shared->Prop}(g:Sq t s.heap a xs)
  (q:∀h',IsEnum h' (s.heap.objs.size+1) s.heap.objs.size 0 .none->It t h' s.heap.objs.size a 0->(∀c o,s.heap.get? c=some o->h'.get? c=some o)->Q (.ref (s.heap.objs.size+1)) {s with heap:=h'}):
  wpAny (model prog w) A (call (.type "enumerate") [.ref a]) Q E s:=by
 refine callType_new F.called_enumerate (by decide) (F.typeCall_enumerate_1 _) (F.newCall_enumerate_1 _) (λd=>F.args_object_init_2 d _) F.entry_enumerate_new (ye t a xs) ⟨g,?_⟩
 have e:(H1 t s.heap a).objs.size=s.heap.objs.size+1:=Heap.size_push ..
 have b:(E2 t s.heap a).get? (H1 t s.heap a).objs.size=some _:=Qrq _ rfl
 have f:(E2 t s.heap a).get? s.heap.objs.size=some _:=Qcq _ (Qrq _ rfl)
 refine(?_:_/\_)
 rw[e] at b
 rw[e]
 refine⟨⟨_,b,rfl⟩,q _ b ?_ λc o n=>Qcq _ (Qcq _ n)⟩
 cases t <;>exact⟨_,f,rfl,rfl⟩
end
end Zq
namespace L2
open PySem PyProof.Rows Zq
def K3(K:PySem.W.Frag)(t:Bool)(a:Addr):It:=
  ⟨λi H=>∃b x,wj K t H a b/\b[i]?=some x,
   λi H v c=>∃p,v=.ref p/\H p=none/\∀b x,wj K t H a b->b[i]?=some x->c=upd H p (.tup [.int (i:Nat),x]),
   λi H=>∃b,wj K t H a b/\b.length<=i⟩
def zF{P:Program}{w:World}{K:PySem.W.Frag}{r:List Expr}{x1:Nat}{tp:Pos}{t:Bool}{e it a:Addr}(l:e≠it)(S:a≠e)(z:a≠it):
  Turn P w K (.Tuple r x1 tp) (K3 K t a) [e,it] e (λn h=>(∃d,IsEnum h e it (n:Nat) d)/\Zq.It t h it a n) where
 mem:=by simp
 obj:=λn h ⟨⟨d,f⟩,i⟩ c b=>by
  simp at b
  rcases b with rfl|rfl
  ·exact⟨_,f,λv n=>by cases n⟩
  ·exact i.obj
 keep:=λn h h' ⟨⟨d,f⟩,i⟩ k=>⟨⟨d,k e (by simp) _ f⟩,i.at λo e=>k it (by simp) o e⟩
 item:=by
  rintro X m F J b n j s σ H E I y ⟨⟨d,f⟩,i⟩ N
  subst m F J
  obtain⟨xs,x,u,R⟩:=N
  obtain⟨g,L,G,_⟩:=I.sq u
  obtain⟨ux,Z,rx⟩:=L.get R
  have Y:∀{c o},s.heap.get? c=some o->c≠s.heap.objs.size:=λe=>Qwq (Qiq e)
  have p:∀c∈[e,it],c≠s.heap.objs.size:=λc b=>by
   obtain⟨oi,e1,_⟩:=i.obj
   simp at b
   rcases b with rfl|rfl
   ·exact Y f
   ·exact Y e1
  have C:n<g.toArray.size:=by
   have:=(gQs.mp Z).1
   simpa using this
  refine wpAny_pyNext_enum_itemD (Dc (A:=X.A.in1) (I.ok.hd b) t it a z g.toArray) f ⟨i,G⟩ C l (by simp[l,Ne.symm S]) λx' h1 U m ho B hT a1 hk=>⟨_,rfl,?_⟩
  obtain rfl:x'=ux:=by
   have:=m
   simp only[List.getElem?_toArray] at this
   rw[Z] at this
   exact(QdQ this).symm
  refine wpAny_letOwnedTupleGo_enum ho λh2 e2 Q=> ?_
  have I2:Inv X j σ (upd H s.heap.objs.size (.tup [.int (n:Nat),x])) {s with heap:=h2,toks:=U+1}:=I.turnedNew (t':=U+1) (fp:= [e,it]) y (λc o b q=> ?_) (Qmq _) ?_
  ·refine⟨.ref s.heap.objs.size,_,I2,rfl,⟨s.heap.objs.size,rfl,I.hok.fresh (Qmq _),λa2 x' q1 M=> ?_⟩,⟨⟨_,by simpa using e2⟩,B.1.ext Q.extBut (Ne.symm l)⟩,λc b=> ?_⟩
   ·rw[I.sq_inj q1 u] at M
    rw[R] at M
    cases M
    rfl
   ·rw[aJ (p c b)]
    exact(y c b).1
  ·simp at b
   exact Q.extBut _ _ b.1 (hk c o b.1 b.2 q)
  ·exact⟨by show 2<=_;decide,[_,_],.cons ⟨_,rfl⟩ (.cons rx .nil),_,Q.extBut _ _ (λq=>p e (by simp) q.symm) hT,rfl,rfl,0,rfl⟩
 done:=by
  rintro X m F J b n j s σ H E I y ⟨⟨d,f⟩,i⟩ N
  subst m F J
  obtain⟨xs,u,R⟩:=N
  obtain⟨g,L,G,_⟩:=I.sq u
  have hl:=L.length
  refine wpAny_pyNext_enum_endD (Co (A:=X.A.in1) (I.ok.hd b) t it a g.toArray n (by simp;omega)) f ⟨rfl,i,G⟩ λh1 r1=>⟨rfl,I.turnedL (t':=s.toks) (fp:= [e,it]) y λc o b q=> ?_⟩
  simp at b
  exact r1 c o b.2 q
 self:=λ_ _ _ _ _ ⟨⟨d,f⟩,_⟩ h=>wpAny_pyIter_enum f h
section
variable{X:Cx}
def GR(K:PySem.W.Frag)(e:TA):TI:=λd H R=>e d H λc H1=>∃(t:Bool) (a:Addr) (b:List V),c= [.ref a]/\wj K t H1 a b/\R (K3 K t a) H1
def CU{d:List Expr}{A:Nat}{B:Pos}{a:Expr}{j:TA}{p pos:Pos}(G:Gl X "enumerate")(v:X.mg "enumerate"=none)(J:PA X [a] j)(y:starEach [a] X.env= [(false,eval a X.env)]:=by rfl):
  PI X (.Tuple d A B) (.Call (.Name "enumerate" p) [a] [] pos) (GR X.K j):=by
 intro b s F H R I h
 refine Call_ (jg I G v (by rfl) (PyProof.Rows.callWith_type1 (bT (J pos b s F H _ I h) λS f ⟨U,H1,g,M,L⟩=> ?_) y rfl))
 obtain⟨t,x,P,e,u,q⟩:=L
 subst e
 cases M with
 | cons r z=>
   cases z
   cases r
   obtain⟨C,Q,i,_⟩:=g.sq u
   have n:=Sq.lt i
   refine Zq.Gx i λN m w k=> ?_
   refine wpAny_pyIter_enum m ⟨_,_,_,_,H1,rfl,g.kept (t':=f.toks) k,zF (e:=f.heap.objs.size+1) (it:=f.heap.objs.size) (Nat.succ_ne_self _) (Qwq (Nat.lt_succ_of_lt n)) (Qwq n),⟨⟨_,m⟩,w⟩,λc o=> ?_,q⟩
   have l:f.heap.objs.size<=c:=by
     simp only[Qsq,QXq,or_false] at o
     rcases o with e|e <;>(rw[e];first|exact Qmq _|exact Nat.le_add_right _ _)
   exact g.fpOk l (g.hok.fresh l)
end
end L2
namespace DL
open PySem PySem.Spec L2
def gh(n:Nat):List D->List D
 | []=> []
 |d::ds=>.tup [.int n,d]::gh (n+1) ds
theorem sj:∀{ds:List D} {n i:Nat} {d:D},(gh n ds)[i]?=some d->∃x,ds[i]?=some x/\d=.tup [.int ((n+i:Nat)),x]
 | [],_,_,_,h=>by simp[gh] at h
 | x::ds,n,0,d,h=>by
   simp only[gh,List.getElem?_cons_zero,Option.some.injEq] at h
   exact⟨x,rfl,h.symm⟩
 | x::ds,n,i+1,d,h=>by
   simp only[gh,List.getElem?_cons_succ] at h
   obtain⟨y,b,a⟩:=sj h
   exact⟨y,by simpa using b,by rw[a];congr 3;omega⟩
theorem rE:∀{ds:List D} {n:Nat},(gh n ds).length=ds.length
 | [],_=>rfl
 |_::_,_=>congrArg (·+1) rE
def y2(f:dg):qG:=λa S=>(f a S).bind λ(p,b)=>some ((gh 0 p.1,λS=>p.2.stays S p.1),b)
section
variable{X:Cx}{a:Expr}{pos:Pos}
def JQ{c:List Expr}{h:Nat}{J p:Pos}{f:dg}(L:Gl X "enumerate")(y:X.mg "enumerate"=none)(M:PE X a (tQ (md X) f))(n:starEach [a] X.env= [(false,eval a X.env)]:=by rfl):
  PI X (.Tuple c h J) (.Call (.Name "enumerate" p) [a] [] pos) (tI (md X) (y2 f)):=Gu (CU L y (cB M eE n) n) λσ H R ⟨N,z,S,ds,W,S',ok,e,q⟩=>by
 obtain⟨⟨⟨k,G⟩,P⟩,t,e⟩:=aq e
 obtain⟨Z,rfl⟩:=bz e
 obtain⟨rfl,rfl⟩:=Prod.mk.inj Z
 refine⟨N,z,S,k,G,P,ok,t,λA U j H1 h g s Y=> ?_⟩
 refine⟨_,U,j,rfl,s.sqB,q _ _ _ h g λi B S3 H3 F b w=> ?_⟩
 obtain⟨l,m,r⟩:=s.to Y F b w
 refine⟨λd I=> ?_,λhi=>⟨l,m.sqB,?_⟩⟩
 ·obtain⟨x,Q,rfl⟩:=sj I
  obtain⟨u,o,K⟩:=r.get Q
  refine⟨⟨l,u,m.sqB,o⟩,λv H4 C=> ?_⟩
  obtain⟨p,rfl,hp,hq⟩:=C
  have:=hq l u m.sqB o
  subst this
  refine⟨bD.laid hp,b.lay hp,.tup a0 ((aL.cons ?_ (.cons K .nil)).ext (bD.laid hp))⟩
  rw[Nat.zero_add]
  exact .int _
 ·rw[hi,rE,r.length]
  exact Qmq _
end
structure yA(P:Program)(w:World)(K:PySem.W.Frag)(mg:Str->Option Value)(x:Str)(tbl:List (Str×Str)):Prop where
 at_:∃a,mg x=some (.ref a)/\∀h:Heap,K.In h->∃vs,h.DictOf (aW P w) a vs/\∀k nm,tbl.lookup k=some nm->∃f,valueAt vs (Sum.inr k:Key)=some (.ref f)/\mg nm=some (.ref f)
section
variable{X:Cx}{a b c e:Expr}{pos:Pos}
def IK(d:List (Str×Str))(g:aU):aU:=λf S=>(g f S).bind λ(y,i)=>match y with
 |.str x=>(d.lookup x).bind λh=>some (.fn h,i)
 |_=>none
def Dz{x:Str}{i:List (Str×Str)}{g:aU}{p:Pos}(hD:yA X.prog X.w X.K X.mg x i)(hg:Gl X x)(hb:PE X b (tD (md X) g))(P:B2 b)(hd:(x==("__debug__":Str))=false:=by decide):
  PE X (.Subscript (.Name x p) b pos) (tD (md X) (IK i g)):=by
 rintro j s σ H Q I ⟨A,G,S,d,S',ok,e,q⟩
 obtain⟨a,J,hK⟩:=hD.at_
 obtain⟨⟨y,B⟩,C,e⟩:=aq e
 cases y with
 | str z=>
   obtain⟨R,U,e⟩:=aq e
   obtain⟨rfl,rfl⟩:=bz e
   refine yB PySem.F.slot_dict_getitem.lookup P (t7 I hg J ?_ hd)
   refine bT (hb j s σ H (λv l=>∃h,bD A H h l/\ed (md X) h B l/\Rel (md X) h l (.str z) v) I ⟨A,G,S,_,B,ok,C,λh v l x Z r=>⟨h,x,Z,r⟩⟩) λiv s2 qr=> ?_
   obtain⟨v,H2,t,N,h,Y,m,L⟩:=qr
   obtain⟨vs,u,W⟩:=hK _ t.kIn
   obtain⟨f,hf,n⟩:=W z R U
   cases L
   have M:s2.TypeIs (.ref a) "dict":=by
     obtain⟨o,es,ep,h1,h2,h3,_⟩:=u
     exact⟨o,h1,h2.1⟩
   refine⟨M,wpAny_getItem_of (vj (k:=Sum.inr z) N) u.mapOf hf ?_⟩
   exact⟨.ref f,H2,t.tok _,rfl,q _ _ _ Y m (.fn n)⟩
 |_=>cases e
def pJ(i:Nat)(T:List (Str×cI))(g:fD):aU:=λd S=>match d[i]? with
 |some (some (.fn x))=>(T.lookup x).bind λF=>az F g d S
 |_=>none
def DS{i k:Nat}{y:Str}{ps:List Str}{T:List (Str×cI)}{j:List Expr}{g:fD}{p:Pos}(hT:∀x F,T.lookup x=some F->dZ X.prog X.w X.K X.mg X.base k x ps F)(hr:dS k X.A)(hN:X.N[i]?=some y)(Z:Er X.env.scope y)
  (ha:PA X (e::j) (ve (md X) g)) (hn:nA ps.length g) (t:(y==("__debug__":Str))=false:=by decide) (B:(y==("__classdict__":Str))=false:=by decide) (he:starEach (e::j) X.env=(false,eval e X.env)::starEach j X.env:=by rfl) (hpl:(backTo pos (starEach j X.env)).any (·.1)=false:=by rfl):
  PE X (.Call (.Name y p) (e::j) [] pos) (tD (md X) (pJ i T g)):=by
 rintro h s z H Q I ⟨ρ,M,S,d,Y,ok,e,q⟩
 unfold pJ at e
 split at e
 ·rename_i x hx
  obtain⟨F,n,e⟩:=aq e
  obtain⟨f,fd,G,bb,kp,m⟩:=(hT x F n).ex
  obtain⟨v,o,U⟩:=ok.en.get i _ hx
  cases U with
  | fn P=>
    have C:(md X).mg x=some (.ref f):=m
    rw[P] at C
    cases C
    refine wpAny_Call_Name_kw (bT (AY hN Z t B h s z H (λJ l=>J=.ref f/\l=H) I ⟨_,o,rfl,rfl⟩) λu R qr=> ?_)
    obtain⟨J,l,I1,r1,n,e2⟩:=qr
    subst n e2
    cases (show u=Value.ref f from r1)
    refine PySem.W.callWith_K (h₀:=X.base) I.ok.mod.kin kp (bT (ha pos h R z l _ I1 (yN hn z l Q ⟨ρ,M,S,d,Y,ok,e,q⟩)) λus s2 ⟨vs,H1,L,r,q2⟩=>⟨L.kIn,?_⟩) he hpl
    exact AV G hr bb .nil BC L r q2
 ·cases e
end
def xk(w:World)(x:Str):PyData.keyHash w.params x=hashStr w x:=by
 unfold PyData.keyHash hashStr
 first|rfl|simp
inductive Al(w:World)(mg:Str->Option Value):List DictEntry->List (Str×Str)->Prop
 |nil:Al w mg [] []
 |cons {x nm:Str} {t:Tok} {f:Addr} {es:List DictEntry} {tbl:List (Str×Str)}:mg nm=some (.ref f)->Al w mg es tbl->Al w mg (⟨PyData.keyHash w.params x,.str x t,.ref f⟩::es) ((x,nm)::tbl)
def Al.keys{P:Program}{w:World}{mg:Str->Option Value}{b:List DictEntry}{a:List (Str×Str)}(c:Al w mg b a):∀e∈b,∃k,(aW P w).is k e.key=true/\e.hash=(aW P w).hash k:=by
 induction c with
 |nil=>intro e h;cases h
 | @cons x nm t f b a hm c ih=>
   intro e h
   rcases Qsq.mp h with rfl|h
   · exact⟨Sum.inr x,mL x t,xk w x⟩
   · exact ih e h
def Al.pairs{P:Program}{w:World}{mg:Str->Option Value}{b:List DictEntry}{a:List (Str×Str)}(d:Al w mg b a):∃vs:List (Key×Value),Pairs (aW P w) b vs/\vs.map (·.1)=a.map (λp=>Sum.inr p.1)∧
  ∀k nm,a.lookup k=some nm->∃f,valueAt vs (Sum.inr k:Key)=some (.ref f)/\mg nm=some (.ref f):=by
 induction d with
 |nil=>exact⟨[],.nil,rfl,λk nm h=>by cases h⟩
 | @cons x nm t f b a hm d ih=>
   obtain⟨vs,l,j,o⟩:=ih
   refine⟨(Sum.inr x,.ref f)::vs,.cons (mL x t) rfl l,by simp[j],λk n h=> ?_⟩
   by_cases c:k=x
   · subst c
     rw[List.lookup_cons_self] at h
     cases h
     refine⟨f,?_,hm⟩
     unfold valueAt
     rw[List.find?_cons_of_pos (by simp)]
     rfl
   · have m:(k==x)=false:=by simpa using c
     rw[List.lookup_cons,m] at h
     obtain⟨g,e,i⟩:=o k n h
     refine⟨g,?_,i⟩
     unfold valueAt at e⊢
     rw[List.find?_cons_of_neg]
     · exact e
     · intro z
       have:(Sum.inr x:Key)=Sum.inr k:=by simpa using z
       exact c (Sum.inr.inj this).symm
def Cm{P:Program}{w:World}{K:PySem.W.Frag}{mg:Str->Option Value}{x:Str}{c:List (Str×Str)}{a:Addr}{f:List DictEntry}{ep:Nat}(g:mg x=some (.ref a))(l:K.lookup a=some ⟨.type "dict",none,.dict f.toArray ep,#[]⟩)(d:Al w mg f c)(nd:(c.map (·.1)).Nodup):yA P w K mg x c:=by
 obtain⟨o,m,k,q⟩:=d.pairs (P:=P)
 refine⟨a,g,λh i=>⟨o,⟨_,_,_,i _ _ l,⟨rfl,rfl,rfl⟩,rfl,λe j=>d.keys e (by simpa using j),by simpa using m,?_⟩,q⟩⟩
 rw[k]
 have:c.map (λp=>(Sum.inr p.1:Key))=(c.map (·.1)).map Sum.inr:=by rw[QPq];rfl
 rw[this]
 exact List.Pairwise.map _ (λa b n e=>n (Sum.inr.inj e)) nd
theorem A9{P:Program}{w:World}{K:PySem.W.Frag}{mg:Str->Option Value}{base:Heap}{k:Nat}{ps:List Str}:∀{T:List (Str×cI)},(∀p∈T,dZ P w K mg base k p.1 ps p.2)->∀x F,T.lookup x=some F->dZ P w K mg base k x ps F
 | [],_,x,F,h=>by cases h
 | p::T,g,x,F,h=>by
   by_cases c:x=p.1
   · subst c
     rw[List.lookup_cons_self] at h
     cases h
     exact g p (QBq ..)
   · have a:(x==p.1)=false:=by simpa using c
     rw[List.lookup_cons,a] at h
     exact A9 (λq b=>g q (Qpq _ b)) x F h
def uP:Sp:=λc H Q _=>∃(a:Addr) (b:List Int) (o:Obj),c= [.ref a]/\H a=some (.frz o (.lst (b.map V.int)))/\b.length<=63/\∀d,Q (.bl true) d
theorem rC{M:Md}{ρ:List Addr}{H:Hp}:∀ns:List Int,aL M ρ H (ns.map D.int) (ns.map V.int)
 | []=>.nil
 |s::ss=>.cons (.int s) (rC ss)
def CS{P:Program}{w:World}{K:PySem.W.Frag}{mg:Str->Option Value}{base:Heap}{k:Nat}{f:Addr}{g:FuncData}{ps:List Str}{F:cI}(G:aV P w K mg base de k f g ps (dq ⟨K,mg⟩ 1 F))
  (h:∀ns:List Int,ns.length<=63->∃c,F [.ref 0] [.frz (ns.map D.int)]=some (.d (.bl true),c)):aV P w K mg base de k f g ps uP:=
 G.imp λy H Q E j=>by
  obtain⟨a,ns,o,e,s,p,q⟩:=j
  subst e
  obtain⟨c,e⟩:=h ns p
  refine⟨[a],[.frz (ns.map D.int)],[.ref 0],_,c,rfl,.cons (.ref rfl) .nil,⟨rfl,by simp,λk b t i n=> ?_⟩,e,λl v m x u r=> ?_⟩
  ·cases k with
   |zero=>cases i;cases n;exact⟨_,o,s,rC ns⟩
   |succ k=>simp at i
  ·cases r
   exact q m
def xX(K:PySem.W.Frag):Bool:=K.all λp=>match p.2.data with|.seq _ _=>(match p.2.cls with|.type s=>s !="list" |_=>true)|_=>true
def AH{K:PySem.W.Frag}(h:xX K=true){a:Addr}{o:Obj}(e:K.lookup a=some o){d:Array Value}{n:Nat}(hd:o.data=.seq d n):o.cls≠.type "list":=by
 intro k
 have f:∀(K:List (Addr×Obj)),K.all (λp=>match p.2.data with|.seq _ _=>(match p.2.cls with|.type s=>s !="list" |_=>true)|_=>true)=true->K.lookup a=some o->False:=by
  intro K
  induction K with
  |nil=>intro _ e;cases e
  | cons p K i=>
    intro h e
    rw[List.all_cons,QCq] at h
    obtain⟨b,q⟩:=p
    rw[List.lookup_cons] at e
    by_cases c:a=b
    · subst c
      simp only[BEq.rfl] at e
      cases e
      have g:=h.1
      simp only[hd,k] at g
      simp at g
    · have j:(a==b)=false:=by simpa using c
      rw[j] at e
      exact i h.2 e
 exact f K h e
def HQ{K:PySem.W.Frag}{H:Hp}{a:Addr}{ns:List Int}(e:xX K=true)(c:ns.length<=63)(d:DY H)(b:gr K H a (ns.map V.int)):uP [.ref a] H (λv _=>v=.bl true) λ_ _ _=>False:=by
 rcases b with(h|⟨o,h⟩)|⟨o,its,n,h,hc,_,hd,_⟩
 ·rcases d a with z|⟨o,f,z⟩
  ·rw[h] at z;cases z
  ·rw[h] at z;cases z
 ·exact⟨a,ns,o,rfl,h,c,λ_=>rfl⟩
 ·exact absurd hc (AH e h hd)
def GE{l:PySem.W.OpenLaw}{q:Program}{b:List Str}{j:(Str->Option Value)->Heap->Prop}{i:World->Heap->Prop}{d:DefRec}{K:Params->PySem.W.Frag}{k:Nat}(o:l.most=some 63)(c:d.params.defaults= [])(y:dS k PySem.callerA)
  (v:∀(w:World) (h:Heap),i w h->(K w.params).In h) (t:∀w:World,xX (K w.params)=true)
  (F:∀(w:World) (mg:Str->Option Value) (g:Addr) (h:Heap),(K w.params).In h->h.Ns mainGlobals mg->mg d.name=some (.ref g)→
   ∃e:FuncData,(∀(s:Shared) (u:Value),BindsTo s e ⟨[u],[]⟩ [("_law_script",u)])/\∀base:Heap,(K w.params).In base->base.Ns mainGlobals mg->aV l.prog w (K w.params) mg base de k g e ["_law_script"] uP):
  PySem.W.WalkO q b j i l.row.toRowW d [] (λf vs=>PySem.call f vs):=
 L2.Dl (n:=63) (k:=k) (x:="_law_script") (CX:=λ_=>de) (sp:=λ_=>uP) o (by decide) c y v F (λw H a A p r m=>HQ (t w) p r m) λ_ _ _ _ _ z=>z
end DL
namespace DL
open PySem PySem.Spec L2 PyProof.Rows
section
variable{X:Cx}{x:Str}{e:Expr}{f:aU}{pos pos':Pos}
def GO(i:Nat)(d:X.N.Nodup)(he:PE X e (tD (md X) f))(hi:X.N[i]?=some x:=by rfl)(c:Loc X.env.scope x:=by first|exact Or.inl rfl|exact Or.inr rfl)(a:swapsWith e (some (.Name x pos')) pos.line X.env=pure false:=by rfl)
  (b:X.fn x=true\/X.env.scope.names.lookup x=some .local:=by first|exact .inl rfl|exact .inr rfl|assumption):PS X (.Assign [.Name x pos'] e pos) (tS (md X) (a_ i f)):=GX (FD d hi c he a b)
def K6(i:Nat)(c:X.N.Nodup)(hi:X.N[i]?=some x:=by rfl)(b:Loc X.env.scope x:=by first|exact Or.inl rfl|exact Or.inr rfl)(a:X.fn x=true\/X.env.scope.names.lookup x=some .local:=by first|exact .inl rfl|exact .inr rfl|assumption):PG X (.Name x pos) (lg i):=sT c hi b a
def Le(i:Nat)(c:X.N.Nodup)(hi:X.N[i]?=some x:=by rfl)(b:Loc X.env.scope x:=by first|exact Or.inl rfl|exact Or.inr rfl)(a:X.fn x=true\/X.env.scope.names.lookup x=some .local:=by first|exact .inl rfl|exact .inr rfl|assumption):PG X (.Name x pos) (tG (md X) (bU i)):=A6 (sT c hi b a)
def K7{N:List Str}{a:Scope}{b:List (Str×Addr)}{C:Addr}{s:Shared}{H:Hp}{fp:List Addr}(i:Nat)(c:N.Nodup:=by decide +kernel)(hi:(aC X N a b C s H fp).N[i]?=some x:=by rfl)(g:Loc (aC X N a b C s H fp).env.scope x:=by first|exact Or.inl rfl|exact Or.inr rfl)
  (d:(aC X N a b C s H fp).fn x=true\/(aC X N a b C s H fp).env.scope.names.lookup x=some .local:=by first|exact .inl rfl|exact .inr rfl|assumption):PG (aC X N a b C s H fp) (.Name x pos) (tG (md (aC X N a b C s H fp)) (bU i)):=A6 (sT c hi g d)
def v_(i:Nat)(c:X.N[i]?=some x:=by rfl)(b:Er X.env.scope x:=by first|exact Or.inl rfl|exact Or.inr (Or.inl rfl)|exact Or.inr (Or.inr rfl))(hd:(x==("__debug__":Str))=false:=by decide)(a:(x==("__classdict__":Str))=false:=by decide):PE X (.Name x pos) (tD (md X) (au i)):=GG (pv i c b hd a)
end
section
variable{X:Cx}{x:Str}{k k':Nat}{ps:List Str}{F:cI}{e:Expr}{es:List Expr}{g:fD}{p pos:Pos}
def JV(C:dZ X.prog X.w X.K X.mg X.base k x ps F)(c:dS k' X.A)(f:PA X (e::es) (ve (md X) g))(b:k<=k':=by first|decide|omega)(d:Gl X x:=by rfl)
  (h:nA ps.length g:=by repeat (first|exact xF|refine jC ?_))
  (a:(x==("__debug__":Str))=false:=by decide) (he:starEach (e::es) X.env=(false,eval e X.env)::starEach es X.env:=by rfl) (hpl:(backTo pos (starEach es X.env)).any (·.1)=false:=by rfl):
  PE X (.Call (.Name x p) (e::es) [] pos) (tD (md X) (az F g)):=GI C (c.mono b) d f h a he hpl
def JZ(C:dZ X.prog X.w X.K X.mg X.base k x ps F)(c:dS k' X.A)(f:PA X (e::es) (ve (md X) g))(b:k<=k':=by first|decide|omega)(d:Gl X x:=by rfl)
  (h:nA ps.length g:=by repeat (first|exact xF|refine jC ?_))
  (a:(x==("__debug__":Str))=false:=by decide) (he:starEach (e::es) X.env=(false,eval e X.env)::starEach es X.env:=by rfl) (hpl:(backTo pos (starEach es X.env)).any (·.1)=false:=by rfl):
  PE X (.Call (.Name x p) (e::es) [] pos) (tL (md X) (dJ F g)):=HK C (c.mono b) d f h a he hpl
end
def d0{N P:List Str}{h:Scope}(a:h.kind=.function:=by rfl)(b:h.isCoroutine=false:=by rfl)(c:h.isGenerator=false:=by rfl)(d:N.Nodup:=by decide +kernel)(e:N.take P.length=P:=by rfl)
  (f:∀x∈P,h.names.lookup x=some .local\/h.names.lookup x=some .cell:=by decide +kernel) (g:∀y∈h.names,y.2≠.free:=by decide +kernel):aB N P h:=⟨a,b,c,d,e,f,g⟩
structure aO(K:PySem.W.Frag)(x:Str)(st:Stmt)(f:Addr):Prop where
 ex:∃(oc:Value) (od:Option Addr) (kV dc pm:Value) (an:Option Addr) (cd ct:Value) (sl:Array (Option Value)),PySem.W.nsIn K mainGlobals x=some (some (.ref f))∧
  K.lookup f=some ⟨oc,od,.func (PySem.W.fnOf x x (fq st) (dX st) (ay st) .none kV dc pm an cd ct),sl⟩/\PySem.W.codeIn K cd x=true/\PySem.W.keepIn K (.ref f)=true
def aO.of{K:PySem.W.Frag}{x:Str}{st:Stmt}{f:Addr}{i:Value}{g:Option Addr}{kV d h:Value}{e:Option Addr}{b ct:Value}{j:Array (Option Value)}(a:PySem.W.nsIn K mainGlobals x=some (some (.ref f)))
  (l:K.lookup f=some ⟨i,g,.func (PySem.W.fnOf x x (fq st) (dX st) (ay st) .none kV d h e b ct),j⟩) (c:PySem.W.codeIn K b x=true) (k:PySem.W.keepIn K (.ref f)=true):aO K x st f:=⟨i,g,kV,d,h,e,b,ct,j,a,l,c,k⟩
structure Jo(K:PySem.W.Frag)(mg:Str->Option Value)(x:Str)(st:Stmt)(ps:List Str)(f:Addr):Prop where
 ex:∃fd,dr K x x st f fd/\Binds K fd ps []/\PySem.W.keepIn K (.ref f)=true
 m:mg x=some (.ref f)
def aO.ok1{K:PySem.W.Frag}{mg:Str->Option Value}{x:Str}{st:Stmt}{ps:List Str}{f:Addr}{h:Heap}(D:aO K x st f)(X:K.In h)(G:h.Ns mainGlobals mg)
  (m:∀(kV b e:Value) (i:Option Addr) (c ct:Value) (a:List Value),a.length=ps.length->bindArgs (PySem.W.fnOf x x (fq st) (dX st) (ay st) .none kV b e i c ct) ⟨a,[]⟩=pure (ps.zip a):=by intro _ _ _ _ _ _ a k;rcases a with _|⟨_,_|⟨_,_|⟨_,_|⟨_,_|⟨_,_|⟨_,_⟩⟩⟩⟩⟩⟩ <;>first|rfl|cases k):Jo K mg x st ps f:=by
 obtain⟨o,n,kV,q,e,i,p,ct,r,l,g,j,d⟩:=D.ex
 exact⟨⟨_,xR g j d,(xR g j d).binds m,d⟩,PySem.W.mg_of X G l⟩
structure Pk(P:Program)(w:World)(base:Heap):Prop where
def Jo.cal{P:Program}{w:World}{base:Heap}{K:PySem.W.Frag}{mg:Str->Option Value}{x:Str}{st:Stmt}{ps:List Str}{f:Addr}{k:Nat}{F:cI}(O:Jo K mg x st ps f)(Z:Pk P w base)
  (h:∀a,dr K x x st f a->Binds K a ps []->PySem.W.keepIn K (.ref f)=true->mg x=some (.ref f)->aV P w K mg base de k f a ps (dq ⟨K,mg⟩ ps.length F)):dZ P w K mg base k x ps F:=by
 obtain⟨a,d,b,c⟩:=O.ex
 exact⟨f,a,h a d b c O.m,b,c,O.m⟩
end DL
namespace DL
open PySem PySem.Spec L2
def E{α:Type}(f:cp->aA->Option (α×aA))(c:cp)(S:aA)(Q:α->aA->Prop):Prop:=∃a b,f c S=some (a,b)/\Q a b
def T(f:cx)(a:cp)(S:aA)(Q:Out->Prop):Prop:=∃o,f a S=some o/\Q o
def Fn(F:cI)(ds:List D)(S:aA)(Q:Res->aA->Prop):Prop:=∃r a,F ds S=some (r,a)/\Q r a
def Tg(g:jB)(d:D)(c:cp)(S:aA)(Q:cp->aA->Prop):Prop:=∃a b,g d c S=some (a,b)/\Q a b
def Iq(g:oy)(d:List D)(c:cp)(S:aA)(Q:cp->aA->Prop):Prop:=∃a b,g d c S=some (a,b)/\Q a b
def Op{α:Type}(o:Option α)(Q:α->Prop):Prop:=∃d,o=some d/\Q d
section
variable{Γ:cp}{S:aA}
def E.mono{α:Type}{f:cp->aA->Option (α×aA)}{Q R:α->aA->Prop}(h:E f Γ S Q)(i:∀a S,Q a S->R a S):E f Γ S R:=by
 obtain⟨a,b,e,q⟩:=h
 exact⟨a,b,e,i _ _ q⟩
def bj{i:Nat}{d:D}{Q:D->aA->Prop}(h:Γ[i]?=some (some d))(q:Q d S):E (au i) Γ S Q:=⟨d,S,by unfold au;rw[h],q⟩
def CL{d:D}{Q:D->aA->Prop}(q:Q d S):E (cF d) Γ S Q:=⟨d,S,rfl,q⟩
def zg{Q:List D->aA->Prop}(q:Q [] S):E aw Γ S Q:=⟨[],S,rfl,q⟩
def gw{f:aU}{g:fD}{Q:List D->aA->Prop}(h:E f Γ S λd a=>E g Γ a λds S2=>Q (d::ds) S2):E (av f g) Γ S Q:=by
 obtain⟨d,a,b,ds,S2,c,q⟩:=h
 exact⟨_,_,by unfold av;rw[b];simp only[Qbq];rw[c];rfl,q⟩
def rp{o:qW}{f g:aU}{Q:D->aA->Prop}(h:E f Γ S λx a=>E g Γ a λy S2=>Op (o S2 x y) λd=>Q d S2):E (bf o f g) Γ S Q:=by
 obtain⟨x,a,b,y,S2,c,d,e,q⟩:=h
 exact⟨d,S2,by unfold bf;rw[b];simp only[Qbq];rw[c];simp only[Qbq];rw[e];rfl,q⟩
def vp{f:fD}{Q:D->aA->Prop}(h:E f Γ S λds a=>ds.length<=sizeLine/\Q (.tup ds) a):E (bc f) Γ S Q:=by
 obtain⟨ds,a,b,l,q⟩:=h
 exact⟨_,_,by unfold bc;rw[b];simp only[Qbq];rw[Qhq l],q⟩
def ID{f:fD}{Q:List D->aA->Prop}(h:E f Γ S λds a=>ds.length<=sizeLine/\Q ds a):E (fN f) Γ S Q:=by
 obtain⟨ds,a,b,l,q⟩:=h
 exact⟨_,_,by unfold fN;rw[b];simp only[Qbq];rw[Qhq l],q⟩
def KY{f:fD}{Q:D->aA->Prop}(h:E f Γ S λds a=>Q (.ref a.length) (a++ [.lst ds])):E (hV f) Γ S Q:=by
 obtain⟨ds,a,b,q⟩:=h
 exact⟨_,_,by unfold hV;rw[b];rfl,q⟩
def Ld{o:Em}{f:fD}{Q:D->aA->Prop}(h:E f Γ S λds a=>Op (o ds) λd=>Q d a):E (AU o f) Γ S Q:=by
 obtain⟨ds,a,b,d,c,q⟩:=h
 exact⟨d,a,by unfold AU;rw[b];simp only[Qbq];rw[c];rfl,q⟩
def jW{f:aU}{Q:(List D×Tag)->aA->Prop}(h:E f Γ S λd a=>Op (ql a d) λp=>Q p a):E (bJ f) Γ S Q:=by
 obtain⟨e,a,b,d,c,q⟩:=h
 exact⟨d,a,by unfold bJ;rw[b];simp only[Qbq];rw[c];rfl,q⟩
def FQ{f:fD}{Q:(List D×Tag)->aA->Prop}(h:E f Γ S λds a=>Q (ds,.fr) a):E (kL f) Γ S Q:=by
 obtain⟨ds,a,b,q⟩:=h
 exact⟨_,a,by unfold kL;rw[b];rfl,q⟩
def KU{f:dg}{Q:D->aA->Prop}(h:E f Γ S λp a=>Q (.int p.1.length) a):E (iZ f) Γ S Q:=by
 obtain⟨p,a,b,q⟩:=h
 exact⟨_,a,by unfold iZ;rw[b];rfl,q⟩
def Fe{f:dg}{Q:D->aA->Prop}(h:E f Γ S λp a=>Q (.tup p.1) a):E (tupQ f) Γ S Q:=by
 obtain⟨p,a,b,q⟩:=h
 exact⟨_,a,by unfold tupQ;rw[b];rfl,q⟩
def An{f:dg}{Q:(List D×Tag)->aA->Prop}(h:E f Γ S λp a=>p.2.isL=true/\Q p a):E (jx f) Γ S Q:=by
 obtain⟨p,a,b,l,q⟩:=h
 exact⟨_,a,by unfold jx;rw[b];simp only[Qbq];rw[Qhq l],q⟩
def CQ{f:dg}{Q:D->aA->Prop}(h:E f Γ S λp a=>(p.2.isL=true/\p.2.stays a p.1)/\Q (.bl (!p.1.isEmpty)) a):E (mN f) Γ S Q:=by
 obtain⟨p,a,b,l,q⟩:=h
 exact⟨_,a,by unfold mN;rw[b];simp only[Qbq];rw[Qhq l],q⟩
def Bv{F:cI}{g:fD}{Q:D->aA->Prop}(h:E g Γ S λds a=>Fn F ds a λr S2=>match r with|.d x=>Q x S2|.l _=>False):E (az F g) Γ S Q:=by
 obtain⟨ds,a,b,r,S2,c,q⟩:=h
 cases r with
 |d x=>exact⟨x,S2,by unfold az;rw[b];simp only[Qbq];rw[c];rfl,q⟩
 |l x=>exact q.elim
def Ir{F:cI}{g:fD}{Q:List D->aA->Prop}(h:E g Γ S λds a=>Fn F ds a λr S2=>match r with|.d _=>False|.l x=>Q x S2):E (dJ F g) Γ S Q:=by
 obtain⟨ds,a,b,r,S2,c,q⟩:=h
 cases r with
 |d x=>exact q.elim
 |l x=>exact⟨x,S2,by unfold dJ;rw[b];simp only[Qbq];rw[c];rfl,q⟩
def ff{f:aU}{Q:Bool->aA->Prop}(h:E f Γ S λd a=>match d with|.bl k=>Q k a|_=>False):E (aQ f) Γ S Q:=by
 obtain⟨d,a,b,q⟩:=h
 cases d with
 |bl k=>exact⟨k,a,by unfold aQ;rw[b];rfl,q⟩
 |_=>exact q.elim
def Ep{f:aU}{Q:Bool->aA->Prop}(h:E f Γ S λd a=>Op (xV a d) λk=>Q k a):E (jO f) Γ S Q:=by
 obtain⟨d,a,b,k,c,q⟩:=h
 exact⟨k,a,by unfold jO;rw[b];simp only[Qbq];rw[c];rfl,q⟩
def Bi{f:ir}{Q:Bool->aA->Prop}(h:E f Γ S λk a=>Q (!k) a):E (wx f) Γ S Q:=by
 obtain⟨k,a,b,q⟩:=h
 exact⟨_,a,by unfold wx;rw[b];rfl,q⟩
def w6{f g:ir}{Q:Bool->aA->Prop}(h:E f Γ S λk a=>if k=true then E g Γ a Q else Q false a):E (qI f g) Γ S Q:=by
 obtain⟨k,a,b,q⟩:=h
 cases k with
 |true=>obtain⟨j,c,d,q⟩:=(q:E g Γ a Q);exact⟨j,c,by unfold qI;rw[b];exact d,q⟩
 |false=>exact⟨false,a,by unfold qI;rw[b];rfl,q⟩
def yV{f g:ir}{Q:Bool->aA->Prop}(h:E f Γ S λk a=>if k=true then Q true a else E g Γ a Q):E (Gf f g) Γ S Q:=by
 obtain⟨k,a,b,q⟩:=h
 cases k with
 |true=>exact⟨true,a,by unfold Gf;rw[b];rfl,q⟩
 |false=>obtain⟨j,c,d,q⟩:=(q:E g Γ a Q);exact⟨j,c,by unfold Gf;rw[b];exact d,q⟩
def Kk{c:ir}{f g:aU}{Q:D->aA->Prop}(h:E c Γ S λk a=>if k=true then E f Γ a Q else E g Γ a Q):E (sF c f g) Γ S Q:=by
 obtain⟨k,a,e,q⟩:=h
 cases k with
 |true=>obtain⟨j,b,d,q⟩:=(q:E f Γ a Q);exact⟨j,b,by unfold sF;rw[e];exact d,q⟩
 |false=>obtain⟨j,b,d,q⟩:=(q:E g Γ a Q);exact⟨j,b,by unfold sF;rw[e];exact d,q⟩
def G8{i:Nat}{f:aU}{Q:Out->Prop}(h:E f Γ S λd a=>Q (.nx (Γ.set i (some d)) a)):T (a_ i f) Γ S Q:=by
 obtain⟨d,a,b,q⟩:=h
 exact⟨_,by unfold a_;rw[b];rfl,q⟩
def nI{f:aU}{Q:Out->Prop}(h:E f Γ S λd a=>Q (.rt d a)):T (cz f) Γ S Q:=by
 obtain⟨d,a,b,q⟩:=h
 exact⟨_,by unfold cz;rw[b];rfl,q⟩
def Jb{f:fD}{Q:Out->Prop}(h:E f Γ S λd a=>Q (.rl d a)):T (D6 f) Γ S Q:=by
 obtain⟨d,a,b,q⟩:=h
 exact⟨_,by unfold D6;rw[b];rfl,q⟩
def vJ{f:aU}{Q:Out->Prop}(h:E f Γ S λd a=>Q (.nx Γ a)):T (wM f) Γ S Q:=by
 obtain⟨d,a,b,q⟩:=h
 exact⟨_,by unfold wM;rw[b];rfl,q⟩
def bM{Q:Out->Prop}(q:Q (.nx Γ S)):T gD Γ S Q:=⟨_,rfl,q⟩
def Lb{f:aU}{g:jB}{Q:Out->Prop}(h:E f Γ S λd b=>Tg g d Γ b λa S2=>Q (.nx a S2)):T (oI f g) Γ S Q:=by
 obtain⟨d,b,c,a,S2,e,q⟩:=h
 exact⟨_,by unfold oI;rw[c];simp only[Qbq];rw[e];rfl,q⟩
def bA{f g:cx}{Q:Out->Prop}(h:T f Γ S λo=>match o with|.nx a b=>T g a b Q|o=>Q o):T (aE f g) Γ S Q:=by
 obtain⟨o,c,q⟩:=h
 cases o with
 |nx a b=>obtain⟨o,d,q⟩:=(q:T g a b Q);exact⟨o,by unfold aE;rw[c];exact d,q⟩
 |_=>exact⟨_,by unfold aE;rw[c];rfl,q⟩
def dR{c:ir}{f g:cx}{Q:Out->Prop}(h:E c Γ S λk a=>if k=true then T f Γ a Q else T g Γ a Q):T (ft c f g) Γ S Q:=by
 obtain⟨k,a,d,q⟩:=h
 cases k with
 |true=>obtain⟨j,b,q⟩:=(q:T f Γ a Q);exact⟨j,by unfold ft;rw[d];exact b,q⟩
 |false=>obtain⟨j,b,q⟩:=(q:T g Γ a Q);exact⟨j,by unfold ft;rw[d];exact b,q⟩
def aR{i:Nat}{d:D}{Q:cp->aA->Prop}(q:Q (Γ.set i (some d)) S):Tg (bU i) d Γ S Q:=⟨_,_,rfl,q⟩
def Lj{f g:aU}{d:D}{Q:cp->aA->Prop}(h:E f Γ S λx a=>E g Γ a λy S2=>∃k i ds j,x=.ref k/\y=.int i/\S2[k]?=some (.lst ds)/\yu ds.length i=some j/\Q Γ (S2.set k (.lst (ds.set j d)))):Tg (DC f g) d Γ S Q:=by
 obtain⟨x,a,b,y,S2,c,k,i,ds,j,rfl,rfl,h1,h2,q⟩:=h
 exact⟨_,_,by unfold DC;rw[b];simp only[Qbq];rw[c];simp only[Qbq,h1,h2],q⟩
def KM{f g h:aU}{Q:Out->Prop}(w:E f Γ S λx c=>E g Γ c λy S2=>∃k i ds m,x=.ref k/\y=.int i/\S2[k]?=some (.lst ds)/\0<=i/\ds[i.toNat]?=some (.int m)/\E h Γ S2 λz b=>∃n a j,z=.int n/\b[k]?=some (.lst a)/\yu a.length i=some j/\Q (.nx Γ (b.set k (.lst (a.set j (.int (m+n))))))):T (IH f g h) Γ S Q:=by
 obtain⟨x,c,d,y,S2,e,k,i,ds,m,rfl,rfl,h1,h2,h3,z,b,e3,n,a,j,rfl,h4,h5,q⟩:=w
 exact⟨_,by unfold IH;rw[d];simp only[Qbq];rw[e];simp only[Qbq,h1,Qhq h2,h3,e3,h4,h5],q⟩
def oV{i:qG}{g:jB}{b:cx}{Q:Out->Prop} (h:E i Γ S λp u=>∃I:Nat->cp->aA->Prop,I 0 Γ u/\(∀n a e,I n a e->p.2 e)∧
   (∀(n:Nat) (d:D) (a:cp) (e:aA),p.1[n]?=some d->I n a e->Tg g d a e λl S2=>T b l S2 λo=>match o with|.nx c f=>I (n+1) c f|.ct c f=>I (n+1) c f|.bk c f=>Q (.nx c f)|o=>Q o)∧
   ∀a e,I p.1.length a e->Q (.nx a e)):T (qJ i g b) Γ S Q:=by
 obtain⟨⟨s,W⟩,u,z,I,B,w,j,r⟩:=h
 have A:∀(k n:Nat) (a:cp) (e:aA),n+k=s.length->I n a e->∃o,forL g b W (s.drop n) a e=some o/\Q o:=by
  intro k
  induction k with
  | zero=>
    intro n a e y t
    rw[List.drop_of_length_le (by omega)]
    refine⟨.nx a e,by simp only[forL];rw[Qhq (w _ _ _ t)],r _ _ (by rw[←y];exact t)⟩
  | succ k x=>
    intro n a e y t
    have m:n<s.length:=by omega
    rw[QWq m]
    obtain⟨l,S2,v,o,C,q⟩:=j n s[n] a e (gQe m) t
    simp only[forL]
    rw[Qhq (w _ _ _ t),v]
    simp only[Qbq]
    rw[C]
    simp only[Qbq]
    cases o with
    |nx c f=>exact x (n+1) c f (by omega) q
    |ct c f=>exact x (n+1) c f (by omega) q
    |bk c f=>exact⟨_,rfl,q⟩
    |rt d f=>exact⟨_,rfl,q⟩
    |rl d f=>exact⟨_,rfl,q⟩
 obtain⟨o,v,q⟩:=A s.length 0 Γ u (by omega) B
 exact⟨o,by unfold qJ;rw[z];exact v,q⟩
def hG{js:List (Option Nat)}{i:qG}{g:jB}{t:ir}{f:aU}{Q:List D->aA->Prop} (h:E i Γ S λp z=>∃I:Nat->cp->aA->List D->Prop,I 0 (kg js Γ) z []/\(∀n b j a,I n b j a->p.2 j)∧
   (∀(n:Nat) (d:D) (b:cp) (j:aA) (a:List D),p.1[n]?=some d->I n b j a->Tg g d b j λe S2=>E t e S2 λk w=>if k=true then E f e w λy x=>a.length<sizeLine/\I (n+1) e x (a++ [y]) else I (n+1) e w a)∧
   ∀b j a,I p.1.length b j a->Q a j):E (bP js i g t f) Γ S Q:=by
 obtain⟨⟨u,W⟩,z,G,I,L,B,m,s⟩:=h
 have J:∀(k n:Nat) (b:cp) (j:aA) (a:List D),n+k=u.length->I n b j a->∃r l,j6 g t f W (u.drop n) b j a=some (r,l)/\Q r l:=by
  intro k
  induction k with
  | zero=>
    intro n b j a F v
    rw[List.drop_of_length_le (by omega)]
    refine⟨a,j,by simp only[j6];rw[Qhq (B _ _ _ _ v)],s _ _ _ (by rw[←F];exact v)⟩
  | succ k C=>
    intro n b j a F v
    have o:n<u.length:=by omega
    rw[QWq o]
    obtain⟨e,S2,A,c,w,M,q⟩:=m n u[n] b j a (gQe o) v
    simp only[j6]
    rw[Qhq (B _ _ _ _ v),A]
    simp only[Qbq]
    rw[M]
    simp only[Qbq]
    cases c with
    | true=>
      rw[Qhq rfl] at q⊢
      obtain⟨y,x,H,K,q⟩:=q
      rw[H]
      simp only[Qbq]
      rw[Qhq K]
      exact C (n+1) e x _ (by omega) q
    | false=>
      rw[Quq (by decide)] at q⊢
      exact C (n+1) e w _ (by omega) q
 obtain⟨r,l,A,q⟩:=J u.length 0 _ z [] (by omega) L
 exact⟨r,l,by unfold bP;rw[G];exact A,q⟩
def yr{f:aU}{Q:(List D×(aA->Prop))->aA->Prop}(h:E f Γ S λd a=>∃j,d=.int j/\(-(2^62)<=j/\j<2^62)/\Q (oE 0 j,λ_=>True) a):E (t6 f) Γ S Q:=by
 obtain⟨d,a,b,j,rfl,hj,q⟩:=h
 exact⟨_,a,by unfold t6;rw[b];simp only[Qbq];rw[Qhq hj],q⟩
def uU{f:dg}{Q:(List D×(aA->Prop))->aA->Prop}(h:E f Γ S λp a=>Q (p.1,λb=>p.2.stays b p.1) a):E (qm f) Γ S Q:=by
 obtain⟨p,a,c,q⟩:=h
 exact⟨_,a,by unfold qm;rw[c];rfl,q⟩
def wH{m:List D->List D->Option (List D×D)}{f:aU}{g:fD}{Q:D->aA->Prop}(h:E f Γ S λx b=>∃k a,x=.ref k/\b[k]?=some (.lst a)/\E g Γ b λys S2=>∃ds,S2[k]?=some (.lst ds)/\Op (m ds ys) λp=>Q p.2 (S2.set k (.lst p.1))):E (Aj m f g) Γ S Q:=by
 obtain⟨x,b,c,k,a,rfl,h1,ys,S2,e2,ds,h2,p,e3,q⟩:=h
 exact⟨_,_,by unfold Aj;rw[c];simp only[Qbq,e2,h1,h2,e3],q⟩
end
def bq{n:Nat}{b:cx}{ds:List D}{S:aA}{Q:Res->aA->Prop} (h:T b (ds.map some++List.replicate (n-ds.length) none) S λo=>match o with
   |.nx _ a=>Op (settle S .non a) λp=>Q p.1 p.2|.rt d a=>Op (settle S d a) λp=>Q p.1 p.2|.rl l a=>Op (dj S l a) λp=>Q p.1 p.2|_=>False):Fn (dI n b) ds S Q:=by
 obtain⟨o,f,q⟩:=h
 cases o with
 |nx g a=>obtain⟨⟨r,c⟩,e,q⟩:=q;exact⟨r,c,by unfold dI;rw[f];exact e,q⟩
 |rt d a=>obtain⟨⟨r,c⟩,e,q⟩:=q;exact⟨r,c,by unfold dI;rw[f];exact e,q⟩
 |rl d a=>obtain⟨⟨r,c⟩,e,q⟩:=q;exact⟨r,c,by unfold dI;rw[f];exact e,q⟩
 |bk=>exact q.elim
 |ct=>exact q.elim
def eD{S a S2:aA}{d:D}{Q:Res×aA->Prop}(e:iK S a)(b:a.take S.length=S2)(hd:∀k,d≠.ref k)(c:bB S.length d=true)(q:Q (.d d,S2)):Op (settle S d a) Q:=by
 refine⟨_,?_,q⟩
 unfold settle
 rw[Qhq e,b]
 cases d with
 |ref k=>exact absurd rfl (hd k)
 |_=>simp only[c,if_true]
def km{S a S2:aA}{ds:List D}{Q:Res×aA->Prop}(d:iK S a)(b:a.take S.length=S2)(c:bh S.length ds=true)(q:Q (.l ds,S2)):Op (dj S ds a) Q:=by
 refine⟨_,?_,q⟩
 unfold dj
 rw[Qhq ⟨d,c⟩,b]
def kK{S:aA}:iK S S:=⟨Qmq _,λk o _ h=>.inl h⟩
def my{S:aA}{k:Nat}{o:O}(h:zK S.length o=true):iK S (S.set k o):=by
 refine⟨by simp,λj u _ e=> ?_⟩
 rw[List.getElem?_set] at e
 split at e
 ·split at e
  ·cases e;exact .inr h
  ·cases e
 ·exact .inl e
def Ac{S a G:aA}(h:iK S a):iK S (a++G):=by
 refine⟨by rw[lQa];have:=h.1;omega,λk o b e=> ?_⟩
 rw[QHq (by have:=h.1;omega)] at e
 exact h.2 k o b e
end DL
namespace L2
open PySem PySem.Spec PyProof.Rows
end L2
namespace DL
open PySem PySem.Spec L2
end DL
namespace L2
open PySem PySem.Spec PyProof.Rows
end L2
namespace DL
open PySem PySem.Spec PyProof.Rows L2
end DL
namespace L2
open PySem PySem.Spec PyProof.Rows
end L2
namespace DL
open PySem PySem.Spec PyProof.Rows L2
end DL
namespace DL
open PySem PySem.Spec L2
end DL
namespace L2
open PySem PySem.Spec
end L2
namespace DL
open PySem PySem.Spec L2
end DL
namespace DL
open PySem PySem.Spec PyProof.Rows L2
end DL
namespace L2
open PySem PySem.Spec PyProof.Rows
end L2
namespace DL
open PySem PySem.Spec L2
end DL
namespace L2
open PySem PySem.Spec PyProof.Rows
def HC(a:Addr)(ob:Obj)(b:List (Key×V)):It:=⟨λi H=>H a=some (.frz ob (.dK b))/\i<b.length,λi H v c=>c=H/\∃k x,b[i]?=some (k,x)/\v=kV k,λi H=>H a=some (.frz ob (.dK b))/\i=b.length⟩
def CY{P:Program}{w:World}{k:Key}{u:Value}(h:(aW P w).is k u=true):RelV (kV k) u:=by
 rw[yh] at h
 cases k with
 | inl i=>
   cases u <;>simp[jl,Value.isInt] at h
   subst h
   exact⟨_,rfl⟩
 | inr x=>
   cases u <;>simp[jl,Value.isStrOf] at h
   subst h
   exact⟨_,rfl⟩
theorem rV{α c:Type}{F:α->c->Prop}:∀{l:List α} {m:List c} {i:Nat} {a:α},Paired F l m->l[i]?=some a->∃b,m[i]?=some b/\F a b
 |_,_,0,_,.cons h _,e=>by cases e;exact⟨_,rfl,h⟩
 |_,_,i+1,_,.cons _ t,e=>by simpa using rV (i:=i) t (by simpa using e)
 |_,_,_,_,.nil,e=>by simp at e
def AI{P:Program}{w:World}{K:PySem.W.Frag}{tg:Expr}{a it:Addr}{ob:Obj}{g:List (Key×V)}{ep:Nat}(A:∃y,ob.data=.dict y ep):Turn P w K tg (HC a ob g) [it] it (λi h=>h.IsKeyIter it a i g.length ep) where
 mem:=by simp
 obj:=λi h j b q=>by
  have e:b=it:=by simpa using q
  subst e
  obtain⟨o,e,c,d⟩:=j
  exact⟨o,e,λv z=>by rw[d] at z;cases z⟩
 keep:=λi h J j k=>j.at λo e=>k it (by simp) o e
 item:=by
  intro X M U Y hc i m s σ H E I L j hg
  subst M U Y
  obtain⟨Z,hi⟩:=hg
  obtain⟨f,r,B,vs,G,o,y,a1,F,hx,t,hr⟩:=(show bI X.prog X.w H s.heap a (.frz ob (.dK g)) from I.hok a _ Z)
  rw[f] at F
  cases F
  obtain⟨a3,l⟩:=A
  rw[l] at t
  cases t
  have C:g.length=vs.length:=KV.length G
  obtain⟨N,f1,f2,f3,R,S⟩:=L it (by simp)
  obtain⟨⟨k,x⟩,hk⟩:∃p,g[i]?=some p:=⟨_,gQe hi⟩
  obtain⟨⟨k',x'⟩,a2,e1,_⟩:=rV G hk
  cases e1
  rw[C] at j
  refine wpAny_pyNext_dict_item j ⟨ob,y,f,hx,l,hr⟩ a2 λQ J u n sb=> ?_
  have I1:Inv X m σ H {s with heap:=J}:=I.turned (t':=s.toks) (λb o q e=>(sb.2 b q).trans e) N f1 f3 R S
  obtain⟨o,e,c,d⟩:=id n
  rw[←C] at n
  exact⟨Q,rfl,zd (s:={s with heap:=J}) e c d (by decide) ⟨kV k,H,I1,CY u,⟨rfl,k,x,hk,rfl⟩,n,λb q=>(L b q).1⟩⟩
 done:=by
  intro X M U Y hc i m s σ H E I L j hg
  subst M U Y
  obtain⟨Z,hi⟩:=hg
  obtain⟨f,r,B,vs,G,o,y,a1,F,hx,t,hr⟩:=(show bI X.prog X.w H s.heap a (.frz ob (.dK g)) from I.hok a _ Z)
  rw[f] at F
  cases F
  obtain⟨a3,l⟩:=A
  rw[l] at t
  cases t
  have C:g.length=vs.length:=KV.length G
  obtain⟨N,f1,f2,f3,R,S⟩:=L it (by simp)
  rw[C] at j
  exact wpAny_pyNext_dict_end (I.ok.hd hc) j ⟨ob,y,f,hx,l,hr⟩ (by rw[hi,C];simp) λJ eb=>⟨rfl,I.turned (t':=s.toks) (λb o q e=>eb b o q e) N f1 f3 R S⟩
 self:=λ_ _ _ _ _ j h=>wpAny_pyIter_keyiter j h
def GK(e:TE):TI:=λd H R=>e d H λx H1=>∃a b,x=.ref a/\((H1 a=some (.dK b)/\∀c,R (HC a c b) (upd H1 a (.frz c (.dK b))))\/∃c,H1 a=some (.frz c (.dK b))/\R (HC a c b) H1)
def CT{X:Cx}{G l:Expr}{M:TE}(N:PE X l M):PI X G l (GK M):=by
 intro f s z H R I h
 refine bT (N f s z H _ I h) λv g S=> ?_
 obtain⟨x,H1,y,U,a,c,e,q⟩:=S
 subst e
 cases U
 have L:∀{H2:Hp} {ob:Obj},Inv X f z H2 g->H2 a=some (.frz ob (.dK c))->R (HC a ob c) H2->wpAny (model X.prog X.w) X.A (pyIter (.ref a)) (J2 X f z G R) X.xe g:=by
  intro H2 ob k t n
  obtain⟨j,i,d,B,r,o,p,ep,m,P,K,C⟩:=(show bI X.prog X.w H2 g.heap a (.frz ob (.dK c)) from k.hok a _ t)
  rw[j] at m
  cases m
  have F:c.length=B.length:=KV.length r
  refine wpAny_pyIter_dict d ⟨ob,p,j,P,K,C⟩ ?_
  refine⟨g.heap.objs.size,[g.heap.objs.size],_,_,H2,rfl,k.kept (t':=g.toks) λb o e=>Qcq _ e,AI (ep:=ep) ⟨p,K⟩,⟨_,Qrq _ rfl,rfl,by rw[F];rfl⟩,λb Q=> ?_,n⟩
  have e:b=g.heap.objs.size:=by simpa using Q
  subst e
  exact k.fpOk (Qmq _) (k.hok.fresh (Qmq _))
 rcases q with⟨J,n⟩|⟨ob,t,n⟩
 ·obtain⟨i,d,B,r,o,p,ep,m,C⟩:=(show bI X.prog X.w H1 g.heap a (.dK c) from y.hok a _ J)
  have k:=y.write (x:=a) (e:=a) (o:=.frz o (.dK c)) (h':=g.heap) (t':=g.toks) (by rw[J];trivial) (.inl rfl) (λb u _ e=>e) ⟨o,m⟩ ⟨m,i,d,B,r,o,p,ep,m,C⟩
  exact L (ob:=o) k a0 (n o)
 ·exact L y t n
end L2
namespace DL
open PySem PySem.Spec PyProof.Rows L2
def kD:Key->D
 |.inl i=>.int i
 |.inr x=>.str x
def EV{M:Md}{ρ:List Addr}{H:Hp}(k:Key):Rel M ρ H (kD k) (kV k):=by
 cases k with
 |inl i=>exact .int i
 |inr x=>exact .str x
theorem bo.at:∀{M:Md} {ρ:List Addr} {H:Hp} {l:List (Key×D)} {kv:List (Key×V)} {i:Nat} {k:Key} {d:D},bo M ρ H l kv->l[i]?=some (k,d)->∃x,kv[i]?=some (k,x)
 |_,_,_,[],_,_,_,_,_,e=>by simp at e
 |_,_,_,(k',d')::l,_,0,k,d,⟨v,t,rfl,_,_⟩,e=>by cases e;exact⟨v,rfl⟩
 | _,_,_,(k',d')::l,_,i+1,k,d,⟨v,t,rfl,_,h⟩,e=>by
   obtain⟨x,a⟩:=bo.at (i:=i) h (by simpa using e)
   exact⟨x,by simpa using a⟩
section
variable{X:Cx}{a b e:Expr}{pos:Pos}
def Gn(f:aU):qG:=λg S=>(f g S).bind λ(x,d)=>match x with
 | .ref k=>match d[k]? with
   |some (.dct l)=>some ((l.map (λp=>kD p.1),λc=>c[k]?=some (.fdc l)),d.set k (.fdc l))
   |some (.fdc l)=>some ((l.map (λp=>kD p.1),λc=>c[k]?=some (.fdc l)),d)
   |_=>none
 |_=>none
def JK{tg l:Expr}{f:aU}(hl:PE X l (tD (md X) f)):PI X tg l (tI (md X) (Gn f)):=Gu (CT hl) λσ H R qq=>by
 obtain⟨ρ,U,S,ds,W,Y,ok,e,q⟩:=qq
 obtain⟨⟨x,S1⟩,Q,e⟩:=aq e
 have t:∀{s:List Addr} {H2:Hp} {k:Nat} {a:Addr} {o:Obj} {j:List (Key×V)} {l:List (Key×D)},s[k]?=some a->H2 a=some (.frz o (.dK j))->bo (md X) s H2 l j->Walks (md X) (HC a o j) s H2 (l.map λp=>kD p.1) (λY=>Y[k]?=some (.fdc l)):=by
  intro s H2 k a o j l hk hz hr i a1 S3 H3 x3 N w3
  have B:H3 a=some (.frz o (.dK j)):=x3.keep a _ hz (.inr trivial)
  have A:=hr.length
  refine⟨λd hd=> ?_,λhi=>⟨B,by rw[hi,lQm,A]⟩⟩
  rw[gQm] at hd
  obtain⟨⟨ky,dv⟩,hp,rfl⟩:=oQm.mp hd
  obtain⟨v,Z⟩:=hr.at hp
  refine⟨⟨B,(gQs.mp Z).1⟩,λy H4 hy=> ?_⟩
  obtain⟨rfl,ky',v',hv',rfl⟩:=hy
  rw[Z] at hv'
  cases hv'
  exact⟨bD.refl,N,EV ky⟩
 cases x with
 | ref k=>
   dsimp only at e
   split at e
   · rename_i l G
     obtain⟨K,rfl⟩:=bz e
     obtain⟨rfl,rfl⟩:=Prod.mk.inj K
     refine⟨ρ,U,S,_,S1,ok,Q,λg v1 H1 L m P=> ?_⟩
     cases P with
     | ref w=>
       rename_i a
       obtain⟨j,C,M⟩:=m.obj k a _ w G
       refine⟨a,j,rfl,.inl ⟨C,λo=> ?_⟩⟩
       have ne:∀x,H1 a=some x->¬JR x:=λx F=>by rw[C] at F;cases F;exact λz=>z
       have x2:bD g H1 g (upd H1 a (.frz o (.dK j))):=by
         have ma:a∈g:=mQg w
         refine⟨List.prefix_refl _,λ_ h=>.inl h,λb x F c=> ?_,λb I=> ?_⟩
         · rw[aJ]
           · exact F
           · intro z
             subst z
             exact c.elim (λn=>n ma) λim=>ne _ F im
         · by_cases z:b=a
           · subst z;rw[a0] at I;cases I
           · rw[aJ z] at I;exact I
       have h3:bo (md X) g (upd H1 a (.frz o (.dK j))) l j:=M.imp λ_ _ r=>r.ext x2
       obtain⟨J,_⟩:=m.put (o':=.fdc l) (u:=.frz o (.dK j)) w G ⟨j,o,a0,h3⟩ ne
       exact q g _ _ (L.trans x2) J (t w a0 h3)
   · rename_i l G
     obtain⟨K,rfl⟩:=bz e
     obtain⟨rfl,rfl⟩:=Prod.mk.inj K
     refine⟨ρ,U,S,_,S1,ok,Q,λg v1 H1 L m P=> ?_⟩
     cases P with
     | ref w=>
       rename_i a
       obtain⟨j,o,C,M⟩:=m.obj k a _ w G
       exact⟨a,j,rfl,.inr ⟨o,C,q g _ _ L m (t w C M)⟩⟩
   · cases e
 |_=>cases e
def BA(f g:aU):aU:=λi S=>(f i S).bind λ(x,j)=>(g i j).bind λ(y,c)=>match x with
 | .ref k=>match c[k]? with
   |some (.dct l)=>(kc y).bind λh=>(iM l h).bind λd=>some (d,c)
   |some (.fdc l)=>(kc y).bind λh=>(iM l h).bind λd=>some (d,c)
   |_=>none
 |_=>none
def IG{f g:aU}(hu:X.A.units+1<cLine)(p:PE X a (tD (md X) f))(W:PE X b (tD (md X) g))(m:B2 b):PE X (.Subscript a b pos) (tD (md X) (BA f g)):=iO (yD hu p W m) λσ H Q R=>by
 obtain⟨L,r,S,d,S',ok,e,q⟩:=R
 obtain⟨⟨x,s⟩,I,e⟩:=aq e
 obtain⟨⟨y,M⟩,N,e⟩:=aq e
 cases x with
 | ref k=>
   dsimp only at e
   split at e
   · rename_i l m
     obtain⟨K,F,e⟩:=aq e
     obtain⟨U,u,e⟩:=aq e
     obtain⟨rfl,rfl⟩:=bz e
     refine⟨L,r,S,_,s,ok,I,λh P H1 o i j=>⟨h,r,s,y,M,ok.to o i,N,λw Y H2 n c t=> ?_⟩⟩
     cases ie t F
     have j:=j.ext n
     cases j with
     | ref p=>
       obtain⟨J,C,z⟩:=c.obj k _ _ p m
       obtain⟨v,B,G⟩:=z.val u
       exact⟨_,v,rfl,by rw[←B];exact xn.k C,q _ _ _ (o.trans n) c G⟩
   · rename_i l m
     obtain⟨K,F,e⟩:=aq e
     obtain⟨U,u,e⟩:=aq e
     obtain⟨rfl,rfl⟩:=bz e
     refine⟨L,r,S,_,s,ok,I,λh P H1 o i j=>⟨h,r,s,y,M,ok.to o i,N,λw Y H2 n c t=> ?_⟩⟩
     cases ie t F
     have j:=j.ext n
     cases j with
     | ref p=>
       obtain⟨J,Z,C,z⟩:=c.obj k _ _ p m
       obtain⟨v,B,G⟩:=z.val u
       exact⟨_,v,rfl,by rw[←B];exact .inl ⟨J,K,.inr ⟨Z,C⟩,rfl,rfl⟩,q _ _ _ (o.trans n) c G⟩
   · cases e
 |_=>cases e
end
end DL
namespace DL
open PySem PySem.Spec L2
end DL
namespace L2
open PySem PySem.Spec
end L2
namespace DL
open PySem PySem.Spec L2
end DL
namespace L2
open PySem PySem.Spec PyProof.Rows
end L2
namespace DL
open PySem PySem.Spec L2
end DL
namespace DL
open PySem PySem.Spec PyProof.Rows L2
def jj:List D->Option (List (Key×D))
 | []=>some []
 | d::r=>match d with
   |.tup [k,v]=>(kc k).bind λa=>(jj r).bind λl=>some ((a,v)::l)
   |_=>none
theorem si{M:Md}{ρ:List Addr}{H:Hp}:∀{ds:List D} {vs:List V} {l:List (Key×D)},aL M ρ H ds vs->jj ds=some l->∃(ts:List Addr) (b:List (Key×V)),vs=ts.map V.ref/\b.length=ts.length/\(∀(j:Nat) t c,ts[j]?=some t->b[j]?=some c->H t=some (.tup [kV c.1,c.2]))/\bo M ρ H l b
 |_,_,_,.nil,e=>by cases e;exact⟨[],[],rfl,rfl,λj t c h=>by simp at h,rfl⟩
 | _,_,_,.cons (d:=d) h hs,e=>by
   simp only[jj] at e
   split at e
   · rename_i k v
     obtain⟨o,m,e⟩:=aq e
     obtain⟨l,r,e⟩:=aq e
     cases e
     obtain⟨ts,b,rfl,h1,h2,h3⟩:=si hs r
     cases h with
     | tup p f=>
       rename_i a s
       cases f with
       | cons q f=>
         cases f with
         | cons n f=>
           cases f
           cases ie q m
           refine⟨a::ts,(o,_)::b,rfl,by simp[h1],λj t c i g=> ?_,⟨_,_,rfl,n,h3⟩⟩
           cases j with
           |zero=>cases i;cases g;exact p
           |succ j=>exact h2 j t c i g
   · cases e
section
variable{X:Cx}{a:Expr}{pos:Pos}
def IE(f:dg):aU:=λc S=>(f c S).bind λ(p,b)=>if p.2.isL=true then(jj p.1).bind λl=>some (.ref b.length,b++ [.dct (bC [] l)]) else none
def Ik{s r:Pos}{f:dg}(I:X.calm=true)(b:Gl X "dict")(i:X.mg "dict"=none)(y:PE X a (tQ (md X) f))(k:starEach [a] X.env= [(false,eval a X.env)]:=by rfl):
  PE X (.Call (.Name "dict" s) [a] [] r) (tD (md X) (IE f)):=iO (sD (xS I) b i PyProof.Rows.boot_dict (cB y eE k) (he:=k)) λK H Q ⟨z,n,S,d,J,ok,e,q⟩=>by
 obtain⟨⟨⟨j,t⟩,A⟩,m,e⟩:=aq e
 dsimp only at e
 split at e
 ·rename_i c
  obtain⟨l,G,e⟩:=aq e
  obtain⟨rfl,rfl⟩:=bz e
  refine⟨z,n,S,j,t,A,ok,m,λo C w H1 v g B F=> ?_⟩
  obtain⟨x,h,rfl,g1,g2,g3⟩:=si F G
  refine⟨C,x,h,rfl,B.sqL c,g1,g2,λp u=> ?_⟩
  exact FF v g u (bo.merge (l:= []) g3 rfl) q
 ·cases e
end
end DL
namespace W28
open PySem PySem.Spec L2 DL
abbrev cO:=bf qY
abbrev c9(v:Nat)(k:Int):=bf qY (au v) (cF (.int k))
abbrev gF(v:Nat)(k:Int):=av (bf qY (au v) (cF (.int k)))
abbrev x8(x:Str):=av (cF (.str x))
abbrev bF(k:Int):=cF (.int k)
abbrev aD(k:Nat):=av (au k)
abbrev nJ(k:Int):=av (cF (.int k))
def mZ:cx:=
 (aE (a_ 2 (bF 0))
 (aE (ft (aQ (bf FH (au 1) (iZ (bJ (au 0))))) (a_ 2 (AU Dg (av (cO (au 0) (au 1)) aw))) gD)
 (aE (a_ 3 (bf kf (bf oD (au 2) (bf kf (bf uq (bF 10) (bF 60)) (bf uq (bF 10) (bF 60)))) (AU intOfD (av (bf Ji (au 2) (bf uq (bF 10) (bF 18))) aw))))
 (D6 (fN (aD 3 (av (bf oD (bf bK (bf bK (au 2) (bf kf (bF 104729) (au 1))) (bF 7)) (bF 2305843009213693951)) (nJ 0 aw))))))))
def jF:cI:=dI 4 mZ
def ki:cx:=
 (aE (ft (aQ (bf G5 (c9 0 0) (bF 0))) (aE (a_ 2 (bf oD (c9 0 0) (au 1)))
 (aE (oI (bf wB (c9 0 0) (au 1)) (DC (au 0) (bF 0)))
 (cz (au 2)))) gD)
 (aE (IH (au 0) (bF 2) (bF 1))
 (aE (a_ 3 (bf oD (bf bK (bf bK (bf kf (c9 0 1) (bF 69069)) (bf kf (bF 9973) (c9 0 2))) (bF 5)) (bF 2305843009213693921)))
 (aE (oI (bf oD (bf kf (au 3) (bf bK (bf bK (bf oD (au 3) (bF 999983)) (bf kf (bF 2) (c9 0 2))) (bF 3))) (bF 2305843009213693907)) (DC (au 0) (bF 1)))
 (cz (bf oD (bf wB (c9 0 1) (bF 65537)) (au 1)))))))
def bG:cI:=dI 4 ki
def iU:cx:=
 (aE (a_ 3 (hV (bP [none,some 1] (qm (kL (fN (x8 "a" (x8 "b" (x8 "c" (x8 "d" (x8 "e" (x8 "zz" aw))))))))) (bU 0) cA (bf bK (au 1) (au 0)))))
 (D6 (yK (kL (bP [none,some 0,some 3] (t6 (au 2)) (bU 0) cA (Aj kR (au 2) (av (az bG (aD 1 (av (iZ (bJ (au 2))) aw))) aw)))))))
def gg:cI:=dI 4 iU
def kB:cx:=
 (cz (cO (au 1) (az bG (aD 0 (av (iZ (bJ (au 1))) aw)))))
def cv:cI:=dI 2 kB
def gy:cx:=
 (aE (a_ 2 (hV (fN aw)))
 (aE (qJ (t6 (bf bK (bF 2) (az bG (aD 0 (nJ 11 aw))))) (bU 3) (aE (a_ 4 (az bG (aD 0 (nJ 7 aw))))
 (ft (aQ (bf FH (au 4) (bF 3))) (wM (Aj nZ (au 2) (av (bc (x8 "take" (av (az cv (aD 0 (aD 1 aw))) aw))) aw))) (ft (aQ (bf FH (au 4) (bF 5))) (wM (Aj nZ (au 2) (av (bc (x8 "give" (av (az cv (aD 0 (aD 1 aw))) aw))) aw))) (ft (aQ (bf (gC false) (au 4) (bF 5))) (wM (Aj nZ (au 2) (av (bc (x8 "pass" (av (az cv (aD 0 (aD 1 aw))) (av (az cv (aD 0 (aD 1 aw))) aw)))) aw))) (wM (Aj nZ (au 2) (av (bc (x8 "say" (av (az bG (aD 0 (nJ 10 aw))) aw))) aw))))))))
 (cz (tupQ (jx (bJ (au 2)))))))
def eJ:cI:=dI 5 gy
def ji:cx:=
 (aE (a_ 1 (hV (dJ gg (aD 0 (x8 "p" (av (bf bK (bF 1) (az bG (aD 0 (nJ 4 aw)))) aw))))))
 (aE (a_ 2 (tupQ (kL (bP [none,some 0,some 1] (t6 (bf bK (bF 1) (az bG (aD 0 (nJ 4 aw))))) (bU 0) cA (bc (av (bc aw) (av (az eJ (aD 1 (aD 2 aw))) aw)))))))
 (aE (a_ 3 (hV (bP [none,some 0] (qm (bJ (au 1))) (bU 0) cA (cO (hV (fN (nJ 0 (nJ 1 (nJ 9 (nJ 8 (nJ 2 (nJ 0 aw)))))))) (az bG (aD 1 (nJ 6 aw)))))))
 (cz (bc (av (bc aw) (av (tupQ (kL (bP [none,none] (zW (bJ (au 1)) (bJ (au 3))) (jR (nG 2 (aF (bU 0) (aF (bU 1) dw)))) cA (bc (aD 0 (aD 1 aw)))))) (av (bc aw) (aD 2 aw)))))))))
def eY:cI:=dI 4 ji
def kN:cx:=
 (cz (tupQ (kL (bP [none,none] (qm (bJ (au 0))) (jR (nG 2 (aF (bU 0) (aF (bU 1) dw)))) cA (au 1)))))
def eG:cI:=dI 1 kN
def i6:cx:=
 (aE (oI (au 0) (jR (nG 5 (aF (bU 1) (aF (bU 2) (aF (bU 3) (aF (bU 4) (aF (bU 5) dw))))))))
 (cz (bc (av (az eG (aD 3 aw)) (av (cF (.int (-1))) (av (bc aw) (av (bc aw) (av (tupQ (kL (bP [none] (qm (bJ (au 4))) (bU 0) cA (bc aw)))) aw))))))))
def gk:cI:=dI 6 i6
def yf:cx:=
 (aE (oI (au 0) (jR (nG 4 (aF (bU 1) (aF (bU 2) (aF (bU 3) (aF (bU 4) dw)))))))
 (aE (a_ 5 (bc (av (cF (.int (-1))) (av (cF (.int (-1))) (nJ 0 (nJ 0 (nJ 0 aw)))))))
 (cz (bc (av (tupQ (kL (bP [none] (qm (bJ (au 1))) (bU 0) cA (az gk (aD 0 aw))))) (av (tupQ (kL (bP [none,none] (qm (bJ (au 2))) (jR (nG 2 (aF (bU 0) (aF (bU 1) dw)))) cA (bc (aD 1 (av (bc aw) aw)))))) (av (az eG (aD 3 aw)) (av (tupQ (kL (bP [none,none,some 5] (qm (bJ (au 4))) (jR (nG 2 (aF (bU 0) (aF (bU 1) dw)))) cA (bc (av (az eG (aD 0 aw)) (av (bc (aD 2 aw)) aw)))))) aw))))))))
def tX:cI:=dI 6 yf
def mP:cx:=
 (aE (a_ 3 (hV (fN aw)))
 (aE (qJ (y2 (bJ (au 2))) (jR (nG 2 (aF (bU 4) (aF (bU 5) dw)))) (ft (qI (aQ (bf FH (au 5) (iZ (bJ (cO (cO (c9 0 3) (au 4)) (bF 1)))))) (wx (jO (DU (kL (bP [none,some 1,some 4] (Gn (au 1)) (bU 0) cA (zo false (au 2) (bJ (cO (BA (au 1) (au 0)) (bF 1)))))))))) (wM (Aj nZ (au 3) (aD 4 aw))) gD))
 (cz (au 3))))
def jE:cI:=dI 6 mP
def mC:cx:=
 (D6 (bP [none,none] (qm (bJ (au 0))) (jR (nG 2 (aF (bU 0) (aF (bU 1) dw)))) cA (au 1)))
def jA:cI:=dI 1 mC
def fR:cx:=
 (aE (a_ 1 (hV (fN aw)))
 (aE (qJ (qm (bJ (c9 0 1))) (jR (nG 2 (aF (bU 2) (aF (bU 3) dw)))) (wM (rL (au 1) (bJ (au 3)))))
 (aE (qJ (qm (bJ (c9 0 0))) (jR (nG 5 (aF (bU 4) (aF (bU 5) (aF (bU 3) (aF (bU 6) (aF (bU 7) dw))))))) (aE (wM (rL (au 1) (bJ (bf bK (au 3) (au 6)))))
 (qJ (qm (bJ (au 7))) (bU 8) (wM (B7 (au 1) (kL (dJ jA (aD 8 aw))))))))
 (cz (au 1)))))
def df:cI:=dI 9 fR
def jb:cx:=
 (cz (cO (cO (cO (c9 0 3) (au 1)) (bF 1)) (kY (bF 1))))
def bQ:cI:=dI 2 jb
def nB:cx:=
 (aE (CV 3 4 (gF 2 0 (gF 2 1 aw)))
 (aE (ft (aQ (bf (gC false) (au 3) (cF (.int (-1))))) (cz (cO (cO (c9 0 3) (au 1)) (bF 1))) gD)
 (cz (cO (cO (cO (cO (c9 0 0) (au 3)) (bF 4)) (au 4)) (bF 1)))))
def dH:cI:=dI 5 nB
def fJ:cx:=
 (aE (a_ 3 (az bQ (aD 1 (aD 2 aw))))
 (cz (uO (bf (gC false) (c9 3 0) (cF (.int (-1)))) (bf (gC false) (c9 3 2) (iZ (bJ (az dH (aD 0 (aD 2 (aD 3 aw))))))))))
def dY:cI:=dI 4 fJ
def mm:cx:=
 (aE (a_ 2 (hV (dJ df (aD 1 aw))))
 (D6 (bP [none,some 0,some 1,some 2] (t6 (iZ (bJ (c9 1 3)))) (bU 0) (qI (aQ (zo true (au 0) (bJ (au 3)))) (wx (jO (az dY (aD 1 (aD 2 (aD 0 aw))))))) (au 0))))
def g7:cI:=dI 3 mm
def kT:cx:=
 (aE (ft (qI (aQ (zo false (au 2) (bJ (au 1)))) (aQ (bf (gC false) (az bG (aD 0 (nJ 2 aw))) (bF 0)))) (cz (au 2)) gD)
 (cz (az cv (aD 0 (aD 1 aw)))))
def ig:cI:=dI 3 kT
def iY:cx:=
 (ft (aQ (mN (bJ (c9 0 1)))) (wM (Aj kR (c9 0 1) (nJ 0 aw))) (ft (aQ (bf FH (c9 0 0) (bF 9))) (oI (bf bK (c9 0 0) (bF 1)) (DC (au 0) (bF 0))) gD))
def eZ:cI:=dI 1 iY
def jt:cx:=
 (ft (aQ (bf G5 (c9 0 0) (bF 0))) (oI (bf AX (c9 0 0) (bF 1)) (DC (au 0) (bF 0))) (wM (Aj nZ (c9 0 1) (aD 1 aw))))
def eT:cI:=dI 2 jt
def jf:cx:=
 (aE (a_ 4 (cO (cO (cO (c9 0 3) (au 3)) (bF 1)) (cO (au 2) (au 3))))
 (aE (oI (bf bK (cO (au 2) (au 3)) (bF 1)) (DC (au 2) (au 3)))
 (aE (ft (aQ (bf (gC false) (c9 4 0) (cF (.str "say")))) (cz (bc (aD 3 (gF 4 1 aw)))) gD)
 (aE (ft (aQ (zo false (c9 4 0) (bJ (bc (x8 "give" (x8 "pass" aw)))))) (wM (az eZ (av (BA (au 1) (c9 4 1)) aw))) gD)
 (aE (ft (aQ (zo false (c9 4 0) (bJ (bc (x8 "take" (x8 "pass" aw)))))) (wM (az eT (av (BA (au 1) (cO (au 4) (kY (bF 1)))) (aD 3 aw)))) gD)
 (cz (cF .non)))))))
def f_:cI:=dI 5 jf
def nh:cx:=
 (D6 (bP [none] (qm (bJ (au 0))) (bU 0) cA (c9 0 0)))
def cW:cI:=dI 1 nh
def mi:cx:=
 (cz (Fc (kL (dJ cW (aD 0 aw))) (au 1)))
def cc:cI:=dI 2 mi
def kA:cx:=
 (cz (bf bK (bf bK (pU (au 0) qF (p5 (au 1))) (bc (aD 2 aw))) (pU (au 0) (p5 (bf bK (au 1) (bF 1))) qF)))
def cu:cI:=dI 3 kA
def kC:cx:=
 (cz (bf bK (pU (au 0) qF (p5 (bF 3))) (bc (av (az cu (gF 0 3 (aD 1 (av (bc (aD 2 (aD 3 aw))) aw)))) aw))))
def dF:cI:=dI 4 kC
def kU:cx:=
 (cz (bf bK (bc (av (az cu (gF 0 0 (aD 1 (aD 2 aw)))) aw)) (pU (au 0) (p5 (bF 1)) qF)))
def bW:cI:=dI 3 kU
def g9:cx:=
 (aE (a_ 5 (cO (az bQ (aD 1 (aD 2 aw))) (bF 0)))
 (aE (ft (aQ (bf (gC true) (au 5) (cF (.int (-1))))) (aE (a_ 6 (az cc (av (cO (cO (c9 0 0) (au 5)) (bF 2)) (aD 3 aw))))
 (aE (a_ 7 (az cu (av (cO (cO (c9 1 0) (au 5)) (bF 0)) (aD 6 (aD 4 aw)))))
 (cz (az bW (aD 1 (aD 5 (av (bf bK (bc (aD 7 aw)) (pU (cO (c9 1 0) (au 5)) (p5 (bF 1)) qF)) aw))))))) gD)
 (aE (ft (aQ (zo false (au 3) (kL (dJ cW (gF 0 2 aw))))) (aE (a_ 8 (az cu (gF 1 2 (av (az cc (gF 0 2 (aD 3 aw))) (aD 4 aw)))))
 (cz (bc (gF 1 0 (gF 1 1 (aD 8 (gF 1 3 aw))))))) gD)
 (aE (oI (cO (c9 1 3) (au 2)) (jR (nG 2 (aF (bU 7) (aF (bU 9) dw)))))
 (aE (a_ 6 (az cc (av (cO (cO (c9 0 3) (au 2)) (bF 0)) (aD 3 aw))))
 (cz (az dF (aD 1 (aD 2 (av (az cu (aD 7 (aD 6 (aD 4 aw)))) (aD 9 aw)))))))))))
def dC:cI:=dI 10 g9
def gx:cx:=
 (aE (ft (aQ (bf (gC false) (au 0) (cF (.str "plus")))) (cz (AU minD (av (bf bK (au 1) (au 2)) (av (cF (.int (9))) aw)))) gD)
 (aE (ft (aQ (bf (gC false) (au 0) (cF (.str "minus")))) (cz (AU maxD (av (bf AX (au 1) (au 2)) (nJ 0 aw)))) gD)
 (aE (ft (aQ (bf (gC false) (au 0) (cF (.str "less")))) (cz (sF (aQ (bf FH (au 1) (au 2))) (bF 1) (bF 0))) gD)
 (aE (ft (aQ (bf (gC false) (au 0) (cF (.str "same")))) (cz (sF (aQ (bf (gC false) (au 1) (au 2))) (bF 1) (bF 0))) gD)
 (cz (sF (qI (aQ (bf (gC true) (au 1) (bF 0))) (aQ (bf (gC true) (au 2) (bF 0)))) (bF 1) (bF 0)))))))
def eN:cI:=dI 3 gx
def m4(self:cI):cx:=
 (aE (ft (jO (mz "int" (au 0))) (cz (au 0)) gD)
 (aE (ft (jO (mz "str" (au 0))) (cz (Gy (au 1) (au 0))) gD)
 (aE (ft (aQ (bf (gC false) (c9 0 0) (cF (.str "waits")))) (cz (sF (aQ (bf G5 (Gy (au 2) (c9 0 1)) (bF 0))) (bF 1) (bF 0))) gD)
 (aE (a_ 3 (az self (gF 0 1 (aD 1 (aD 2 aw)))))
 (aE (ft (aQ (bf (gC false) (c9 0 0) (cF (.str "not")))) (cz (sF (aQ (bf (gC false) (au 3) (bF 0))) (bF 1) (bF 0))) gD)
 (cz (az eN (gF 0 0 (aD 3 (av (az self (gF 0 2 (aD 1 (aD 2 aw)))) aw))))))))))
def eF:Nat->cI
 |0=>λ_ _=>none
 |n+1=>dI 4 (m4 (eF n))
def jy:cx:=
 (aE (a_ 4 (az bQ (aD 1 (aD 2 aw))))
 (aE (a_ 5 (c9 4 0))
 (aE (ft (aQ (bf (gC false) (au 5) (cF (.int (-1))))) (aE (a_ 6 (Gm (kL (dJ cW (gF 0 2 aw))) (bJ (c9 1 2))))
 (aE (wM (Ea (au 6) (Gm (kL (dJ cW (av (cO (cO (c9 0 3) (au 2)) (bF 0)) aw))) (bJ (cO (cO (c9 1 3) (au 2)) (bF 0))))))
 (cz (az (eF 6) (aD 3 (aD 6 (av JG aw))))))) gD)
 (aE (a_ 6 (Gm (kL (dJ cW (av (cO (cO (c9 0 0) (au 5)) (bF 2)) aw))) (bJ (cO (cO (c9 1 0) (au 5)) (bF 0)))))
 (aE (Iz (au 6) (cF (.str "given")) (c9 4 3))
 (aE (Hq 7 (mh [none,none] (zW (kL (dJ cW (av (cO (cO (c9 0 0) (au 5)) (bF 3)) aw))) (bJ (cO (cO (c9 1 0) (au 5)) (bF 4)))) (jR (nG 2 (aF (bU 0) (aF (bU 1) dw)))) cA (au 0) (iZ (bJ (au 1)))))
 (cz (az (eF 6) (aD 3 (aD 6 (aD 7 aw)))))))))))
def cE:cI:=dI 8 jy
def tN:cx:=
 (cz (az dC (aD 0 (aD 1 (aD 2 (gF 3 1 (av (az cE (aD 0 (aD 1 (aD 2 (gF 3 2 aw))))) aw)))))))
def oO:cI:=dI 4 tN
def eA:cx:=
 (aE (oI (cO (c9 0 3) (au 1)) (jR (nG 2 (aF (bU 3) (aF (bU 4) dw)))))
 (cz (az dF (aD 0 (aD 1 (aD 3 (av (bf bK (pU (au 4) qF (p5 (kY (bF 1)))) (bc (aD 2 aw))) aw)))))))
def cD:cI:=dI 5 eA
def uE:cx:=
 (aE (a_ 3 (az bQ (aD 0 (aD 1 aw))))
 (cz (az cD (aD 0 (aD 1 (av (bf bK (bf bK (pU (au 3) qF (p5 (bF 2))) (bc (aD 2 aw))) (pU (au 3) (p5 (bF 3)) qF)) aw))))))
def iy:cI:=dI 4 uE
def kQ:cx:=
 (aE (ft (aQ (bf (gC false) (az cE (aD 0 (aD 1 (aD 2 (gF 3 1 aw))))) (bF 0))) (cz (az iy (aD 1 (aD 2 (gF 3 2 aw))))) gD)
 (cz (au 1)))
def iw:cI:=dI 4 kQ
def wR:cx:=
 (cz (az iy (aD 1 (aD 2 (gF 3 1 aw)))))
def sQ:cI:=dI 4 wR
def pq:cx:=
 (aE (oI (cO (c9 0 0) (au 1)) (jR (nG 5 (aF (bU 3) (aF (bU 4) (aF (bU 5) (aF (bU 6) (aF (bU 7) dw))))))))
 (aE (ft (aQ (bf (gC false) (au 4) (cF (.int (-1))))) (cz (az bW (aD 0 (aD 1 (av (bc (aD 3 (aD 2 (aD 5 (aD 6 (aD 7 aw)))))) aw))))) gD)
 (cz (az bW (aD 0 (aD 1 (av (bc (aD 3 (aD 4 (av (bf bK (au 5) (bc (aD 2 aw))) (aD 6 (aD 7 aw)))))) aw)))))))
def iS:cI:=dI 8 pq
def xW:cx:=
 (aE (a_ 4 (az cc (gF 0 0 (gF 3 2 aw))))
 (aE (a_ 5 (az cc (av (cO (cO (c9 0 0) (au 4)) (bF 4)) (gF 3 3 aw))))
 (aE (a_ 6 (bc (aD 4 (aD 5 (nJ 0 (av (az cE (aD 0 (aD 1 (aD 2 (gF 3 4 aw))))) (nJ 0 aw)))))))
 (aE (oI (cO (c9 1 3) (au 2)) (jR (nG 2 (aF (bU 7) (aF (bU 8) dw)))))
 (cz (az iS (av (az dF (aD 1 (aD 2 (aD 7 (av (bf bK (au 8) (bc (aD 6 aw))) aw))))) (aD 4 (aD 2 aw)))))))))
def sW:cI:=dI 9 xW
def o_:cx:=
 (aE (a_ 4 (cO (az bQ (aD 1 (aD 2 aw))) (bF 0)))
 (cz (bc (aD 4 (av (az cc (av (cO (cO (c9 0 0) (au 4)) (bF 3)) (aD 3 aw))) aw)))))
def gP:cI:=dI 5 o_
def kG:cx:=
 (aE (a_ 4 (cO (c9 0 0) (au 1)))
 (cz (az bW (aD 0 (aD 1 (av (bf bK (pU (au 4) qF (p5 (bF 4))) (bc (av (az cu (gF 4 4 (aD 2 (aD 3 aw)))) aw))) aw))))))
def dA:cI:=dI 5 kG
def yj:cx:=
 (aE (oI (cO (c9 0 0) (au 1)) (jR (nG 5 (aF (bU 2) (aF (bU 3) (aF (bU 4) (aF (bU 5) (aF (bU 6) dw))))))))
 (aE (ft (jO (au 5)) (cz (az bW (aD 0 (aD 1 (av (bc (aD 2 (gF 5 0 (aD 4 (av (pU (au 5) (p5 (bF 1)) qF) (aD 6 aw)))))) aw))))) gD)
 (aE (ft (jO (au 4)) (cz (az bW (aD 0 (aD 1 (av (bc (aD 2 (gF 4 0 (av (pU (au 4) (p5 (bF 1)) qF) (aD 5 (aD 6 aw)))))) aw))))) gD)
 (cz (az bW (aD 0 (aD 1 (av (bc (aD 2 (av (cF (.int (-1))) (aD 4 (aD 5 (aD 6 aw)))))) aw))))))))
def mJ:cI:=dI 7 yj
def pE:cx:=
 (aE (oI (az gP (aD 0 (aD 1 (aD 2 (gF 3 1 aw))))) (jR (nG 2 (aF (bU 4) (aF (bU 5) dw)))))
 (aE (a_ 6 (bF 0))
 (aE (ft (aQ (bf (gC false) (cO (cO (cO (cO (c9 0 0) (au 4)) (bF 3)) (au 5)) (bF 1)) (cF (.str "turns")))) (a_ 6 (az cE (aD 0 (aD 1 (aD 2 (gF 3 2 aw)))))) gD)
 (aE (a_ 7 (cO (cO (cO (c9 1 0) (au 4)) (bF 4)) (au 5)))
 (aE (a_ 8 (iZ (kL (bP [none,none,some 6] (qm (bJ (au 7))) (jR (nG 2 (aF (bU 0) (aF (bU 1) dw)))) (aQ (bf Ju (au 0) (au 2))) (au 0)))))
 (aE (a_ 9 (az dA (aD 1 (aD 4 (aD 5 (av (bf bK (bf bK (pU (au 7) qF (p5 (au 8))) (bc (av (bc (aD 6 (aD 2 aw))) aw))) (pU (au 7) (p5 (au 8)) qF)) aw))))))
 (cz (az mJ (aD 9 (aD 4 aw))))))))))
def lY:cI:=dI 10 pE
def o8:cx:=
 (aE (oI (az gP (aD 0 (aD 1 (aD 2 (gF 3 1 aw))))) (jR (nG 2 (aF (bU 4) (aF (bU 5) dw)))))
 (aE (a_ 6 (cO (cO (cO (c9 1 0) (au 4)) (bF 4)) (au 5)))
 (aE (ft (wx (jO (au 6))) (cz (au 1)) gD)
 (aE (a_ 7 (az dA (aD 1 (aD 4 (aD 5 (av (pU (au 6) (p5 (bF 1)) qF) aw))))))
 (aE (ft (aQ (bf (gC false) (cO (cO (c9 0 0) (au 4)) (bF 1)) (cF (.str "when free")))) (cz (au 7)) gD)
 (aE (oI (cO (c9 7 0) (au 4)) (jR (nG 5 (aF (bU 8) (aF (bU 9) (aF (bU 10) (aF (bU 11) (aF (bU 12) dw))))))))
 (cz (az bW (aD 7 (aD 4 (av (bc (aD 8 (av (cO (c9 6 0) (bF 1)) (aD 10 (av (bf bK (au 11) (bc (aD 2 aw))) (aD 12 aw)))))) aw)))))))))))
def lu:cI:=dI 13 o8
def tw:cx:=
 (aE (oI (az gP (aD 0 (aD 1 (aD 2 (gF 3 1 aw))))) (jR (nG 2 (aF (bU 4) (aF (bU 5) dw)))))
 (cz (az dA (aD 1 (aD 4 (aD 5 (av (bc aw) aw)))))))
def oK:cI:=dI 6 tw
def pj:cx:=
 (aE (a_ 4 (az cE (aD 0 (aD 1 (aD 2 (gF 3 1 aw))))))
 (cz (az cD (aD 1 (aD 2 (av (bf bK (pU (az bQ (aD 1 (aD 2 aw))) qF (p5 (bF 4))) (bc (aD 4 aw))) aw))))))
def lA:cI:=dI 5 pj
def kj:cx:=
 (cz (bf bK (bc (gF 0 0 (av (az cu (gF 0 1 (aD 1 (aD 2 aw)))) aw))) (pU (au 0) (p5 (bF 2)) qF)))
def dG:cI:=dI 3 kj
def yl:cx:=
 (aE (a_ 4 (az cc (gF 0 1 (aD 3 aw))))
 (aE (oI (cO (c9 1 1) (au 4)) (jR (nG 2 (aF (bU 5) (aF (bU 6) dw)))))
 (aE (ft (aQ (bf G5 (au 5) (bF 0))) (cz (az dG (aD 1 (aD 4 (av (bc (av (bf AX (au 5) (bF 1)) (aD 6 aw))) aw))))) gD)
 (cz (az dG (aD 1 (aD 4 (av (bc (aD 5 (av (bf bK (au 6) (bc (aD 2 aw))) aw))) aw))))))))
def oS:cI:=dI 7 yl
def qc:cx:=
 (cz (az oS (aD 0 (aD 1 (aD 2 (gF 3 1 aw))))))
def lI:cI:=dI 4 qc
def iT:cx:=
 (aE (a_ 3 (az cc (gF 0 1 (aD 2 aw))))
 (aE (oI (cO (c9 1 1) (au 3)) (jR (nG 2 (aF (bU 4) (aF (bU 5) dw)))))
 (aE (ft (jO (au 5)) (cz (az dG (aD 1 (aD 3 (av (bc (aD 4 (av (pU (au 5) (p5 (bF 1)) qF) aw))) aw))))) gD)
 (cz (az dG (aD 1 (aD 3 (av (bc (av (AU minD (av (bf bK (au 4) (bF 1)) (av (cF (.int (9))) aw))) (aD 5 aw))) aw))))))))
def eP:cI:=dI 6 iT
def qd:cx:=
 (cz (az eP (aD 0 (aD 1 (gF 3 1 aw)))))
def lq:cI:=dI 4 qd
def qk:cx:=
 (cz (az oS (aD 0 (av (az eP (aD 0 (aD 1 (gF 3 1 aw)))) (aD 2 (gF 3 2 aw))))))
def l8:cI:=dI 4 qk
def sM:cx:=
 (cz (au 1))
def oG:cI:=dI 4 sM
def jH:List (Str×Str):= [("put","by_put"),("unless","by_unless"),("go","by_go"),("do","by_do"),("wait","by_wait"),("call","by_call"),("all","by_all"),("tell","by_tell"),("take","by_take"),("give","by_give"),("pass","by_pass"),("say","by_say")]
def pS:List (Str×cI):= [("by_put",oO),("by_unless",iw),("by_go",sQ),("by_do",sW),("by_wait",lY),("by_call",lu),("by_all",oK),("by_tell",lA),("by_take",lI),("by_give",lq),("by_pass",l8),("by_say",oG)]
def r_:cx:=
 (aE (a_ 4 (IK jH (c9 3 0)))
 (cz (pJ 4 pS (aD 0 (aD 1 (aD 2 (aD 3 aw)))))))
def gM:cI:=dI 5 r_
def nj:cx:=
 (aE (oI (cO (c9 1 3) (au 2)) (jR (nG 2 (aF (bU 3) (aF (bU 4) dw)))))
 (aE (oI (cO (au 4) (kY (bF 1))) (jR (nG 5 (aF (bU 5) (aF (bU 6) (aF (bU 7) (aF (bU 8) (aF (bU 9) dw))))))))
 (aE (a_ 10 (az dF (av (az mJ (aD 1 (aD 5 aw))) (aD 2 (aD 3 (av (pU (au 4) qF (p5 (kY (bF 1)))) aw))))))
 (aE (a_ 11 (cO (az dH (aD 0 (aD 2 (av (cO (au 4) (kY (bF 2))) aw)))) (bf AX (cO (cO (au 4) (kY (bF 2))) (bF 2)) (bF 1))))
 (aE (ft (aQ (bf (Bz false) (c9 11 1) (cF .non))) (cz (au 10)) gD)
 (cz (az dC (aD 0 (aD 10 (aD 2 (gF 11 1 (aD 9 aw))))))))))))
def gH:cI:=dI 12 nj
def i4:cx:=
 (aE (a_ 3 (az bQ (aD 1 (aD 2 aw))))
 (aE (a_ 4 (c9 3 0))
 (aE (ft (qI (aQ (bf (gC true) (au 4) (cF (.int (-1))))) (aQ (bf (gC true) (cO (cO (c9 1 0) (au 4)) (bF 1)) (au 2)))) (cz (bc (av (az iS (aD 1 (aD 4 (aD 2 aw)))) (av (cF .non) aw)))) gD)
 (aE (a_ 5 (az dH (aD 0 (aD 2 (aD 3 aw)))))
 (aE (ft (aQ (bf (gC false) (c9 3 2) (iZ (bJ (au 5))))) (cz (bc (av (az gH (aD 0 (aD 1 (aD 2 aw)))) (av (cF .non) aw)))) gD)
 (aE (a_ 6 (cO (au 5) (c9 3 2)))
 (aE (a_ 7 (cF .non))
 (aE (ft (aQ (bf (gC false) (c9 6 0) (cF (.str "say")))) (a_ 7 (bc (aD 2 (av (az cE (aD 0 (aD 1 (aD 2 (gF 6 1 aw))))) aw)))) gD)
 (cz (bc (av (az gM (aD 0 (av (az iy (aD 1 (aD 2 (av (bf bK (c9 3 2) (bF 1)) aw)))) (aD 2 (aD 6 aw))))) (aD 7 aw))))))))))))
def lB:cI:=dI 8 i4
def pV:cx:=
 (aE (ft (aQ (zo true (au 2) (kL (dJ g7 (aD 0 (aD 1 aw)))))) never gD)
 (cz (az lB (aD 0 (aD 1 (aD 2 aw))))))
def lQ:cI:=dI 3 pV
def eI(self:cI):cx:=
 (aE (ft (jO (mz "tuple" (au 1))) (aE (ft (Gf (wx (jO (mz "tuple" (au 0)))) (aQ (bf (gC true) (iZ (bJ (au 0))) (iZ (bJ (au 1)))))) (cz (cF (.bl false))) gD)
 (cz (Dy (kL (bP [none,none] (zW (bJ (au 0)) (bJ (au 1))) (jR (nG 2 (aF (bU 0) (aF (bU 1) dw)))) cA (az self (aD 0 (aD 1 aw)))))))) gD)
 (aE (ft (Gf (jO (mz "str" (au 1))) (aQ (bf (Bz false) (au 1) (cF .non)))) (cz (uO (bf (gC false) (mz "str" (au 0)) (mz "str" (au 1))) (bf (gC false) (au 0) (au 1)))) gD)
 (cz (uO (mz "int" (au 0)) (uO (Dw (mz "bool" (au 0))) (bf (gC false) (au 0) (au 1)))))))
def et:Nat->cI
 |0=>λ_ _=>none
 |n+1=>dI 2 (eI (et n))
def i0:cx:=
 (aE (a_ 3 (tupQ (kL (bP [none,none,some 1] (qm (bJ (c9 0 1))) (jR (nG 2 (aF (bU 0) (aF (bU 1) dw)))) cA (bc (av (cO (BA (au 2) (au 0)) (bF 0)) (av (tupQ (jx (bJ (cO (BA (au 2) (au 0)) (bF 1))))) aw)))))))
 (cz (bc (av (bc aw) (aD 3 (av (bc aw) (av (tupQ (kL (bP [none] (qm (bJ (au 2))) (bU 0) cA (bc (av (bc aw) (av (bc (av (bc (av (kY (bF 1)) (av (kY (bF 1)) (aD 0 (nJ 0 (nJ 0 aw)))))) aw)) aw)))))) aw)))))))
def fW:cI:=dI 4 i0
def EX:cx:=
 (aE (qJ (t6 (AU maxD (nJ 1 (av (AU minD (av (iZ (bJ (au 0))) (nJ 6 aw))) aw)))) (bU 1) (aE (a_ 2 (hV (dJ jF (aD 0 (aD 1 aw)))))
 (aE (a_ 3 (az eY (aD 2 aw)))
 (aE (a_ 4 (IE (kL (bP [none,none] (qm (bJ (c9 3 1))) (jR (nG 2 (aF (bU 0) (aF (bU 1) dw)))) cA (bc (aD 0 (av (hV (fN (aD 1 (av (hV (fN aw)) aw)))) aw)))))))
 (aE (a_ 5 (hV (Eb (kL (fN (nJ 0 aw))) (iZ (bJ (c9 3 3))))))
 (aE (a_ 6 (az tX (aD 3 aw)))
 (aE (a_ 7 (kY (bF 1)))
 (qJ (t6 (bF 60)) (bU 8) (aE (a_ 9 (hV (dJ jE (aD 3 (aD 4 (aD 5 aw))))))
 (aE (ft (aQ (eqQ true (kL (dJ g7 (aD 3 (aD 6 aw)))) (bJ (au 9)))) (cz (cF (.bl false))) gD)
 (ft (aQ (mN (bJ (au 9)))) (aE (a_ 7 (az ig (aD 2 (aD 9 (aD 7 aw)))))
 (aE (a_ 10 (az f_ (aD 3 (aD 4 (aD 5 (aD 7 aw))))))
 (aE (a_ 11 (az lQ (aD 3 (aD 6 (aD 7 aw)))))
 (aE (ft (wx (jO (az (et 10) (aD 11 (av (bc (av (az fW (aD 3 (aD 4 (aD 5 aw)))) (aD 10 aw))) aw))))) (cz (cF (.bl false))) gD)
 (a_ 6 (c9 11 0)))))) gD)))))))))))
 (cz (cF (.bl true))))
def DJ:cI:=dI 12 EX
def top(i:Nat):Stmt:=PySem.Challenge.pw_calledroom_k21_passes.main.body.getD i (.Pass ⟨0,0,0,0⟩)
abbrev kJ:Stmt:=top 56
abbrev jw:Stmt:=top 57
abbrev ib:Stmt:=top 59
abbrev jm:Stmt:=top 58
abbrev fO:Stmt:=top 63
abbrev hJ:Stmt:=top 64
abbrev jk:Stmt:=top 10
abbrev iG:Stmt:=top 12
abbrev ui:Stmt:=top 11
abbrev ku:Stmt:=top 69
abbrev kb:Stmt:=top 21
abbrev fc:Stmt:=top 51
abbrev iB:Stmt:=top 13
abbrev iz:Stmt:=top 14
abbrev fh:Stmt:=top 52
abbrev kO:Stmt:=top 50
abbrev jc:Stmt:=top 61
abbrev iC:Stmt:=top 65
abbrev iA:Stmt:=top 66
abbrev ip:Stmt:=top 67
abbrev kH:Stmt:=top 23
abbrev j9:Stmt:=top 25
abbrev i8:Stmt:=top 15
abbrev iW:Stmt:=top 18
abbrev je:Stmt:=top 16
abbrev iX:Stmt:=top 27
abbrev fK:Stmt:=top 6
abbrev ka:Stmt:=top 5
abbrev j8:Stmt:=top 26
abbrev qC:Stmt:=top 31
abbrev dU:Stmt:=top 19
abbrev pZ:Stmt:=top 20
abbrev iV:Stmt:=top 32
abbrev sO:Stmt:=top 33
abbrev ml:Stmt:=top 28
abbrev uH:Stmt:=top 34
abbrev m7:Stmt:=top 35
abbrev jn:Stmt:=top 36
abbrev tO:Stmt:=top 29
abbrev m9:Stmt:=top 37
abbrev mM:Stmt:=top 38
abbrev pK:Stmt:=top 39
abbrev mV:Stmt:=top 40
abbrev jq:Stmt:=top 17
abbrev tJ:Stmt:=top 42
abbrev mj:Stmt:=top 41
abbrev h_:Stmt:=top 44
abbrev mX:Stmt:=top 43
abbrev mK:Stmt:=top 45
abbrev oT:Stmt:=top 46
abbrev kd:Stmt:=top 48
abbrev ko:Stmt:=top 30
abbrev mF:Stmt:=top 54
abbrev mR:Stmt:=top 53
abbrev i7:Stmt:=top 62
abbrev ic:Stmt:=top 68
abbrev lK:Stmt:=top 70
end W28
namespace W28
open PySem PySem.Spec L2 DL PyProof.Rows
abbrev xM:List Str:= ["_law_found","_law_due"]
abbrev CZ:List Str:= ["_law_pot_here","_law_many"]
abbrev C5:List Str:= ["_law_pot_here","_law_passes"]
abbrev vP:List Str:= ["_law_pot_here","_law_some","_law_last"]
abbrev vf:List Str:= ["_law_pot_here","_law_some"]
abbrev y8:List Str:= ["_law_pot_here","_law_stem","_law_many"]
abbrev zp:List Str:= ["_law_pot_here"]
abbrev yZ:List Str:= ["_law_script","_law_k"]
abbrev CI:List Str:= ["_law_script"]
abbrev uQ:List Str:= ["_law_told","_law_own"]
abbrev vC:List Str:= ["_law_told"]
abbrev Ed:List Str:= ["_law_word","_law_value"]
abbrev yq:List Str:= ["_law_world_here","_law_passes","_law_spots","_law_own"]
abbrev nK:List Str:= ["_law_world_here","_law_passes","_law_spots"]
abbrev vH:List Str:= ["form","first","second"]
abbrev vN:List Str:= ["line"]
abbrev u4:List Str:= ["parts","at","part"]
abbrev vL:List Str:= ["roll","name"]
abbrev wg:List Str:= ["roll"]
abbrev wI:List Str:= ["room"]
abbrev vd:List Str:= ["scene","at","room"]
abbrev vh:List Str:= ["scene","at","turnstile"]
abbrev yx:List Str:= ["scene","hand","frame"]
abbrev zj:List Str:= ["scene","hand","row"]
abbrev vz:List Str:= ["scene","hand","values","frames"]
abbrev vO:List Str:= ["scene","hand"]
abbrev yH:List Str:= ["scene","room","bell","line"]
abbrev yI:List Str:= ["scene","room","hand"]
abbrev zi:List Str:= ["scene","room"]
abbrev zh:List Str:= ["scene"]
abbrev uW:List Str:= ["things"]
abbrev rY:List Str:= ["tree","things","waiting"]
abbrev ym:List Str:= ["world","hand","frame"]
abbrev y9:List Str:= ["world","scene","hand","name"]
abbrev aY:List Str:= ["world","scene","hand","row"]
abbrev yz:List Str:= ["world","scene","hand","tree"]
abbrev yL:List Str:= ["world","scene","hand","word","value"]
abbrev y7:List Str:= ["world","scene","hand","word"]
abbrev eW:List Str:= ["world","scene","hand"]
abbrev y6:List Str:= ["world","scene","name"]
abbrev yF:List Str:= ["world","scene"]
abbrev yU:List Str:= ["world"]
section
variable(P:Program)(w:World)(K:PySem.W.Frag)(mg:Str->Option Value)(base:Heap)
abbrev xI:Prop:=dZ P w K mg base 1 "_law_pot" yZ jF
abbrev eR:Prop:=dZ P w K mg base 1 "_law_take" CZ bG
abbrev tm:Prop:=dZ P w K mg base 2 "_law_words" y8 gg
abbrev nV:Prop:=dZ P w K mg base 2 "_law_pick" vf cv
abbrev qD:Prop:=dZ P w K mg base 3 "_law_program" C5 eJ
abbrev uk:Prop:=dZ P w K mg base 4 "_law_world" zp eY
abbrev nE:Prop:=dZ P w K mg base 1 "values_of" uW eG
abbrev sL:Prop:=dZ P w K mg base 2 "begun_room" wI gk
abbrev C9:Prop:=dZ P w K mg base 3 "begun" yU tX
abbrev xG:Prop:=dZ P w K mg base 1 "_law_may" nK jE
abbrev ya:Prop:=dZ P w K mg base 1 "hands_at" vN jA
abbrev oA:Prop:=dZ P w K mg base 2 "hands_in_rows" zh df
abbrev cM:Prop:=dZ P w K mg base 1 "last_frame" vO bQ
abbrev iu:Prop:=dZ P w K mg base 1 "program_of" ym dH
abbrev oF:Prop:=dZ P w K mg base 2 "is_behind_all" eW dY
abbrev pM:Prop:=dZ P w K mg base 3 "may_step" yF g7
abbrev u7:Prop:=dZ P w K mg base 3 "_law_next" vP ig
abbrev uF:Prop:=dZ P w K mg base 1 "_law_given" vC eZ
abbrev sP:Prop:=dZ P w K mg base 1 "_law_taken" uQ eT
abbrev t4:Prop:=dZ P w K mg base 2 "_law_event" yq f_
abbrev kI:Prop:=dZ P w K mg base 1 "names_of" wg cW
abbrev fL:Prop:=dZ P w K mg base 2 "place_of" vL cc
abbrev eS:Prop:=dZ P w K mg base 1 "with_part" u4 cu
abbrev gq:Prop:=dZ P w K mg base 2 "with_hand" vz dF
abbrev eV:Prop:=dZ P w K mg base 2 "with_room" vd bW
abbrev ny:Prop:=dZ P w K mg base 3 "put_thing" yL dC
abbrev pA:Prop:=dZ P w K mg base 1 "value_of_two" vH eN
abbrev xp:Prop:=dZ P w K mg base 8 "value_of" rY (eF 6)
abbrev eC:Prop:=dZ P w K mg base 9 "reckoned" yz cE
abbrev fV:Prop:=dZ P w K mg base 3 "with_last_frame" yx cD
abbrev qz:Prop:=dZ P w K mg base 4 "at_row" zj iy
abbrev sh:Prop:=dZ P w K mg base 3 "come_in" yI iS
abbrev m_:Prop:=dZ P w K mg base 3 "bell_of" y7 gP
abbrev i3:Prop:=dZ P w K mg base 3 "with_line" yH dA
abbrev yP:Prop:=dZ P w K mg base 3 "leave" zi mJ
abbrev nW:Prop:=dZ P w K mg base 2 "with_pass" vh dG
abbrev yo:Prop:=dZ P w K mg base 3 "taken" y9 oS
abbrev lV:Prop:=dZ P w K mg base 3 "given_back" y6 eP
abbrev wN:Prop:=dZ P w K mg base 11 "row_done" aY gM
abbrev x9:Prop:=dZ P w K mg base 4 "end_deed" eW gH
abbrev zM:Prop:=dZ P w K mg base 12 "step_of" eW lB
abbrev zQ:Prop:=dZ P w K mg base 13 "stepped" eW lQ
abbrev wa:Prop:=dZ P w K mg base 11 "_law_same" xM (et 10)
abbrev tj:Prop:=dZ P w K mg base 1 "_law_scene" nK fW
end
def Jp{X:Cx}{a:Expr}{pos:Pos}{f:dg}{p:Pos}(d:Gl X "len")(c:X.mg "len"=none)(b:PE X a (tQ (md X) f))(e:starEach [a] X.env= [(false,eval a X.env)]):PE X (.Call (.Name "len" p) [a] [] pos) (tD (md X) (iZ f)):=GF d c b e
def bX{X:Cx}{pos:Pos}{N:List Str}{js:List (Option Nat)}{a:Scope}{c:List (Str×Addr)}{h b d:Expr}{e:List Expr}{i:qG}{g:jB}{t:ir}{f:aU}(S:aH X N js a c)(m:X.calm=true)(hi:PI X h b (tI (md X) i))(l:∀C s H fp,PG (aC X N a c C s H fp) h (tG (md (aC X N a c C s H fp)) g))(k:∀C s H fp,j_ (aC X N a c C s H fp) e (tB (md (aC X N a c C s H fp)) t))(he:∀C s H fp,PE (aC X N a c C s H fp) d (tD (md (aC X N a c C s H fp)) f))(j:∀x,foldedSetIterable b X.env x=pure x:=by intro _;rfl):PE X (.ListComp d [⟨h,b,e,0⟩] a pos) (tL (md X) (bP js i g t f)):=EB S m hi l k he j
def DR{X:Cx}{pos:Pos}{N:List Str}{js:List (Option Nat)}{a:Scope}{j:List (Str×Addr)}{k b e c:Expr}{h:List Expr}{i:qG}{g:jB}{t:ir}{f:aU}{n:Nat}{d:Pos}(S:aH X N js a j)(u:X.calm=true)(hi:PI X k b (tI (md X) i))(q:∀C s H fp,PG (aC X N a j C s H fp) k (tG (md (aC X N a j C s H fp)) g))(p:∀C s H fp,j_ (aC X N a j C s H fp) h (tB (md (aC X N a j C s H fp)) t))(he:∀C s H fp,PE (aC X N a j C s H fp) e (tD (md (aC X N a j C s H fp)) f))(m:PG X c (lg n))(o:∀x,foldedSetIterable b X.env x=pure x:=by intro _;rfl)(l:swapsWithSole [c] (.ListComp e [⟨k,b,h,0⟩] a pos) d.line X.env=pure true:=by rfl)(r:(assignEach [c] X.env).map (·.2)= [assign c X.env]:=by rfl):PS X (.Assign [c] (.ListComp e [⟨k,b,h,0⟩] a pos) d) (tS (md X) (a_ n (hV (bP js i g t f)))):=Fw S u hi q p he m o l r
def CG{X:Cx}{pos:Pos}{N:List Str}{js:List (Option Nat)}{a:Scope}{d:List (Str×Addr)}{h b l k c:Expr}{f:List Expr}{i:qG}{g:jB}{t:ir}{o p:aU}{n:Nat}{e:Pos}(S:aH X N js a d)(z:X.calm=true)(hi:PI X h b (tI (md X) i))(w:∀C s H fp,PG (aC X N a d C s H fp) h (tG (md (aC X N a d C s H fp)) g))(v:∀C s H fp,j_ (aC X N a d C s H fp) f (tB (md (aC X N a d C s H fp)) t))(u:∀C s H fp,PE (aC X N a d C s H fp) l (tD (md (aC X N a d C s H fp)) o))(r:∀C s H fp,PE (aC X N a d C s H fp) k (tD (md (aC X N a d C s H fp)) p))(m:PG X c (lg n))(q:∀x,foldedSetIterable b X.env x=pure x:=by intro _;rfl)(j:swapsWithSole [c] (.DictComp l k [⟨h,b,f,0⟩] a pos) e.line X.env=pure true:=by rfl)(y:(assignEach [c] X.env).map (·.2)= [assign c X.env]:=by rfl):PS X (.Assign [c] (.DictComp l k [⟨h,b,f,0⟩] a pos) e) (tS (md X) (Hq n (mh js i g t o p))):=C6 S z hi w v u r m q j y
local macro_rules|`(tactic|ac_rfl)=>do
 let g (l:List (String×Nat)):Lean.MacroM (Array (Lean.TSyntax `Lean.Parser.Tactic.tacticSeq)):=l.toArray.mapM λ(s,k)=>do
  let ws:=((s.splitOn " ").map λn=>Lean.mkIdent n.toName).toArray
  let h←`(?_)
  let e:=Lean.Syntax.mkApp ⟨ws[0]!.raw⟩ ((ws.toList.tail!.map λw=>⟨w.raw⟩).toArray++Array.replicate k h)
  `(tacticSeq|refine $e)
 let a←g [("K7",5),("v_",5),("fI",3),("nU",0),("nN",0),("pd",3),("xE",2),("Cn",1),("Ig",3),("KW",1),("Le",5),("Ll",1),("JN",3),("Hv",0),("J5",2),("Kx",4),("I_",0),("KP",0),("Lk",1),("KJ",5),("KF",0),("Hr GU HE",3),("Ih",3),("IU",0),("J0",1),("Kw",1),("Jp",4),("IZ",2),("KA",1),("KQ",1),("GP",1),("IC",5),("KI",2),("Kf",2),("KE",6),("Hr Kj J7",3),("Jh",4),("Hx",6),("Ku",0),("Hr Ke KN",3),("JC",1),("KL",3),("Kc",1),("IG",4),("KR GU HE",3),("Ky",3),("Hr KS Kr",3),("Ko",2),("La",3),("J_",2),("Kz",7),("Lf",0),("Kd",2),("Kg",6),("Gc",10),("Jm",2),("Iu",6),("KH",1),("K6",5),("Gk",6),("IJ",3),("IB",2),("JP",4),("Hr Jw Jj",3),("KR J4 KZ",3),("JO",4),("HR",4),("JQ",4),("J8",5),("JK",1),("Lh",3),("G7",6),("Ip",6),("Gp",6),("Jx",0),("IT",5),("Hr Kn J9",3),("Ij",0),("K2",5),("KC",1),("Ik",5),("Kl",2),("J3",3),("A5",1),("J6",1),("K0",1),("Ks",2),("Jy",1),("Kb",1)]
 let b←g [("xx",1),("PassesOwn.never",0),("Ek",0),("Ii",0),("Bl.abs",1),("Bl.all",1),("Bl.any",1),("Bl.bool",1),("Bl.dict",1),("Bl.enum",1),("Bl.int",1),("Bl.isi",1),("Bl.len",1),("Bl.max",1),("Bl.min",1),("Bl.range",1),("Bl.sorted",1),("Bl.str",1),("Bl.tuple",1),("Bl.zip",1),("xE",2),("A5",1)]
 let c←([("Jc ju Gd Bl.min",1),("Js ju Gi Bl.max",1),("Jv ju HA Bl.abs",0),("HL sD Gg Bl.int",0),("str",2),("int",2),("tuple",2),("bool",2)]:List (String×Nat)).toArray.mapM λ(s,k)=>do
  let ws:=((s.splitOn " ").map λn=>Lean.mkIdent n.toName).toArray
  if k=2 then
   `(tacticSeq|refine D4 (v:=.ty $(Lean.quote s)) rfl ($(Lean.mkIdent (.str (.str .anonymous "Bl") s)) (by assumption)) $(Lean.mkIdent (.str `PyProof.Rows ("boot_" ++s))) rfl)
  else
   let e←if k=1 then `($(ws[2]!) rfl) else pure ⟨ws[2]!.raw⟩
   `(tacticSeq|((with_reducible refine Jk $(ws[0]!) ?_);refine $(ws[1]!) $e rfl ($(ws[3]!) (by assumption)) (by rfl) ?_))
 `(tactic|repeat (first
 |exact rfl
 |exact Or.inl rfl
 |(with_reducible first $[| $a]*)
 |(with_reducible first|refine PW.pt (w_and ?_ ?_)|refine PW.pt (w_or ?_ ?_))
 |refine JV (by assumption) (by assumption) ?_
 |((with_reducible refine GO ?_ ?_ ?_ ?_ ?_ ?hsz ?_);(case hsz=>exact rfl))
 |refine JZ (by assumption) (by assumption) ?_
 |refine ik (ud (v:=.int (-1)) rfl (by assumption) ⟨_,rfl⟩) λ_ _=>.int (-1)
 |refine ik (ud (v:=.int (9)) rfl (by assumption) ⟨_,rfl⟩) λ_ _=>.int (9)
 |assumption
 |exact Or.inr rfl
 |exact Or.inr (Or.inl rfl)
 |exact Or.inr (Or.inr rfl)
 |decide
 |omega
 |(intro _ _;rfl)
 |(intro _;rfl)
 |(intro _ _ _;rfl)
 |exact⟨rfl,rfl,rfl,rfl,rfl,rfl,rfl⟩
 |exact λ_ _=>.int _
 |(first $[| $c]*)
 |(first $[| $b]*)))
section
variable{P:Program}{w:World}{K:PySem.W.Frag}{mg:Str->Option Value}{base:Heap}{f:Addr}{fd:FuncData}
def nz:aB ["_law_script","_law_k","_law_cell","_law_digits"] yZ (ay kJ):=d0
def wA(F:dr K "_law_pot" "_law_pot" kJ f fd)(B:Bl mg):aV P w K mg base de 1 f fd yZ (dq ⟨K,mg⟩ 2 jF):=by
 have d:=nz.nd
 refine aS F nz λb A a s H E c=> ?_
 delta mZ
 ac_rfl
def l9:aB ["_law_pot_here","_law_many","_law_digit","_law_mixed"] CZ (ay jw):=d0
def uv(F:dr K "_law_take" "_law_take" jw f fd)(B:Bl mg):aV P w K mg base de 1 f fd CZ (dq ⟨K,mg⟩ 2 bG):=by
 have d:=l9.nd
 refine aS F l9 λb A a s H E c=> ?_
 delta ki
 ac_rfl
def j7:aB ["_law_pot_here","_law_stem","_law_many","_law_left"] y8 (ay ib):=d0
def qR(F:dr K "_law_words" "_law_words" ib f fd)(B:Bl mg)(e:eR P w K mg base):aV P w K mg base de 2 f fd y8 (dq ⟨K,mg⟩ 3 gg):=by
 have d:=j7.nd
 refine aS F j7 λb A a s H E c=> ?_
 delta iU
 ac_rfl
 refine bX (N:= ["_law_one","_law_stem"]) (js:= [none,some 1]) (aH.gen rfl rfl rfl rfl rfl rfl) rfl ?_ (λ_ _ _ _=> ?_) (λ_ _ _ _=> ?_) (λ_ _ _ _=> ?_)
 ac_rfl
 refine bX (N:= ["_law_k","_law_pot_here","_law_left"]) (js:= [none,some 0,some 3]) (aH.gen rfl rfl rfl rfl rfl rfl) rfl ?_ (λ_ _ _ _=> ?_) (λ_ _ _ _=> ?_) (λ_ _ _ _=> ?_)
 ac_rfl
def sN:aB vf vf (ay jm):=d0
def t9(F:dr K "_law_pick" "_law_pick" jm f fd)(B:Bl mg)(d:eR P w K mg base):aV P w K mg base de 2 f fd vf (dq ⟨K,mg⟩ 2 cv):=by
 refine aS F sN λb A a s H E c=> ?_
 delta kB
 ac_rfl
def iJ:aB ["_law_pot_here","_law_passes","_law_rows","_law_k","_law_way"] C5 (ay fO):=d0
def ou(F:dr K "_law_program" "_law_program" fO f fd)(B:Bl mg)(g:eR P w K mg base)(c:nV P w K mg base):aV P w K mg base de 3 f fd C5 (dq ⟨K,mg⟩ 2 eJ):=by
 have e:=iJ.nd
 refine aS F iJ λb A a s H E d=> ?_
 delta gy
 ac_rfl
def jS:aB ["_law_pot_here","_law_passes","_law_hands","_law_values"] zp (ay hJ):=d0
def qO(F:dr K "_law_world" "_law_world" hJ f fd)(B:Bl mg)(d:tm P w K mg base)(h:eR P w K mg base)(c:qD P w K mg base):aV P w K mg base de 4 f fd zp (dq ⟨K,mg⟩ 1 eY):=by
 have g:=jS.nd
 refine aS F jS λb A a s H E e=> ?_
 delta ji
 ac_rfl
 refine bX (N:= ["_law_k","_law_pot_here","_law_passes"]) (js:= [none,some 0,some 1]) (aH.gen rfl rfl rfl rfl rfl rfl) rfl ?_ (λ_ _ _ _=> ?_) (λ_ _ _ _=> ?_) (λ_ _ _ _=> ?_)
 ac_rfl
 refine DR (n:=3) (N:= ["_law_word","_law_pot_here"]) (js:= [none,some 0]) (aH.gen rfl rfl rfl rfl rfl rfl) rfl ?_ (λ_ _ _ _=> ?_) (λ_ _ _ _=> ?_) (λ_ _ _ _=> ?_) ?_
 ac_rfl
 refine bX (N:=Ed) (js:= [none,none]) (aH.gen rfl rfl rfl rfl rfl rfl) rfl ?_ (λ_ _ _ _=> ?_) (λ_ _ _ _=> ?_) (λ_ _ _ _=> ?_)
 ac_rfl
def t5:aB uW uW (ay jk):=d0
def sU(F:dr K "values_of" "values_of" jk f fd)(B:Bl mg):aV P w K mg base de 1 f fd uW (dq ⟨K,mg⟩ 1 eG):=by
 refine aS F t5 λb A a s H E c=> ?_
 delta kN
 ac_rfl
 refine bX (N:= ["word","value"]) (js:= [none,none]) (aH.gen rfl rfl rfl rfl rfl rfl) rfl ?_ (λ_ _ _ _=> ?_) (λ_ _ _ _=> ?_) (λ_ _ _ _=> ?_)
 ac_rfl
def j2:aB ["room","name","manner","things","bells","deeds"] wI (ay iG):=d0
def qT(F:dr K "begun_room" "begun_room" iG f fd)(B:Bl mg)(e:nE P w K mg base){b:Tok}(h:mg "NOBODY"=some (.int (-1) b)):aV P w K mg base de 2 f fd wI (dq ⟨K,mg⟩ 1 gk):=by
 have g:=j2.nd
 refine aS F j2 λc A a s H E d=> ?_
 delta i6
 ac_rfl
 refine bX (N:= ["bell"]) (js:= [none]) (aH.gen rfl rfl rfl rfl rfl rfl) rfl ?_ (λ_ _ _ _=> ?_) (λ_ _ _ _=> ?_) (λ_ _ _ _=> ?_)
 ac_rfl
def u0:aB ["world","rooms","passes","shared","hands","own"] yU (ay ui):=d0
def Ct(F:dr K "begun" "begun" ui f fd)(B:Bl mg)(g:nE P w K mg base)(e:sL P w K mg base){c:Tok}(i:mg "OWN"=some (.int (-1) c)):aV P w K mg base de 3 f fd yU (dq ⟨K,mg⟩ 1 tX):=by
 have h:=u0.nd
 refine aS F u0 λb A a s H E d=> ?_
 delta yf
 ac_rfl
 refine bX (N:=wI) (js:= [none]) (aH.gen rfl rfl rfl rfl rfl rfl) rfl ?_ (λ_ _ _ _=> ?_) (λ_ _ _ _=> ?_) (λ_ _ _ _=> ?_)
 ac_rfl
 refine bX (N:= ["name","value"]) (js:= [none,none]) (aH.gen rfl rfl rfl rfl rfl rfl) rfl ?_ (λ_ _ _ _=> ?_) (λ_ _ _ _=> ?_) (λ_ _ _ _=> ?_)
 ac_rfl
 refine bX (N:= ["things","program","own"]) (js:= [none,none,some 5]) (aH.gen rfl rfl rfl rfl rfl rfl) rfl ?_ (λ_ _ _ _=> ?_) (λ_ _ _ _=> ?_) (λ_ _ _ _=> ?_)
 ac_rfl
end
section
variable{P:Program}{w:World}{K:PySem.W.Frag}{mg:Str->Option Value}{base:Heap}{f:Addr}{fd:FuncData}
def nL:aB ["_law_world_here","_law_passes","_law_spots","_law_found","_law_own","_law_spot"] nK (ay ku):=d0
def vm(F:dr K "_law_may" "_law_may" ku f fd)(B:Bl mg):aV P w K mg base de 1 f fd nK (dq ⟨K,mg⟩ 3 jE):=by
 have e:=nL.nd
 refine aS F nL λb A a s H E d=> ?_
 have c:=vR d
 delta mP
 ac_rfl
 refine bX (N:= ["_law_word","_law_passes","_law_own"]) (js:= [none,some 1,some 4]) (aH.gen rfl rfl rfl rfl rfl rfl) rfl ?_ (λ_ _ _ _=> ?_) (λ_ _ _ _=> ?_) (λ_ _ _ _=> ?_)
 ac_rfl
def u3:aB vN vN (ay kb):=d0
def uT(F:dr K "hands_at" "hands_at" kb f fd)(B:Bl mg):aV P w K mg base de 1 f fd vN (dq ⟨K,mg⟩ 1 jA):=by
 refine aS F u3 λb A a s H E c=> ?_
 delta mC
 ac_rfl
 refine bX (N:= ["turn","hand"]) (js:= [none,none]) (aH.gen rfl rfl rfl rfl rfl rfl) rfl ?_ (λ_ _ _ _=> ?_) (λ_ _ _ _=> ?_) (λ_ _ _ _=> ?_)
 ac_rfl
def gS:aB ["scene","hands","value","row","values","within","late","bells","line"] zh (ay fc):=d0
def m3(F:dr K "hands_in_rows" "hands_in_rows" fc f fd)(B:Bl mg)(d:ya P w K mg base):aV P w K mg base de 2 f fd zh (dq ⟨K,mg⟩ 1 df):=by
 have e:=gS.nd
 refine aS F gS λb A a s H E c=> ?_
 delta fR
 ac_rfl
def q0:aB vO vO (ay iB):=d0
def rq(F:dr K "last_frame" "last_frame" iB f fd)(B:Bl mg):aV P w K mg base de 1 f fd vO (dq ⟨K,mg⟩ 2 bQ):=by
 refine aS F q0 λb A a s H E c=> ?_
 delta jb
 ac_rfl
def jZ:aB ["world","hand","frame","room","deed"] ym (ay iz):=d0
def qZ(F:dr K "program_of" "program_of" iz f fd)(B:Bl mg){c:Tok}(e:mg "OWN"=some (.int (-1) c)):aV P w K mg base de 1 f fd ym (dq ⟨K,mg⟩ 3 dH):=by
 have d:=jZ.nd
 refine aS F jZ λb A a s H E g=> ?_
 exact(xE (GY (EA (i:=3) (j:=4) rfl d rfl rfl (by decide) rfl rfl (fI (pd (v_ 2) nU) (fI (pd (v_ 2) nU) nN)) rfl))
  (xE (JN (Hr GU HE (v_ 3) (ik (ud (v:=.int (-1)) rfl e ⟨_,rfl⟩) λ_ _=>.int (-1)) (xx _)) (A5 (Cn (pd (pd (pd (v_ 0) nU) (v_ 1)) nU))) Hv)
  (A5 (Cn (pd (pd (pd (pd (pd (v_ 0) nU) (v_ 3)) nU) (v_ 4)) nU)))))
def g8:aB ["world","scene","hand","frame"] eW (ay fh):=d0
def mI(F:dr K "is_behind_all" "is_behind_all" fh f fd)(B:Bl mg)(g:cM P w K mg base)(d:iu P w K mg base){c:Tok}(i:mg "OWN"=some (.int (-1) c)):aV P w K mg base de 2 f fd eW (dq ⟨K,mg⟩ 3 dY):=by
 have h:=g8.nd
 refine aS F g8 λb A a s H E e=> ?_
 delta fJ
 ac_rfl
def nR:aB ["world","scene","held_up"] yF (ay kO):=d0
def vV(F:dr K "may_step" "may_step" kO f fd)(B:Bl mg)(g:oA P w K mg base)(c:oF P w K mg base):aV P w K mg base de 3 f fd yF (dq ⟨K,mg⟩ 2 g7):=by
 have e:=nR.nd
 refine aS F nR λb A a s H E d=> ?_
 delta mm
 ac_rfl
 refine bX (N:= ["hand","world","scene","held_up"]) (js:= [none,some 0,some 1,some 2]) (aH.gen rfl rfl rfl rfl rfl rfl) rfl ?_ (λ_ _ _ _=> ?_) (λ_ _ _ _=> ?_) (λ_ _ _ _=> ?_)
 ac_rfl
def t8:aB vP vP (ay jc):=d0
def sJ(F:dr K "_law_next" "_law_next" jc f fd)(B:Bl mg)(e:eR P w K mg base)(d:nV P w K mg base):aV P w K mg base de 3 f fd vP (dq ⟨K,mg⟩ 3 ig):=by
 refine aS F t8 λb A a s H E c=> ?_
 delta kT
 ac_rfl
def qQ:aB vC vC (ay iC):=d0
def rj(F:dr K "_law_given" "_law_given" iC f fd)(B:Bl mg):aV P w K mg base de 1 f fd vC (dq ⟨K,mg⟩ 1 eZ):=by
 refine aS F qQ λb A a s H E c=> ?_
 have d:=c.units0
 delta iY
 ac_rfl
def qX:aB uQ uQ (ay iA):=d0
def qP(F:dr K "_law_taken" "_law_taken" iA f fd)(B:Bl mg):aV P w K mg base de 1 f fd uQ (dq ⟨K,mg⟩ 2 eT):=by
 refine aS F qX λb A a s H E c=> ?_
 delta jt
 ac_rfl
def jU:aB ["_law_world_here","_law_passes","_law_spots","_law_own","_law_row"] yq (ay ip):=d0
def rg(F:dr K "_law_event" "_law_event" ip f fd)(B:Bl mg)(e:uF P w K mg base)(g:sP P w K mg base):aV P w K mg base de 2 f fd yq (dq ⟨K,mg⟩ 4 f_):=by
 have h:=jU.nd
 refine aS F jU λb A a s H E d=> ?_
 have c:=vR d
 delta jf
 ac_rfl
def vX:aB wg wg (ay kH):=d0
def uZ(F:dr K "names_of" "names_of" kH f fd)(B:Bl mg):aV P w K mg base de 1 f fd wg (dq ⟨K,mg⟩ 1 cW):=by
 refine aS F vX λb A a s H E c=> ?_
 delta nh
 ac_rfl
 refine bX (N:= ["row"]) (js:= [none]) (aH.gen rfl rfl rfl rfl rfl rfl) rfl ?_ (λ_ _ _ _=> ?_) (λ_ _ _ _=> ?_) (λ_ _ _ _=> ?_)
 ac_rfl
def vT:aB vL vL (ay j9):=d0
def uM(F:dr K "place_of" "place_of" j9 f fd)(B:Bl mg)(d:kI P w K mg base):aV P w K mg base de 2 f fd vL (dq ⟨K,mg⟩ 2 cc):=by
 refine aS F vT λb A a s H E c=> ?_
 delta mi
 ac_rfl
end
section
variable{P:Program}{w:World}{K:PySem.W.Frag}{mg:Str->Option Value}{base:Heap}{f:Addr}{fd:FuncData}
def uh:aB u4 u4 (ay i8):=d0
def tf(F:dr K "with_part" "with_part" i8 f fd)(B:Bl mg):aV P w K mg base de 1 f fd u4 (dq ⟨K,mg⟩ 3 cu):=by
 refine aS F uh λb A a s H E c=> ?_
 delta kA
 ac_rfl
def s_:aB vz vz (ay iW):=d0
def tU(F:dr K "with_hand" "with_hand" iW f fd)(B:Bl mg)(d:eS P w K mg base):aV P w K mg base de 2 f fd vz (dq ⟨K,mg⟩ 4 dF):=by
 refine aS F s_ λb A a s H E c=> ?_
 delta kC
 ac_rfl
def uu:aB vd vd (ay je):=d0
def tH(F:dr K "with_room" "with_room" je f fd)(B:Bl mg)(d:eS P w K mg base):aV P w K mg base de 2 f fd vd (dq ⟨K,mg⟩ 3 bW):=by
 refine aS F uu λb A a s H E c=> ?_
 delta kU
 ac_rfl
def lR:aB ["world","scene","hand","word","value","room","place","values","shared","frames"] yL (ay iX):=d0
def uc(F:dr K "put_thing" "put_thing" iX f fd)(B:Bl mg)(j:cM P w K mg base)(d:fL P w K mg base)(l:eS P w K mg base)(i:eV P w K mg base)(k:kI P w K mg base)(g:gq P w K mg base){c:Tok}(m:mg "OWN"=some (.int (-1) c)):aV P w K mg base de 3 f fd yL (dq ⟨K,mg⟩ 5 dC):=by
 have e:=lR.nd
 refine aS F lR λb A a s H E h=> ?_
 delta g9
 ac_rfl
def ow:aB vH vH (ay fK):=d0
def ox(F:dr K "value_of_two" "value_of_two" fK f fd)(B:Bl mg){c:Tok}(e:mg "HIGHEST"=some (.int (9) c)):aV P w K mg base de 1 f fd vH (dq ⟨K,mg⟩ 3 eN):=by
 refine aS F ow λb A a s H E d=> ?_
 delta gx
 ac_rfl
def nH:aB ["tree","things","waiting","first"] rY (ay ka):=d0
theorem nO(F:dr K "value_of" "value_of" ka f fd)(B:Bl mg)(e:pA P w K mg base)(b:Binds K fd rY [])(c:PySem.W.keepIn K (.ref f)=true)(m:mg "value_of"=some (.ref f)):∀n,aV P w K mg base de (2+n) f fd rY (dq ⟨K,mg⟩ 3 (eF n))
 |0=>y4
 | n+1=>by
   have i:dZ P w K mg base (2+n) "value_of" rY (eF n):=⟨f,fd,nO F B e b c m n,b,c,m⟩
   have j:=nH.nd
   refine aS (k:=2+n) F nH λd A a s H E h=> ?_
   have g:=vR h
   delta m4
   ac_rfl
def nu:aB ["world","scene","hand","tree","frame","room","things","waiting"] yz (ay j8):=d0
def wq(F:dr K "reckoned" "reckoned" j8 f fd)(B:Bl mg)(g:cM P w K mg base)(i:kI P w K mg base)(h:xp P w K mg base){e:Tok}(k:mg "OWN"=some (.int (-1) e)):aV P w K mg base de 9 f fd yz (dq ⟨K,mg⟩ 4 cE):=by
 have j:=nu.nd
 refine aS F nu λb A a s H E d=> ?_
 have c:=vR d
 delta jy
 ac_rfl
 refine CG (n:=7) (N:= ["bell","line"]) (js:= [none,none]) (aH.gen rfl rfl rfl rfl rfl rfl) rfl ?_ (λ_ _ _ _=> ?_) (λ_ _ _ _=> ?_) (λ_ _ _ _=> ?_) (λ_ _ _ _=> ?_) ?_
 ac_rfl
def z4:aB aY aY (ay qC):=d0
def AB(F:dr K "by_put" "by_put" qC f fd)(B:Bl mg)(c:ny P w K mg base)(e:eC P w K mg base):aV P w K mg base de 10 f fd aY (dq ⟨K,mg⟩ 4 oO):=by
 refine aS F z4 λb A a s H E d=> ?_
 delta tN
 ac_rfl
def fT:aB ["scene","hand","frame","values","frames"] yx (ay dU):=d0
def kh(F:dr K "with_last_frame" "with_last_frame" dU f fd)(B:Bl mg)(c:gq P w K mg base):aV P w K mg base de 3 f fd yx (dq ⟨K,mg⟩ 3 cD):=by
 have e:=fT.nd
 refine aS F fT λb A a s H E d=> ?_
 delta eA
 ac_rfl
end
section
variable{P:Program}{w:World}{K:PySem.W.Frag}{mg:Str->Option Value}{base:Heap}{f:Addr}{fd:FuncData}
def rO:aB ["scene","hand","row","frame"] zj (ay pZ):=d0
def zT(F:dr K "at_row" "at_row" pZ f fd)(B:Bl mg)(e:cM P w K mg base)(c:fV P w K mg base):aV P w K mg base de 4 f fd zj (dq ⟨K,mg⟩ 3 iy):=by
 have g:=rO.nd
 refine aS F rO λb A a s H E d=> ?_
 delta uE
 ac_rfl
def tK:aB aY aY (ay iV):=d0
def tP(F:dr K "by_unless" "by_unless" iV f fd)(B:Bl mg)(e:eC P w K mg base)(c:qz P w K mg base):aV P w K mg base de 10 f fd aY (dq ⟨K,mg⟩ 4 iw):=by
 refine aS F tK λb A a s H E d=> ?_
 delta kQ
 ac_rfl
def B3:aB aY aY (ay sO):=d0
def BE(F:dr K "by_go" "by_go" sO f fd)(B:Bl mg)(c:qz P w K mg base):aV P w K mg base de 5 f fd aY (dq ⟨K,mg⟩ 4 sQ):=by
 refine aS F B3 λb A a s H E d=> ?_
 delta wR
 ac_rfl
def pT:aB ["scene","room","hand","values","within","row","late","bells"] yI (ay ml):=d0
def xa(F:dr K "come_in" "come_in" ml f fd)(B:Bl mg)(e:eV P w K mg base){b:Tok}(h:mg "NOBODY"=some (.int (-1) b)):aV P w K mg base de 3 f fd yI (dq ⟨K,mg⟩ 3 iS):=by
 have g:=pT.nd
 refine aS F pT λc A a s H E d=> ?_
 delta pq
 ac_rfl
def vw:aB ["world","scene","hand","row","room","deed","frame","values","frames"] aY (ay uH):=d0
def Bw(F:dr K "by_do" "by_do" uH f fd)(B:Bl mg)(c:fL P w K mg base)(h:eC P w K mg base)(d:sh P w K mg base)(e:gq P w K mg base):aV P w K mg base de 10 f fd aY (dq ⟨K,mg⟩ 4 sW):=by
 have i:=vw.nd
 refine aS F vw λb A a s H E g=> ?_
 delta xW
 ac_rfl
def pw:aB ["world","scene","hand","word","room"] y7 (ay m7):=d0
def xt(F:dr K "bell_of" "bell_of" m7 f fd)(B:Bl mg)(e:cM P w K mg base)(c:fL P w K mg base):aV P w K mg base de 3 f fd y7 (dq ⟨K,mg⟩ 4 gP):=by
 have g:=pw.nd
 refine aS F pw λb A a s H E d=> ?_
 delta o_
 ac_rfl
def lL:aB ["scene","room","bell","line","state"] yH (ay jn):=d0
def uz(F:dr K "with_line" "with_line" jn f fd)(B:Bl mg)(e:eV P w K mg base)(c:eS P w K mg base):aV P w K mg base de 3 f fd yH (dq ⟨K,mg⟩ 4 dA):=by
 have g:=lL.nd
 refine aS F lL λb A a s H E d=> ?_
 delta kG
 ac_rfl
def vk:aB ["scene","room","values","within","row","late","bells"] zi (ay tO):=d0
def Cy(F:dr K "leave" "leave" tO f fd)(B:Bl mg)(e:eV P w K mg base){b:Tok}(h:mg "NOBODY"=some (.int (-1) b)):aV P w K mg base de 3 f fd zi (dq ⟨K,mg⟩ 2 mJ):=by
 have g:=vk.nd
 refine aS F vk λc A a s H E d=> ?_
 delta yj
 ac_rfl
def qh:aB ["world","scene","hand","row","room","bell","turn","line","ahead","waiting"] aY (ay m9):=d0
def wO(F:dr K "by_wait" "by_wait" m9 f fd)(B:Bl mg)(g:m_ P w K mg base)(h:eC P w K mg base)(c:i3 P w K mg base)(d:yP P w K mg base):aV P w K mg base de 10 f fd aY (dq ⟨K,mg⟩ 4 lY):=by
 have i:=qh.nd
 refine aS F qh λb A a s H E e=> ?_
 delta pE
 ac_rfl
 refine bX (N:= ["other","waiter","turn"]) (js:= [none,none,some 6]) (aH.gen rfl rfl rfl rfl rfl rfl) rfl ?_ (λ_ _ _ _=> ?_) (λ_ _ _ _=> ?_) (λ_ _ _ _=> ?_)
 ac_rfl
def qf:aB ["world","scene","hand","row","room","bell","line","called","values","within","queue","late","bells"] aY (ay mM):=d0
def xw(F:dr K "by_call" "by_call" mM f fd)(B:Bl mg)(g:m_ P w K mg base)(c:i3 P w K mg base)(e:eV P w K mg base):aV P w K mg base de 4 f fd aY (dq ⟨K,mg⟩ 4 lu):=by
 have h:=qf.nd
 refine aS F qf λb A a s H E d=> ?_
 delta o8
 ac_rfl
end
section
variable{P:Program}{w:World}{K:PySem.W.Frag}{mg:Str->Option Value}{base:Heap}{f:Addr}{fd:FuncData}
def rS:aB ["world","scene","hand","row","room","bell"] aY (ay pK):=d0
def AE(F:dr K "by_all" "by_all" pK f fd)(B:Bl mg)(e:m_ P w K mg base)(c:i3 P w K mg base):aV P w K mg base de 4 f fd aY (dq ⟨K,mg⟩ 4 oK):=by
 have g:=rS.nd
 refine aS F rS λb A a s H E d=> ?_
 delta tw
 ac_rfl
def qp:aB ["world","scene","hand","row","told"] aY (ay mV):=d0
def xi(F:dr K "by_tell" "by_tell" mV f fd)(B:Bl mg)(g:eC P w K mg base)(c:fV P w K mg base)(e:cM P w K mg base):aV P w K mg base de 10 f fd aY (dq ⟨K,mg⟩ 4 lA):=by
 have h:=qp.nd
 refine aS F qp λb A a s H E d=> ?_
 delta pj
 ac_rfl
def tW:aB vh vh (ay jq):=d0
def tV(F:dr K "with_pass" "with_pass" jq f fd)(B:Bl mg)(d:eS P w K mg base):aV P w K mg base de 2 f fd vh (dq ⟨K,mg⟩ 3 dG):=by
 refine aS F tW λb A a s H E c=> ?_
 delta kj
 ac_rfl
def u_:aB ["world","scene","hand","name","place","value","row"] y9 (ay tJ):=d0
def AS(F:dr K "taken" "taken" tJ f fd)(B:Bl mg)(c:fL P w K mg base)(e:nW P w K mg base):aV P w K mg base de 3 f fd y9 (dq ⟨K,mg⟩ 4 oS):=by
 have g:=u_.nd
 refine aS F u_ λb A a s H E d=> ?_
 delta yl
 ac_rfl
def xm:aB aY aY (ay mj):=d0
def x_(F:dr K "by_take" "by_take" mj f fd)(B:Bl mg)(d:yo P w K mg base):aV P w K mg base de 4 f fd aY (dq ⟨K,mg⟩ 4 lI):=by
 refine aS F xm λb A a s H E c=> ?_
 delta qc
 ac_rfl
def j3:aB ["world","scene","name","place","value","row"] y6 (ay h_):=d0
def qM(F:dr K "given_back" "given_back" h_ f fd)(B:Bl mg)(d:fL P w K mg base)(h:nW P w K mg base){c:Tok}(g:mg "HIGHEST"=some (.int (9) c)):aV P w K mg base de 3 f fd y6 (dq ⟨K,mg⟩ 3 eP):=by
 have i:=j3.nd
 refine aS F j3 λb A a s H E e=> ?_
 delta iT
 ac_rfl
def xP:aB aY aY (ay mX):=d0
def wW(F:dr K "by_give" "by_give" mX f fd)(B:Bl mg)(d:lV P w K mg base):aV P w K mg base de 4 f fd aY (dq ⟨K,mg⟩ 4 lq):=by
 refine aS F xP λb A a s H E c=> ?_
 delta qd
 ac_rfl
def xv:aB aY aY (ay mK):=d0
def xO(F:dr K "by_pass" "by_pass" mK f fd)(B:Bl mg)(d:yo P w K mg base)(e:lV P w K mg base):aV P w K mg base de 4 f fd aY (dq ⟨K,mg⟩ 4 l8):=by
 refine aS F xv λb A a s H E c=> ?_
 delta qk
 ac_rfl
def Am:aB aY aY (ay oT):=d0
def zP(F:dr K "by_say" "by_say" oT f fd)(B:Bl mg):aV P w K mg base de 1 f fd aY (dq ⟨K,mg⟩ 4 oG):=by
 refine aS F Am λb A a s H E c=> ?_
 delta sM
 ac_rfl
def nF:aB ["world","scene","hand","row","deed"] aY (ay kd):=d0
def vK(F:dr K "row_done" "row_done" kd f fd)(B:Bl mg)(g:∀x F,pS.lookup x=some F->dZ P w K mg base 10 x aY F)(c:yA P w K mg "DONE_BY" jH):aV P w K mg base de 11 f fd aY (dq ⟨K,mg⟩ 4 gM):=by
 have e:=nF.nd
 refine aS F nF λb A a s H E d=> ?_
 exact(xE (GO 4 e (Dz c rfl (pd (v_ 3) nU) (λ_ _=>rfl)))
  (A5 (Cn (DS g (d.mono (by decide)) rfl (by first|exact Or.inl rfl|exact Or.inr (Or.inl rfl)) (fI (v_ 0) (fI (v_ 1) (fI (v_ 2) (fI (v_ 3) nN)))) (jC (jC (jC (jC xF))))))))
def nP:aB ["world","scene","hand","values","frames","room","deed","row","given","told","outside","came_by"] eW (ay ko):=d0
def uY(F:dr K "end_deed" "end_deed" ko f fd)(B:Bl mg)(g:gq P w K mg base)(e:yP P w K mg base)(d:iu P w K mg base)(c:ny P w K mg base):aV P w K mg base de 4 f fd eW (dq ⟨K,mg⟩ 3 gH):=by
 have i:=nP.nd
 refine aS F nP λb A a s H E h=> ?_
 delta nj
 ac_rfl
def qo:aB ["world","scene","hand","frame","room","program","row","event"] eW (ay mF):=d0
def wV(F:dr K "step_of" "step_of" mF f fd)(B:Bl mg)(m:cM P w K mg base)(d:sh P w K mg base)(h:iu P w K mg base)(n:x9 P w K mg base)(e:eC P w K mg base)(j:wN P w K mg base)(k:qz P w K mg base){c:Tok}(i:mg "OWN"=some (.int (-1) c)):aV P w K mg base de 12 f fd eW (dq ⟨K,mg⟩ 3 lB):=by
 have g:=qo.nd
 refine aS F qo λb A a s H E l=> ?_
 delta i4
 ac_rfl
end
section
variable{P:Program}{w:World}{K:PySem.W.Frag}{mg:Str->Option Value}{base:Heap}{f:Addr}{fd:FuncData}
def xf:aB eW eW (ay mR):=d0
def xu(F:dr K "stepped" "stepped" mR f fd)(B:Bl mg)(c:pM P w K mg base)(e:zM P w K mg base):aV P w K mg base de 13 f fd eW (dq ⟨K,mg⟩ 3 lQ):=by
 refine aS F xf λb A a s H E d=> ?_
 delta pV
 ac_rfl
def sH:aB xM xM (ay i7):=d0
theorem lG(F:dr K "_law_same" "_law_same" i7 f fd)(B:Bl mg)(b:Binds K fd xM [])(c:PySem.W.keepIn K (.ref f)=true)(m:mg "_law_same"=some (.ref f)):∀n,aV P w K mg base de (1+n) f fd xM (dq ⟨K,mg⟩ 2 (et n))
 |0=>y4
 | n+1=>by
   have g:dZ P w K mg base (1+n) "_law_same" xM (et n):=⟨f,fd,lG F B b c m n,b,c,m⟩
   refine aS (k:=1+n) F sH λd A a s H E e=> ?_
   delta eI
   ac_rfl
   refine bX (N:= ["_law_one","_law_other"]) (js:= [none,none]) (aH.gen rfl rfl rfl rfl rfl rfl) rfl ?_ (λ_ _ _ _=> ?_) (λ_ _ _ _=> ?_) (λ_ _ _ _=> ?_)
   ac_rfl
def jT:aB ["_law_world_here","_law_passes","_law_spots","_law_here"] nK (ay ic):=d0
def qL(F:dr K "_law_scene" "_law_scene" ic f fd)(B:Bl mg):aV P w K mg base de 1 f fd nK (dq ⟨K,mg⟩ 3 fW):=by
 have e:=jT.nd
 refine aS F jT λb A a s H E d=> ?_
 have c:=vR d
 delta i0
 ac_rfl
 refine bX (N:= ["_law_word","_law_value","_law_passes"]) (js:= [none,none,some 1]) (aH.gen rfl rfl rfl rfl rfl rfl) rfl ?_ (λ_ _ _ _=> ?_) (λ_ _ _ _=> ?_) (λ_ _ _ _=> ?_)
 ac_rfl
 refine bX (N:= ["_law_spot"]) (js:= [none]) (aH.gen rfl rfl rfl rfl rfl rfl) rfl ?_ (λ_ _ _ _=> ?_) (λ_ _ _ _=> ?_) (λ_ _ _ _=> ?_)
 ac_rfl
def BF:aB ["_law_script","_law_k","_law_pot_here","_law_world_here","_law_passes","_law_spots","_law_scene_here","_law_last","_law_turn","_law_some","_law_event_here","_law_found"] CI (ay lK):=d0
def F5(F:dr K "law" "law" lK f fd)(B:Bl mg)(l:xI P w K mg base)(e:uk P w K mg base)(m:C9 P w K mg base)(d:xG P w K mg base)(n:pM P w K mg base)(k:u7 P w K mg base)(o:t4 P w K mg base)(h:zQ P w K mg base)(g:wa P w K mg base)(i:tj P w K mg base):aV P w K mg base de 14 f fd CI (dq ⟨K,mg⟩ 1 DJ):=by
 have j:=BF.nd
 refine aS F BF λb A a s H E c=> ?_
 have p:=c.units0
 delta EX
 ac_rfl
 refine bX (N:=Ed) (js:= [none,none]) (aH.gen rfl rfl rfl rfl rfl rfl) rfl ?_ (λ_ _ _ _=> ?_) (λ_ _ _ _=> ?_) (λ_ _ _ _=> ?_)
 ac_rfl
end
def all_mk{l:PySem.W.OpenLaw}{w:World}{K:PySem.W.Frag}{h:Heap}{mg:Str->Option Value}{fa f1 f2 f3 f4 f5 f6 f7 f8 f9 r3 c2 i1 n8 p0 b1 n0 o2 j5 m0 o1 q1 s7 h4 s4 o5 c1 q2 o4 a5 J c7 a4 o a2 r4 A l4 b2 n5 t N H R e9 e1 M n2 I a1 Y e5 g2 j1 h7 h1 l2 c:Addr}(X:K.In h)(G:h.Ns mainGlobals mg)(s5:mg "law"=some (.ref fa))
  (d1:aO K "_law_pot" kJ f1)
  (d2:aO K "_law_take" jw f2)
  (d3:aO K "_law_words" ib f3)
  (d4:aO K "_law_pick" jm f4)
  (d5:aO K "_law_program" fO f5)
  (d6:aO K "_law_world" hJ f6)
  (d7:aO K "values_of" jk f7)
  (d8:aO K "begun_room" iG f8)
  (d9:aO K "begun" ui f9)
  (s0:aO K "_law_may" ku r3)
  (b3:aO K "hands_at" kb c2)
  (k8:aO K "hands_in_rows" fc i1)
  (m1:aO K "last_frame" iB n8)
  (q7:aO K "program_of" iz p0)
  (e3:aO K "is_behind_all" fh b1)
  (e2:aO K "may_step" kO n0)
  (c6:aO K "_law_next" jc o2)
  (r6:aO K "_law_given" iC j5)
  (r7:aO K "_law_taken" iA m0)
  (r2:aO K "_law_event" ip o1)
  (i2:aO K "names_of" kH q1)
  (q9:aO K "place_of" j9 s7)
  (b7:aO K "with_part" i8 h4)
  (r5:aO K "with_hand" iW s4)
  (s3:aO K "with_room" je o5)
  (l5:aO K "put_thing" iX c1)
  (o3:aO K "value_of_two" fK q2)
  (p3:aO K "value_of" ka o4)
  (s1:aO K "reckoned" j8 a5)
  (h5:aO K "by_put" qC J)
  (e7:aO K "with_last_frame" dU c7)
  (b6:aO K "at_row" pZ a4)
  (p4:aO K "by_unless" iV o)
  (b8:aO K "by_go" sO a2)
  (k1:aO K "come_in" ml r4)
  (h6:aO K "by_do" uH A)
  (h3:aO K "bell_of" m7 l4)
  (s6:aO K "with_line" jn b2)
  (r0:aO K "leave" tO n5)
  (l6:aO K "by_wait" m9 t)
  (h0:aO K "by_call" mM N)
  (a6:aO K "by_all" pK H)
  (n7:aO K "by_tell" mV R)
  (e0:aO K "with_pass" jq e9)
  (k7:aO K "taken" tJ e1)
  (o0:aO K "by_take" mj M)
  (g0:aO K "given_back" h_ n2)
  (i5:aO K "by_give" mX I)
  (b5:aO K "by_pass" mK a1)
  (c5:aO K "by_say" oT Y)
  (n4:aO K "row_done" kd e5)
  (e6:aO K "end_deed" ko g2)
  (a3:aO K "step_of" mF j1)
  (k6:aO K "stepped" mR h7)
  (n9:aO K "_law_same" i7 h1)
  (p1:aO K "_law_scene" ic l2)
  {oc kV dc pm cd ct:Value} {od an:Option Addr} {sl:Array (Option Value)} (e8:PySem.W.nsIn K mainGlobals "law"=some (some (.ref c))) (j4:K.lookup c=some ⟨oc,od,.func (PySem.W.fnOf "law" "law" (fq lK) (dX lK) (ay lK) .none kV dc pm an cd ct),sl⟩) (l3:PySem.W.codeIn K cd "law"=true) (g1:PySem.W.keepIn K (.ref c)=true)
  {fS:Tok} (Bh:PySem.W.nsIn K mainGlobals "NOBODY"=some (some (.int (-1) fS)))
  {gY:Tok} (G3:PySem.W.nsIn K mainGlobals "OWN"=some (some (.int (-1) gY)))
  {g5:Tok} (Ak:PySem.W.nsIn K mainGlobals "HIGHEST"=some (some (.int (9) g5)))
  {sy yc:Nat} {tT uA ur ub uf uG tM uB sY tF qV rA:Tok} (zV:PySem.W.nsIn K mainGlobals "DONE_BY"=some (some (.ref sy))) (xT:K.lookup sy=some ⟨.type "dict",none,.dict (List.toArray [⟨PyData.keyHash w.params "put",.str "put" tT,.ref J⟩,⟨PyData.keyHash w.params "unless",.str "unless" uA,.ref o⟩,⟨PyData.keyHash w.params "go",.str "go" ur,.ref a2⟩,⟨PyData.keyHash w.params "do",.str "do" ub,.ref A⟩,⟨PyData.keyHash w.params "wait",.str "wait" uf,.ref t⟩,⟨PyData.keyHash w.params "call",.str "call" uG,.ref N⟩,⟨PyData.keyHash w.params "all",.str "all" tM,.ref H⟩,⟨PyData.keyHash w.params "tell",.str "tell" uB,.ref R⟩,⟨PyData.keyHash w.params "take",.str "take" sY,.ref M⟩,⟨PyData.keyHash w.params "give",.str "give" tF,.ref I⟩,⟨PyData.keyHash w.params "pass",.str "pass" qV,.ref a1⟩,⟨PyData.keyHash w.params "say",.str "say" rA,.ref Y⟩]) yc,#[]⟩)
  (GA:PySem.W.nsIn K mainGlobals "len"=some none) (D7:PySem.W.nsIn K mainGlobals "tuple"=some none) (FM:PySem.W.nsIn K mainGlobals "list"=some none) (FE:PySem.W.nsIn K mainGlobals "dict"=some none) (Hw:PySem.W.nsIn K mainGlobals "set"=some none) (HY:PySem.W.nsIn K mainGlobals "int"=some none) (Hj:PySem.W.nsIn K mainGlobals "str"=some none) (FI:PySem.W.nsIn K mainGlobals "bool"=some none) (GN:PySem.W.nsIn K mainGlobals "all"=some none) (HH:PySem.W.nsIn K mainGlobals "any"=some none) (Dj:PySem.W.nsIn K mainGlobals "range"=some none) (GT:PySem.W.nsIn K mainGlobals "zip"=some none) (B0:PySem.W.nsIn K mainGlobals "sorted"=some none) (ua:PySem.W.nsIn K mainGlobals "isinstance"=some none) (GH:PySem.W.nsIn K mainGlobals "min"=some none) (HP:PySem.W.nsIn K mainGlobals "max"=some none) (GL:PySem.W.nsIn K mainGlobals "abs"=some none) (uX:PySem.W.nsIn K mainGlobals "enumerate"=some none)
  (T:∀ns:List Int,ns.length<=63->∃S',DJ [.ref 0] [.frz (ns.map D.int)]=some (.d (.bl true),S')):
  ∃fd:FuncData,(∀(s:Shared) (v:Value),BindsTo s fd ⟨[v],[]⟩ [("_law_script",v)])/\∀base:Heap,K.In base->base.Ns mainGlobals mg->aV l.prog w K mg base de 14 fa fd CI uP:=by
 have e:=s5.symm.trans (PySem.W.mg_of X G e8)
 cases e
 have k3:=xR (st:=lK) j4 l3 g1
 have O1:=d1.ok1 (ps:=yZ) X G
 have O2:=d2.ok1 (ps:=CZ) X G
 have O3:=d3.ok1 (ps:=y8) X G
 have O4:=d4.ok1 (ps:=vf) X G
 have O5:=d5.ok1 (ps:=C5) X G
 have O6:=d6.ok1 (ps:=zp) X G
 have O7:=d7.ok1 (ps:=uW) X G
 have O8:=d8.ok1 (ps:=wI) X G
 have O9:=d9.ok1 (ps:=yU) X G
 have n3:=s0.ok1 (ps:=nK) X G
 have q4:=b3.ok1 (ps:=vN) X G
 have s2:=k8.ok1 (ps:=zh) X G
 have g4:=m1.ok1 (ps:=vO) X G
 have b4:=q7.ok1 (ps:=ym) X G
 have k5:=e3.ok1 (ps:=eW) X G
 have c8:=e2.ok1 (ps:=yF) X G
 have b0:=c6.ok1 (ps:=vP) X G
 have q5:=r6.ok1 (ps:=vC) X G
 have e4:=r7.ok1 (ps:=uQ) X G
 have q6:=r2.ok1 (ps:=yq) X G
 have h8:=i2.ok1 (ps:=wg) X G
 have l0:=q9.ok1 (ps:=vL) X G
 have a7:=b7.ok1 (ps:=u4) X G
 have f0:=r5.ok1 (ps:=vz) X G
 have n6:=s3.ok1 (ps:=vd) X G
 have r1:=l5.ok1 (ps:=yL) X G
 have k4:=o3.ok1 (ps:=vH) X G
 have h9:=p3.ok1 (ps:=rY) X G
 have l7:=s1.ok1 (ps:=yz) X G
 have j:=h5.ok1 (ps:=aY) X G
 have c4:=e7.ok1 (ps:=yx) X G
 have g3:=b6.ok1 (ps:=zj) X G
 have q:=p4.ok1 (ps:=aY) X G
 have U:=b8.ok1 (ps:=aY) X G
 have n1:=k1.ok1 (ps:=yI) X G
 have y:=h6.ok1 (ps:=aY) X G
 have m2:=h3.ok1 (ps:=y7) X G
 have c3:=s6.ok1 (ps:=yH) X G
 have s8:=r0.ok1 (ps:=zi) X G
 have C:=l6.ok1 (ps:=aY) X G
 have r:=h0.ok1 (ps:=aY) X G
 have u:=a6.ok1 (ps:=aY) X G
 have Q:=n7.ok1 (ps:=aY) X G
 have a9:=e0.ok1 (ps:=vh) X G
 have a8:=k7.ok1 (ps:=y9) X G
 have P:=o0.ok1 (ps:=aY) X G
 have k2:=g0.ok1 (ps:=y6) X G
 have n:=i5.ok1 (ps:=aY) X G
 have z:=b5.ok1 (ps:=aY) X G
 have L:=c5.ok1 (ps:=aY) X G
 have c0:=n4.ok1 (ps:=aY) X G
 have q3:=e6.ok1 (ps:=eW) X G
 have p2:=a3.ok1 (ps:=eW) X G
 have q8:=k6.ok1 (ps:=eW) X G
 have l1:=n9.ok1 (ps:=xM) X G
 have h2:=p1.ok1 (ps:=nK) X G
 have gG:=PySem.W.mg_of X G Bh
 have g:=PySem.W.mg_of X G G3
 have jN:=PySem.W.mg_of X G Ak
 have nc:yA l.prog w K mg "DONE_BY" jH:=Cm (PySem.W.mg_of X G zV) xT (.cons j.m (.cons q.m (.cons U.m (.cons y.m (.cons C.m (.cons r.m (.cons u.m (.cons Q.m (.cons P.m (.cons n.m (.cons z.m (.cons L.m .nil)))))))))))) (by decide +kernel)
 have B:Bl mg:=⟨QFq X G GA,QFq X G D7,QFq X G FM,QFq X G FE,QFq X G Hw,QFq X G HY,QFq X G Hj,QFq X G FI,QFq X G GN,QFq X G HH,QFq X G Dj,QFq X G GT,QFq X G B0,QFq X G ua,QFq X G GH,QFq X G HP,QFq X G GL,QFq X G uX⟩
 refine⟨PySem.W.fnOf "law" "law" (fq lK) (dX lK) (ay lK) .none kV dc pm an cd ct,λs v=>.of_eq rfl,λbase _ _=> ?_⟩
 have Z:Pk l.prog w base:=⟨⟩
 have qt:=O1.cal Z λ_ F _ _ _=>wA F B
 have S:=O2.cal Z λ_ F _ _ _=>uv F B
 have lC:=O3.cal Z λ_ F _ _ _=>qR F B S
 have gc:=O4.cal Z λ_ F _ _ _=>t9 F B S
 have jo:=O5.cal Z λ_ F _ _ _=>ou F B S gc
 have mf:=O6.cal Z λ_ F _ _ _=>qO F B lC S jo
 have fX:=O7.cal Z λ_ F _ _ _=>sU F B
 have k0:=O8.cal Z λ_ F _ _ _=>qT F B fX gG
 have yC:=O9.cal Z λ_ F _ _ _=>Ct F B fX k0 g
 have pk:=n3.cal Z λ_ F _ _ _=>vm F B
 have qx:=q4.cal Z λ_ F _ _ _=>uT F B
 have iI:=s2.cal Z λ_ F _ _ _=>m3 F B qx
 have a:=g4.cal Z λ_ F _ _ _=>rq F B
 have dh:=b4.cal Z λ_ F _ _ _=>qZ F B g
 have iH:=k5.cal Z λ_ F _ _ _=>mI F B a dh g
 have ix:=c8.cal Z λ_ F _ _ _=>vV F B iI iH
 have nT:=b0.cal Z λ_ F _ _ _=>sJ F B S gc
 have k_:=q5.cal Z λ_ F _ _ _=>rj F B
 have lU:=e4.cal Z λ_ F _ _ _=>qP F B
 have k9:=q6.cal Z λ_ F _ _ _=>rg F B k_ lU
 have eh:=h8.cal Z λ_ F _ _ _=>uZ F B
 have cq:=l0.cal Z λ_ F _ _ _=>uM F B eh
 have bS:=a7.cal Z λ_ F _ _ _=>tf F B
 have cK:=f0.cal Z λ_ F _ _ _=>tU F B bS
 have i:=n6.cal Z λ_ F _ _ _=>tH F B bS
 have gd:=r1.cal Z λ_ F _ _ _=>uc F B a cq bS i eh cK g
 have fM:=k4.cal Z λ_ F _ _ _=>ox F B jN
 have kE:=h9.cal Z λ_ F b k m=>nO F B fM b k m 6
 have f:=l7.cal Z λ_ F _ _ _=>wq F B a eh kE g
 have Ck:=j.cal Z λ_ F _ _ _=>AB F B gd f
 have c_:=c4.cal Z λ_ F _ _ _=>kh F B cK
 have g6:=g3.cal Z λ_ F _ _ _=>zT F B a c_
 have wC:=q.cal Z λ_ F _ _ _=>tP F B f g6
 have D_:=U.cal Z λ_ F _ _ _=>BE F B g6
 have jJ:=n1.cal Z λ_ F _ _ _=>xa F B i gG
 have DW:=y.cal Z λ_ F _ _ _=>Bw F B cq f jJ cK
 have fG:=m2.cal Z λ_ F _ _ _=>xt F B a cq
 have dM:=c3.cal Z λ_ F _ _ _=>uz F B i bS
 have oM:=s8.cal Z λ_ F _ _ _=>Cy F B i gG
 have Ai:=C.cal Z λ_ F _ _ _=>wO F B fG f dM oM
 have Ao:=r.cal Z λ_ F _ _ _=>xw F B fG dM i
 have Cc:=u.cal Z λ_ F _ _ _=>AE F B fG dM
 have zD:=Q.cal Z λ_ F _ _ _=>xi F B f c_ a
 have fZ:=a9.cal Z λ_ F _ _ _=>tV F B bS
 have oJ:=a8.cal Z λ_ F _ _ _=>AS F B cq fZ
 have zR:=P.cal Z λ_ F _ _ _=>x_ F B oJ
 have fB:=k2.cal Z λ_ F _ _ _=>qM F B cq fZ jN
 have zS:=n.cal Z λ_ F _ _ _=>wW F B fB
 have Aa:=z.cal Z λ_ F _ _ _=>xO F B oJ fB
 have BI:=L.cal Z λ_ F _ _ _=>zP F B
 have qi:∀x F,pS.lookup x=some F->dZ l.prog w K mg base 10 x aY F:=by
  refine A9 λp hp=> ?_
  simp only[pS,Qsq,QXq,or_false] at hp
  rcases hp with rfl|rfl|rfl|rfl|rfl|rfl|rfl|rfl|rfl|rfl|rfl|rfl
  ·exact Ck.mono (by decide)
  ·exact wC.mono (by decide)
  ·exact D_.mono (by decide)
  ·exact DW.mono (by decide)
  ·exact Ai.mono (by decide)
  ·exact Ao.mono (by decide)
  ·exact Cc.mono (by decide)
  ·exact zD.mono (by decide)
  ·exact zR.mono (by decide)
  ·exact zS.mono (by decide)
  ·exact Aa.mono (by decide)
  ·exact BI.mono (by decide)
 have p9:=c0.cal Z λ_ F _ _ _=>vK F B qi nc
 have pB:=q3.cal Z λ_ F _ _ _=>uY F B cK oM dh gd
 have sg:=p2.cal Z λ_ F _ _ _=>wV F B a jJ dh pB f p9 g6 g
 have sx:=q8.cal Z λ_ F _ _ _=>xu F B ix sg
 have iQ:=l1.cal Z λ_ F b k m=>lG F B b k m 10
 have lO:=h2.cal Z λ_ F _ _ _=>qL F B
 exact CS (F5 k3 B qt mf yC pk ix nT k9 sx iQ lO) T
end W28
namespace DL
open PySem PySem.Spec L2
def qg{a:cp}{S:aA}{Q:Bool->aA->Prop}(q:Q true S):E cA a S Q:=⟨_,_,rfl,q⟩
section
variable{S:aA}
def Ki{i j:Int}{Q:D->Prop}(q:Q (.int (i+j))):Op (bK S (.int i) (.int j)) Q:=⟨_,rfl,q⟩
def E5{i j:Str}{Q:D->Prop}(h:i.length+j.length<=sizeLine)(q:Q (.str (i++j))):Op (bK S (.str i) (.str j)) Q:=⟨_,by simp only[bK];rw[Qhq h],q⟩
def cY{i j:List D}{Q:D->Prop}(h:i.length+j.length<=sizeLine)(q:Q (.tup (i++j))):Op (bK S (.tup i) (.tup j)) Q:=⟨_,by simp only[bK];rw[Qhq h],q⟩
def IW{k:Int->Int->D}{i j:Int}{Q:D->Prop}(q:Q (k i j)):Op (intD (λ_ _=>True) k S (.int i) (.int j)) Q:=⟨_,by simp only[intD,if_true],q⟩
def pH{i j:Int}{Q:D->Prop}(h:0<j)(q:Q (.int (i%j))):Op (oD S (.int i) (.int j)) Q:=⟨_,by simp only[oD,intD];rw[Qhq h],q⟩
def BS{i j:Int}{Q:D->Prop}(h:Cb i j)(q:Q (.int (i/j))):Op (wB S (.int i) (.int j)) Q:=⟨_,by simp only[wB,intD];rw[Qhq h],q⟩
def rD{i j:Int}{Q:D->Prop}(h:DB i j)(q:Q (.int (i*j))):Op (kf S (.int i) (.int j)) Q:=⟨_,by simp only[kf,intD];rw[Qhq h.ok],q⟩
def ar{ds:List D}{i:Int}{d:D}{Q:D->Prop}(h:lW ds i=some d)(q:Q d):Op (qY S (.tup ds) (.int i)) Q:=⟨_,h,q⟩
def dt{k:Nat}{ds:List D}{i:Int}{d:D}{Q:D->Prop}(a:S[k]?=some (.lst ds))(h:lW ds i=some d)(q:Q d):Op (qY S (.ref k) (.int i)) Q:=⟨_,by simp only[qY,a];exact h,q⟩
def cQ{ds:List D}{Q:List D×Tag->Prop}(q:Q (ds,.tu)):Op (ql S (.tup ds)) Q:=⟨_,rfl,q⟩
def dz{k:Nat}{ds:List D}{Q:List D×Tag->Prop}(a:S[k]?=some (.lst ds))(q:Q (ds,.st k)):Op (ql S (.ref k)) Q:=⟨_,by simp only[ql,a],q⟩
def HD{α:Type}{o:Option α}{d:α}{Q:α->Prop}(h:o=some d)(q:Q d):Op o Q:=⟨d,h,q⟩
end
def aN{b:Bool}{p q:Prop}(a:b=true->p)(c:b=false->q):if b=true then p else q:=by
 cases b with
 |true=>exact a rfl
 |false=>exact c rfl
end DL
local macro_rules|`(tactic|symm)=>do
 let mut a:Array (Lean.TSyntax `Lean.Parser.Tactic.tacticSeq):= #[]
 for s in (["bA","dR","nI","Jb","G8","Lb","vJ","bM","KM","rp","CL","gw","zg","vp","ID","KY","Ld","jW","FQ","KU","Fe","An","CQ","Bv","Ir","ff","Ep","Bi","w6","yV","Kk","qg","aR","Lj","yr","uU","Ki","IW","cQ"]:List String) do a:=a.push (←`(tacticSeq|refine $(Lean.mkIdent (.str (.str .anonymous "DL") s)) ?_))
 `(tactic|repeat(first|(with_reducible first $[| $a]*)|((with_reducible refine DL.bj (d := ?_) ?_ ?_); rotate_left; rfl)|dsimp only))
local macro_rules|`(tactic|apply $e)=>`(tactic|(refine $e;symm))
namespace W28
open PySem PySem.Spec L2 DL
def lX(a b c:Int):O:=.lst [.int a,.int b,.int c]
def zI{S:aA}{k:Nat}{a b q m:Int}{Q:Res->aA->Prop}(e:S[k]?=some (lX a b q))(i:0<m)(u:m<1000000)
  (h:∀(d n p r:Int),0<=d->d<m->Q (.d (.int d)) (S.set k (lX n p r))):Fn bG [.ref k,.int m] S Q:=by
 have l:k<S.length:=(gQs.mp e).1
 have j:∀(o:O),(S.set k o).take S.length=S.set k o:=λo=>by rw[List.take_of_length_le];simp
 refine bq ?_
 unfold ki
 symm
 refine dt e rfl ?_
 symm
 refine aN (λc=> ?_) (λc=> ?_)
 ·symm
  refine dt e rfl ?_
  symm
  refine pH i ?_
  symm
  refine dt e rfl ?_
  symm
  refine BS ⟨i,by omega⟩ ?_
  symm
  refine⟨_,_,_,_,rfl,rfl,e,rfl,?_⟩
  symm
  refine eD (my (by rfl)) (j _) (λ_ z=>by cases z) rfl ?_
  exact h _ _ _ _ (Int.emod_nonneg _ (by omega)) (Int.emod_lt_of_pos _ i)
 ·symm
  refine⟨_,_,_,_,rfl,rfl,e,by decide,rfl,?_⟩
  symm
  refine⟨_,_,_,rfl,e,rfl,?_⟩
  have f:∀o:O,(S.set k o)[k]?=some o:=λo=>by rw[Qyq l]
  symm
  refine dt (f _) rfl ?_
  symm
  refine rD (.inr ⟨by decide,by decide⟩) ?_
  symm
  refine dt (f _) rfl ?_
  refine rD (.inl ⟨by decide,by decide⟩) ?_
  symm
  refine pH (by decide) ?_
  generalize g:(b*69069+9973*_+5)%2305843009213693921=mx
  have s:0<=mx:=by rw[←g];exact Int.emod_nonneg _ (by decide)
  have t:mx<2305843009213693921:=by rw[←g];exact Int.emod_lt_of_pos _ (by decide)
  symm
  refine pH (by decide) ?_
  symm
  refine dt (f _) rfl ?_
  refine rD (.inl ⟨by decide,by decide⟩) ?_
  symm
  refine rD (.inl ⟨by omega,by omega⟩) ?_
  symm
  refine pH (by decide) ?_
  symm
  refine⟨_,_,_,_,rfl,rfl,f _,rfl,?_⟩
  symm
  refine dt (by rw[List.set_set];exact f _) rfl ?_
  symm
  refine BS ⟨by decide,by decide⟩ ?_
  symm
  refine pH i ?_
  symm
  rw[List.set_set]
  refine eD (my (by rfl)) (j _) (λ_ z=>by cases z) rfl ?_
  exact h _ _ _ _ (Int.emod_nonneg _ (by omega)) (Int.emod_lt_of_pos _ i)
structure Ex(k:Nat)(S S':aA):Prop where
 len:S.length<=S'.length
 keep:∀(j:Nat) (o:O),j≠k->S[j]?=some o->S'[j]?=some o
 pot:∃a b c,S'[k]?=some (lX a b c)
def Ex.refl{k:Nat}{S:aA}{a b c:Int}(h:S[k]?=some (lX a b c)):Ex k S S:=⟨Qmq _,λ_ _ _ h=>h,_,_,_,h⟩
def Ex.set{k:Nat}{S d:aA}{a b c:Int}(x:Ex k S d):Ex k S (d.set k (lX a b c)):=by
 obtain⟨_,_,_,h⟩:=x.pot
 refine⟨by simpa using x.len,λj o n h=> ?_,a,b,c,Qyq (gQs.mp h).1⟩
 rw[QKq (Ne.symm n)]
 exact x.keep j o n h
def Ex.app{k:Nat}{S d G:aA}(x:Ex k S d):Ex k S (d++G):=by
 obtain⟨a,b,c,h⟩:=x.pot
 refine⟨by rw[lQa];have:=x.len;omega,λj o n h=> ?_,a,b,c,?_⟩
 ·have:=x.keep j o n h
  rw[QHq (gQs.mp this).1]
  exact this
 ·rw[QHq (gQs.mp h).1]
  exact h
def Ex.put{k r:Nat}{S d:aA}{o:O}(x:Ex k S d)(i:S.length<=r)(f:k<S.length):Ex k S (d.set r o):=by
 obtain⟨a,b,c,h⟩:=x.pot
 refine⟨by simpa using x.len,λj e n h=> ?_,a,b,c,?_⟩
 ·have g:=(gQs.mp h).1
  rw[QKq (by omega)]
  exact x.keep j e n h
 ·rw[QKq (by omega)]
  exact h
def Ex.lt{k:Nat}{S d:aA}(x:Ex k S d):k<d.length:=by
 obtain⟨a,b,c,h⟩:=x.pot
 exact(gQs.mp h).1
def bx{S G:aA}{j:Nat}{o:O}(h:S[j]?=some o):(S++G)[j]?=some o:=by
 rw[QHq (gQs.mp h).1]
 exact h
def bt{S:aA}{o:O}:(S++ [o])[S.length]?=some o:=by simp
def FU{S:aA}{k j:Nat}{o o':O}(n:j≠k)(h:S[j]?=some o):(S.set k o')[j]?=some o:=by
 rw[QKq (Ne.symm n)]
 exact h
def pR{S:aA}{j:Nat}{o o':O}(h:S[j]?=some o):(S.set j o')[j]?=some o':=Qyq (gQs.mp h).1
def Ex.clean{k:Nat}{S f:aA}(x:Ex k S f)(l:k<S.length):iK S f/\∃a b c,f.take S.length=S.set k (lX a b c):=by
 obtain⟨a,b,c,h⟩:=x.pot
 have g:∀j,j<S.length->f[j]?=(S.set k (lX a b c))[j]? :=λj d=>by
  by_cases e:j=k
  ·subst e
   rw[h,Qyq d]
  ·rw[QKq (Ne.symm e),x.keep j _ e (gQe d),gQe d]
 refine⟨⟨x.len,λj o d e=> ?_⟩,a,b,c,?_⟩
 ·by_cases i:j=k
  ·subst i
   rw[h] at e
   cases e
   exact .inr rfl
  ·rw[x.keep j _ i (gQe d)] at e
   rw[gQe d]
   exact .inl e
 ·apply List.ext_getElem?
  intro j
  by_cases d:j<S.length
  ·rw[List.getElem?_take_of_lt d]
   exact g j d
  ·rw[List.getElem?_eq_none (by rw[Qxq];omega),List.getElem?_eq_none (by simp;omega)]
def vW{k:Nat}{S e:aA}{d:D}{Q:Res->aA->Prop}(x:Ex k S e)(f:k<S.length)(hd:∀k,d≠.ref k)(h:bB S.length d=true)(q:∀a b c,Q (.d d) (S.set k (lX a b c))):Op (settle S d e) λp=>Q p.1 p.2:=by
 obtain⟨i,a,b,c,g⟩:=x.clean f
 exact eD i g hd h (q a b c)
def Hg{k:Nat}{S d:aA}{ds:List D}{Q:Res->aA->Prop}(x:Ex k S d)(e:k<S.length)(g:bh S.length ds=true)(q:∀a b c,Q (.l ds) (S.set k (lX a b c))):Op (dj S ds d) λp=>Q p.1 p.2:=by
 obtain⟨h,a,b,c,f⟩:=x.clean e
 exact km h f g (q a b c)
def fE{S g:aA}{k:Nat}{m:Int}{Q:Res->aA->Prop}(x:Ex k g S)(l:0<m)(i:m<1000000)
  (h:∀(d:Nat) (e:aA),(d:Int)<m->Ex k g e->Ex k S e->e.length=S.length->Q (.d (.int d)) e):Fn bG [.ref k,.int m] S Q:=by
 obtain⟨a,b,c,f⟩:=x.pot
 refine zI f l i λd o p r q j=> ?_
 obtain⟨n,rfl⟩:∃n:Nat,d=n:=⟨d.toNat,by omega⟩
 exact h n _ j x.set (Ex.refl f).set (by simp)
def aI{α:Type}{xs:List α}{j:Nat}{x:α}(h:xs[j]?=some x):lW xs (j:Int)=some x:=by
 have a:=(gQs.mp h).1
 unfold lW yu
 rw[Qhq (by omega),Qhq (by omega)]
 simpa using h
def yW{S n:aA}{k i:Nat}{xs:List D}{Q:Res->aA->Prop}(x:Ex k n S)(hi:i≠k)(m:S[i]?=some (.lst xs))(t:0<xs.length)(s:xs.length<1000)(q:∀d∈xs,(∀k,d≠.ref k)/\bB 0 d=true)
  (g:∀d∈xs,bB S.length d=true)
  (h:∀(d:D) (e:aA),d∈xs->Ex k n e->Ex k S e->e.length=S.length->Q (.d d) e):Fn cv [.ref k,.ref i] S Q:=by
 have y:Ex k S S:=by obtain⟨a,b,c,p⟩:=x.pot;exact Ex.refl p
 refine bq ?_
 unfold kB
 symm
 apply dz m ?_
 refine fE y (by show(0:Int)<xs.length;omega) (by show(xs.length:Int)<1000000;omega) λd e o l u r=> ?_
 dsimp only
 have f:d<xs.length:=by have:(d:Int)<(xs.length:Int):=o;omega
 refine dt (l.keep _ _ hi m) (aI (gQe f)) ?_
 have j:=List.getElem_mem f
 refine vW l x.lt (q _ j).1 (g _ j) λa b c=> ?_
 exact h _ _ j x.set y.set (by simp)
end W28
namespace DL
open PySem PySem.Spec L2
mutual
theorem eX{m:Nat}:∀{d:D},bB 0 d=true->bB m d=true
 |.non,_=>rfl
 |.bl _,_=>rfl
 |.int _,_=>rfl
 |.str _,_=>rfl
 |.tup ds,h=>by simp only[bB] at h⊢;exact gR h
 |.ref k,h=>by simp[bB] at h
 |.fn _,_=>rfl
theorem gR{m:Nat}:∀{ds:List D},bh 0 ds=true->bh m ds=true
 | [],_=>rfl
 | d::ds,h=>by
   simp only[bh,QCq] at h⊢
   exact⟨eX h.1,gR h.2⟩
end
theorem oH{m:Nat}:∀{ds:List D},(∀d∈ds,bB m d=true)->bh m ds=true
 | [],_=>rfl
 | d::ds,h=>by
   simp only[bh,QCq]
   exact⟨h d (QBq ..),oH λe a=>h e (Qpq _ a)⟩
def aK{α:Type}{m:Nat}{f:α->D}{l:List α}(h:∀a∈l,bB m (f a)=true):bh m (l.map f)=true:=oH λd b=>by
 obtain⟨a,c,rfl⟩:=Qkq.mp b
 exact h a c
theorem sf:∀a:List Str,rF (a.map D.str)=some a
 | []=>rfl
 |s::a=>by simp only[QDq,rF];rw[sf a];rfl
def E1{c:cp}{S:aA}{f:dg}{Q:List D->aA->Prop}(h:E f c S λp b=>p.2.isL=true/\∃a:List Str,p.1=a.map D.str/\a.length<64/\Q ((mH a).map D.str) b):E (yK f) c S Q:=by
 obtain⟨p,b,g,l,a,d,e,q⟩:=h
 exact⟨_,b,by unfold yK;rw[g];simp only[Qbq];rw[Qhq l,d,sf];simp only[Qbq];rw[Qhq e],q⟩
end DL
namespace W28
open PySem PySem.Spec L2 DL
def six:List Str:= ["a","b","c","d","e","zz"]
theorem rN{α a:Type}(g:α->a):∀(l:List α) (k:Nat),(l.map g).eraseIdx k=(l.eraseIdx k).map g
 | [],_=>rfl
 |_::_,0=>rfl
 |x::l,k+1=>congrArg (g x::·) (rN g l k)
def BG{α:Type}{b a c:List α}{j:Nat}(d:j<a.length)(h:(b++a).Perm c):((b++ [a[j]])++a.eraseIdx j).Perm c:=by
 refine List.Perm.trans ?_ h
 rw[Qvq]
 refine List.Perm.append_left b ?_
 show(a[j]::a.eraseIdx j).Perm a
 rw[List.eraseIdx_eq_take_drop_succ]
 have e:a=a.take j++a[j]::a.drop (j+1):=by rw[←QWq d,List.take_append_drop]
 refine List.Perm.trans ?_ (List.Perm.of_eq e.symm)
 exact List.perm_middle.symm
def Et{n j:Nat}(h:j<n)(a:n<1000):seqIndex? (j:Int) n=some j:=(t_ (by unfold yu;rw[Qhq (by omega),Qhq (by omega)];simp)).1
def Bc{S N:aA}{k:Nat}{e:Str}{g:Int}{Q:Res->aA->Prop}(x:Ex k N S)(hm:0<=g)(a1:g<=6)(W:e.length<=1)
  (h:∀(ws:List Str) (s:aA),(∃l,(ws++l).Perm (six.map (e++·)))->(ws.length:Int)=g->Ex k N s->Ex k S s->s.length=S.length->Q (.l (ws.map D.str)) s):Fn gg [.ref k,.str e,.int g] S Q:=by
 have y:Ex k S S:=by obtain⟨a,b,c,Y⟩:=x.pot;exact Ex.refl Y
 refine bq ?_
 unfold iU
 symm
 apply hG ?_
 refine⟨by decide,⟨λn f s i=>f= [f.getD 0 none,some (.str e)]/\s=S/\i=((six.take n).map (e++·)).map D.str,⟨rfl,rfl,rfl⟩,λn f s i h=>trivial,λn d f s i F ⟨t,u,q⟩=> ?_,λf s i ⟨_,u,q⟩=> ?_⟩⟩
 ·have u:=u.symm
  subst u q
  obtain⟨o,rfl⟩:∃o,f= [o,some (.str e)]:=⟨_,t⟩
  have H:∃z,six[n]?=some z/\d=.str z:=by
   rcases n with _|_|_|_|_|_|n <;>first|(cases F;exact⟨_,rfl,rfl⟩)|(simp at F)
  obtain⟨z,I,rfl⟩:=H
  have R:z.length<=2:=by
   have:=mQg I
   simp only[six,Qsq,QXq,or_false] at this
   rcases this with rfl|rfl|rfl|rfl|rfl|rfl <;>decide
  symm
  rw[Qhq rfl]
  symm
  refine E5 (QAq (show e.length+z.length<=3 by omega) (by decide)) ?_
  have A:n<6:=(gQs.mp I).1
  refine⟨?_,rfl,rfl,?_⟩
  ·simp only[lQm,Qxq]
   exact Nat.lt_of_le_of_lt (Nat.min_le_left _ _) (Nat.lt_trans A (by decide))
  ·rw[QYq,I]
   simp
 ·have u:=u.symm
  subst u q
  symm
  apply E1 ?_
  apply hG ?_
  refine⟨g,rfl,⟨by omega,by omega⟩,λn f C i=>∃(r m:List Str),f= [f.getD 0 none,some (.ref k),some (.ref S.length)]/\Ex k S C/\C.length=S.length+1/\C[S.length]?=some (.lst (m.map D.str))/\i=r.map D.str/\r.length=n/\(r++m).Perm (six.map (e++·)),?_,λ_ _ _ _ _=>trivial,?_,?_⟩
  ·refine⟨[],six.map (e++·),rfl,y.app,by simp,?_,rfl,rfl,List.Perm.refl _⟩
   exact bt
  ·rintro n d f C i F ⟨r,m,t,M,B,G,rfl,A,hp⟩
   obtain⟨o,rfl⟩:∃o,f= [o,some (.ref k),some (.ref S.length)]:=⟨_,t⟩
   have p:=hp.length_eq
   simp only[lQa,lQm] at p
   have P:six.length=6:=rfl
   have U:n<6:=by
    have:=(gQs.mp F).1
    simp only[oE,lQm,QVq] at this
    omega
   have Z:0<m.length:=by omega
   symm
   rw[Qhq rfl]
   apply wH ?_
   apply⟨_,_,rfl,G,?_⟩
   apply dz G ?_
   refine fE M (by simp only[lQm];omega) (by simp only[lQm];omega) λj S3 X e3 J K=> ?_
   dsimp only
   symm
   have v:j<m.length:=by simpa using X
   have L:S.length≠k:=by have:=x.lt;omega
   have w:=J.keep _ _ L G
   refine⟨_,w,?_⟩
   refine HD (d:=((m.map D.str).eraseIdx j,D.str m[j])) ?_ ?_
   ·simp only[kR]
    rw[Qhq ⟨by omega,by omega⟩,lQm,Et v (by omega)]
    simp[gQe v]
   ·refine⟨?_,r++ [m[j]],m.eraseIdx j,rfl,e3.put (Qmq _) x.lt,by simp[K,B],?_,by simp,by simp[A],BG v hp⟩
    ·simp only[lQm]
     exact Nat.lt_trans (show r.length<6 by omega) (by decide)
    ·rw[pR w,rN]
  ·rintro f C i ⟨r,m,t,M,B,G,rfl,A,hp⟩
   have p:=hp.length_eq
   simp only[lQa,lQm] at p
   have P:six.length=6:=rfl
   refine⟨rfl,r,rfl,by omega,?_⟩
   refine Hg M x.lt (aK λ_ _=>rfl) λa b c=> ?_
   refine h _ _ ⟨m,(QJq m (fY r)).trans hp⟩ ?_ x.set y.set (by simp)
   rw[(fY r).length_eq,A]
   simp only[oE,lQm,QVq]
   omega
end W28
namespace DL
open PySem PySem.Spec L2
def gf{S:aA}{i j:Int}{Q:D->Prop}(q:Q (.bl (decide (i=j)))):Op (gC false S (.int i) (.int j)) Q:=⟨_,by simp[gC,uC,xq],q⟩
def ef{S:aA}{i j:Str}{Q:D->Prop}(q:Q (.bl (decide (i=j)))):Op (gC false S (.str i) (.str j)) Q:=⟨_,by simp[gC,uC,xq],q⟩
def d_{a:cp}{S:aA}{n:Nat}{g:oy}{ds:List D}{Q:cp->aA->Prop}(d:ds.length=n)(h:Iq g ds a S Q):Tg (jR (nG n g)) (.tup ds) a S Q:=by
 obtain⟨b,c,e,q⟩:=h
 exact⟨b,c,by show nG n g ds a S=_;unfold nG;rw[Qhq d];exact e,q⟩
def bg{a:cp}{S:aA}{Q:cp->aA->Prop}(q:Q a S):Iq dw [] a S Q:=⟨_,_,rfl,q⟩
def ax{b:cp}{S:aA}{f:jB}{g:oy}{d:D}{ds:List D}{Q:cp->aA->Prop}(h:Tg f d b S λa e=>Iq g ds a e Q):Iq (aF f g) (d::ds) b S Q:=by
 obtain⟨a,e,i,c,j,k,q⟩:=h
 exact⟨c,j,by show(f d b S).bind _=_;rw[i];exact k,q⟩
end DL
namespace W28
open PySem PySem.Spec L2 DL
def ops:List Str:= ["plus","minus","less","same","both"]
inductive Tr where
 |num (n:Nat)|word (x:Str)|waits (b:Str)|no (t:Tr)|two (o:Str) (a b:Tr)
def Tr.d:Tr->D
 |.num n=>.int n
 |.word x=>.str x
 |.waits b=>.tup [.str "waits",.str b]
 |.no t=>.tup [.str "not",t.d]
 |.two o a b=>.tup [.str o,a.d,b.d]
def Tr.Ok(ws bs:List Str):Tr->Prop
 |.num n=>n<=9
 |.word x=>x∈ws
 |.waits b=>b∈bs
 |.no t=>t.Ok ws bs
 |.two o a b=>o∈ops/\a.Ok ws bs/\b.Ok ws bs
def Tr.dep:Tr->Nat
 |.num _=>1
 |.word _=>1
 |.waits _=>1
 |.no t=>t.dep+1
 |.two _ a b=>max a.dep b.dep+1
theorem Tr.low:∀t:Tr,bB 0 t.d=true
 |.num _=>rfl
 |.word _=>rfl
 |.waits _=>rfl
 |.no t=>by simp only[Tr.d,bB,bh];rw[t.low];rfl
 |.two _ a b=>by simp only[Tr.d,bB,bh];rw[a.low,b.low];rfl
inductive Rw where
 |put (x:Str) (t:Tr)|unl (t:Tr) (n:Nat)|go (n:Nat)|do_ (g:Option Str) (r d:Str) (t:Tr)|wait (b:Str) (t:Tr)|call (b:Str)|all (b:Str)|tell (t:Tr)
 |take (p:Str)|give (p:Str)|pass (p q:Str)|say (t:Tr)
def EY:Option Str->D
 |none=>.non
 |some x=>.str x
def Rw.d:Rw->D
 |.put x t=>.tup [.str "put",.str x,t.d]
 |.unl t n=>.tup [.str "unless",t.d,.int n]
 |.go n=>.tup [.str "go",.int n]
 |.do_ g r d t=>.tup [.str "do",EY g,.str r,.str d,t.d]
 |.wait b t=>.tup [.str "wait",.str b,t.d]
 |.call b=>.tup [.str "call",.str b]
 |.all b=>.tup [.str "all",.str b]
 |.tell t=>.tup [.str "tell",t.d]
 |.take p=>.tup [.str "take",.str p]
 |.give p=>.tup [.str "give",.str p]
 |.pass p q=>.tup [.str "pass",.str p,.str q]
 |.say t=>.tup [.str "say",t.d]
structure Sc where
 own:Bool
 ws:List Str
 ps:List Str
 bs:List Str
 gs:List (Str×Str)
 ts:List Str
def E3(a:Sc)(t:Tr):Prop:=t.Ok a.ws a.bs/\t.dep<=4
def Rw.Ok(a:Sc)(n:Nat):Rw->Prop
 |.put x t=>x∈a.ps/\E3 a t
 |.unl t m=>E3 a t/\m<=n
 |.go m=>m<=n
 |.do_ g r d t=>(∀x,g=some x->x∈a.ps)/\(r,d)∈a.gs/\E3 a t
 |.wait b t=>a.own=false/\b∈a.bs/\E3 a t
 |.call b=>a.own=false/\b∈a.bs
 |.all b=>a.own=false/\b∈a.bs
 |.tell t=>a.own=false/\E3 a t
 |.take p=>a.own=true/\p∈a.ts
 |.give p=>a.own=true/\p∈a.ts
 |.pass p q=>a.own=true/\p∈a.ts/\q∈a.ts
 |.say t=>a.own=true/\E3 a t
theorem Rw.low(r:Rw):bB 0 r.d=true:=by
 cases r with
 |do_ g r d t=>cases g <;>simp only[Rw.d,bB,bh,EY,t.low,Bool.and_true,Bool.true_and]
 |_=>simp only[Rw.d,bB,bh,Tr.low,Bool.and_true,Bool.true_and]
def E9(b:Sc)(a:List Rw):Prop:=∀r∈a,r.Ok b a.length
end W28
namespace DL
open PySem PySem.Spec L2
def HW{b:cp}{S:aA}{f:aU}{g:dg}{Q:D->aA->Prop}(h:E f b S λx c=>∃k a,x=.ref k/\c[k]?=some (.lst a)/\E g b c λp S2=>∃ds,S2[k]?=some (.lst ds)/\(p.2.isM=true/\ds.length+p.1.length<=sizeLine)/\Q .non (S2.set k (.lst (ds++p.1)))):E (B7 f g) b S Q:=by
 obtain⟨x,c,d,k,a,rfl,h1,p,S2,e2,ds,h2,h3,q⟩:=h
 exact⟨_,_,by unfold B7;rw[d];simp only[Qbq,e2,h1,h2];rw[Qhq h3],q⟩
def qw{b:cp}{S:aA}{f g:aU}{Q:D->aA->Prop}(h:E f b S λd a=>∃k,d=.bl k/\if k=true then E g b a Q else Q (.bl false) a):E (uO f g) b S Q:=by
 obtain⟨d,a,c,k,rfl,q⟩:=h
 cases k with
 |true=>obtain⟨j,e,i,q⟩:=(q:E g b a Q);exact⟨j,e,by unfold uO;rw[c];exact i,q⟩
 |false=>exact⟨_,a,by unfold uO;rw[c];rfl,q⟩
def wZ{ds:List D}{y:D}{Q:List D×D->Prop}(h:ds.length<sizeLine)(q:Q (ds++ [y],.non)):Op (nZ ds [y]) Q:=⟨_,by simp only[nZ];rw[Qhq h],q⟩
end DL
namespace W28
open PySem PySem.Spec L2 DL
def ni:List Str:= ["given"]
end W28
namespace DL
open PySem PySem.Spec L2
def Jl{b a:cp}{d:D}(h:b.set 0 none=a.set 0 none):b.set 0 (some d)=a.set 0 (some d):=by
 have:=congrArg (λc:cp=>c.set 0 (some d)) h
 simpa using this
def Ft{g:cp}{S:aA}{js:List (Option Nat)}{f:dg}{e:aU}{Q:List D->aA->Prop}(F:D->D)(h:E f g S λp c=>p.2.stays c p.1/\p.1.length<=1000/\(∀d∈p.1,E e ((kg js g).set 0 (some d)) c λy S2=>y=F d/\S2=c)/\Q (p.1.map F) c):
  E (bP js (qm f) (bU 0) cA e) g S Q:=by
 refine hG (uU (h.mono λp c o=> ?_))
 obtain⟨l,u,m,q⟩:=o
 refine⟨λn a i b=>i=c/\b=(p.1.take n).map F/\a.set 0 none=(kg js g).set 0 none,⟨rfl,rfl,rfl⟩,λn a i b h=>by rw[h.1];exact l,λn d a i b j h=> ?_,λa i b h=> ?_⟩
 ·obtain⟨rfl,rfl,h3⟩:=h
  refine aR (qg ?_)
  rw[Qhq rfl,Jl h3]
  refine(m d (mQg j)).mono λy S2 r=> ?_
  obtain⟨k,s⟩:=r
  subst k s
  have t:=(gQs.mp j).1
  refine⟨?_,rfl,?_,by simp⟩
  ·rw[lQm,Qxq]
   exact aM (by omega)
  ·rw[QYq,j]
   simp
 ·obtain⟨rfl,rfl,_⟩:=h
  rw[QEq]
  exact q
end DL
namespace W28
open PySem PySem.Spec L2 DL
def nX(p:Str×Nat):D:=.tup [.str p.1,.int p.2]
def Ge(p:Str×Str):D:=.tup [.str p.1,.str p.2]
def sA(p:Str×List Rw):D:=.tup [.str p.1,.tup (p.2.map Rw.d)]
structure Rm where
 name:Str
 ah:Str
 ao:List (Str×Nat)
 aa:List (Str×Str)
 ae:List (Str×List Rw)
def Rm.d(r:Rm):D:=.tup [.str r.name,.str r.ah,.tup (r.ao.map nX),.tup (r.aa.map Ge),.tup (r.ae.map sA)]
structure GC(gs:List (Str×Str))(r:Rm):Prop where
 mn:r.ah="at once" \/r.ah="when free"
 tv:∀p∈r.ao,p.2<=9
 l1:r.ao.length<=6
 l2:r.aa.length<=6
 l3:r.ae.length<=6
 bv:∀p∈r.aa,p.2="row" \/p.2="turns"
 pr:∀p∈r.ae,E9 ⟨false,r.ao.map (·.1)++ni,r.ao.map (·.1),r.aa.map (·.1),gs,[]⟩ p.2/\p.2.length<=12
def Bm(p:Str×List Rw):bB 0 (sA p)=true:=by
 simp only[sA,bB,bh,Bool.and_true,Bool.true_and]
 exact aK λr _=>r.low
def Rm.low(r:Rm):bB 0 r.d=true:=by
 simp only[Rm.d,bB,bh,Bool.and_true,Bool.true_and,QCq]
 exact⟨aK λ_ _=>rfl,aK λ_ _=>rfl,aK λp _=>Bm p⟩
end W28
namespace DL
open PySem PySem.Spec L2
end DL
namespace W28
open PySem PySem.Spec L2 DL
end W28
namespace DL
open PySem PySem.Spec L2
end DL
namespace W28
open PySem PySem.Spec L2 DL
def eK(a:List Rm):List (Str×Str):=a.flatMap λr=>r.ae.map λp=>(r.name,p.1)
def fo(p:List (Str×Nat)×List Rw):D:=.tup [.tup (p.1.map nX),.tup (p.2.map Rw.d)]
structure cN where
 aj:List Rm
 ai:List (Str×Nat)
 ak:List (Str×Nat)
 af:List (List (Str×Nat)×List Rw)
def cN.d(w:cN):D:=.tup [.tup (w.aj.map Rm.d),.tup (w.ai.map nX),.tup (w.ak.map nX),.tup (w.af.map fo)]
structure FX(gs:List (Str×Str))(ak ai:List Str)(h:List (Str×Nat)×List Rw):Prop where
 tv:∀p∈h.1,p.2<=9
 l1:h.1.length<=6
 l2:h.2.length<=12
 l0:0<h.2.length
 pr:E9 ⟨true,h.1.map (·.1)++ak,h.1.map (·.1)++ak,[],gs,ai⟩ h.2
structure iL(w:cN):Prop where
 nd:(w.aj.map (·.name)).Nodup
 l1:w.aj.length<=3
 l2:w.ai.length<=6
 l3:w.ak.length<=6
 l4:w.af.length<=4
 l0:0<w.af.length
 pv:∀p∈w.ai,p.2<=9
 sv:∀p∈w.ak,p.2<=9
 rm:∀r∈w.aj,GC (eK w.aj) r
 hd:∀h∈w.af,FX (eK w.aj) (w.ak.map (·.1)) (w.ai.map (·.1)) h
def AR(p:List (Str×Nat)×List Rw):bB 0 (fo p)=true:=by
 simp only[fo,bB,bh,Bool.and_true,Bool.true_and,QCq]
 exact⟨aK λ_ _=>rfl,aK λr _=>r.low⟩
def cN.low(w:cN):bB 0 w.d=true:=by
 simp only[cN.d,bB,bh,Bool.and_true,Bool.true_and,QCq]
 exact⟨aK λr _=>r.low,aK λ_ _=>rfl,aK λ_ _=>rfl,aK λp _=>AR p⟩
end W28
namespace DL
open PySem PySem.Spec L2
def EL{k:cp}{S:aA}{js:List (Option Nat)}{f:dg}{g:jB}{i:aU}{Q:List D->aA->Prop}(P:cp->Prop)(F:D->D)(v:P (kg js k)) (h:E f k S λp e=>p.2.stays e p.1/\p.1.length<=1000∧
   (∀d∈p.1,∀a,P a->Tg g d a e λb S2=>S2=e/\P b/\E i b e λy m=>y=F d/\m=e)/\Q (p.1.map F) e):E (bP js (qm f) g cA i) k S Q:=by
 refine hG (uU (h.mono λp e t=> ?_))
 obtain⟨r,A,s,q⟩:=t
 refine⟨λn a j c=>j=e/\c=(p.1.take n).map F/\P a,⟨rfl,rfl,v⟩,λn a j c h=>by rw[h.1];exact r,λn d a j c l h=> ?_,λa j c h=> ?_⟩
 ·obtain⟨rfl,rfl,h3⟩:=h
  obtain⟨b,S2,o,rfl,h4,h5⟩:=s d (mQg l) a h3
  refine⟨b,S2,o,qg ?_⟩
  rw[Qhq rfl]
  refine h5.mono λy m u=> ?_
  obtain⟨x,w⟩:=u
  subst x w
  have z:=(gQs.mp l).1
  refine⟨?_,rfl,?_,h4⟩
  ·rw[lQm,Qxq]
   exact aM (by omega)
  ·rw[QYq,l]
   simp
 ·obtain⟨rfl,rfl,_⟩:=h
  rw[QEq]
  exact q
def kP{α:Type}{o:cp}{S:aA}{js:List (Option Nat)}{f:dg}{g:jB}{k:aU}{Q:List D->aA->Prop}(P:cp->Prop)(enc G:α->D)(A:P (kg js o)) (h:E f o S λp i=>∃xs:List α,p.1=xs.map enc/\p.2.stays i p.1/\xs.length<=1000∧
   (∀x∈xs,∀a,P a->Tg g (enc x) a i λb S2=>S2=i/\P b/\E k b i λy r=>y=G x/\r=i)/\Q (xs.map G) i):E (bP js (qm f) g cA k) o S Q:=by
 refine hG (uU (h.mono λp i w=> ?_))
 obtain⟨xs,s,u,H,v,q⟩:=w
 refine⟨λn a l c=>l=i/\c=(xs.take n).map G/\P a,⟨rfl,rfl,A⟩,λn a l c h=>by rw[h.1];exact u,λn d a l c m h=> ?_,λa l c h=> ?_⟩
 ·obtain⟨rfl,rfl,h3⟩:=h
  have m:p.1[n]?=some d:=m
  rw[s,gQm] at m
  obtain⟨x,j,rfl⟩:=oQm.mp m
  obtain⟨b,S2,t,rfl,h4,h5⟩:=v x (mQg j) a h3
  refine⟨b,S2,t,qg ?_⟩
  rw[Qhq rfl]
  refine h5.mono λy r z=> ?_
  obtain⟨C,B⟩:=z
  subst C B
  have F:=(gQs.mp j).1
  refine⟨?_,rfl,?_,h4⟩
  ·rw[lQm,Qxq]
   exact aM (by omega)
  ·rw[QYq,j]
   simp
 ·obtain⟨rfl,rfl,_⟩:=h
  have e:p.1.length=xs.length:=by rw[s,lQm]
  show Q ((xs.take p.1.length).map G) _
  rw[e,QEq]
  exact q
def bH{S:aA}{d:D}{Q:Res->aA->Prop}(hd:∀k,d≠.ref k)(a:bB 0 d=true)(q:Q (.d d) S):Op (settle S d S) λp=>Q p.1 p.2:=eD kK (QEq) hd (eX a) q
def Cu{S:aA}{ds:List D}{Q:Res->aA->Prop}(a:bh 0 ds=true)(q:Q (.l ds) S):Op (dj S ds S) λp=>Q p.1 p.2:=km kK (QEq) (gR a) q
end DL
namespace W28
open PySem PySem.Spec L2 DL
structure bN where
 room:Int
 deed:Int
 row:Int
 given:Int
 told:Int
structure dW where
 vals:List Int
 within:Int
 row:List Int
 ag:List Int
 aa:List (List (Int×Int))
structure aP where
 aj:List dW
 ai:List (Int×List Int)
 ak:List Int
 af:List (List Int×List bN)
def cb(l:List Int):D:=.tup (l.map D.int)
def bN.d(f:bN):D:=.tup [.int f.room,.int f.deed,.int f.row,.int f.given,.int f.told]
def pairD(p:Int×Int):D:=.tup [.int p.1,.int p.2]
def dk(l:List (Int×Int)):D:=.tup (l.map pairD)
def dW.d(r:dW):D:=.tup [cb r.vals,.int r.within,cb r.row,cb r.ag,.tup (r.aa.map dk)]
def sm(p:Int×List Int):D:=.tup [.int p.1,cb p.2]
def wL(h:List Int×List bN):D:=.tup [cb h.1,.tup (h.2.map bN.d)]
def aP.d(s:aP):D:=.tup [.tup (s.aj.map dW.d),.tup (s.ai.map sm),cb s.ak,.tup (s.af.map wL)]
def jh(l:List Int):bB 0 (cb l)=true:=by simp only[cb,bB];exact aK λ_ _=>rfl
def p7(l:List (Int×Int)):bB 0 (dk l)=true:=by simp only[dk,bB];exact aK λ_ _=>rfl
def dW.low(r:dW):bB 0 r.d=true:=by
 simp only[dW.d,bB,bh,jh,Bool.and_true,Bool.true_and]
 exact aK λl _=>p7 l
def xZ(p:Int×List Int):bB 0 (sm p)=true:=by simp only[sm,bB,bh,jh,Bool.and_true]
def yg(h:List Int×List bN):bB 0 (wL h)=true:=by
 simp only[wL,bB,bh,jh,Bool.and_true,Bool.true_and]
 exact aK λ_ _=>rfl
def aP.low(s:aP):bB 0 s.d=true:=by
 simp only[aP.d,bB,bh,jh,Bool.and_true,Bool.true_and,QCq]
 exact⟨aK λr _=>r.low,aK λp _=>xZ p,aK λh _=>yg h⟩
def dy(ts:List (Str×Nat)):List Int:=ts.map λp=>(p.2:Int)
def di(r:Rm):dW:=⟨dy r.ao,-1,[],[],r.aa.map λ_=> []⟩
def z3:bN:=⟨-1,-1,0,0,0⟩
def cR(w:cN):aP:=⟨w.aj.map di,w.ai.map λp=>((p.2:Int),[]),dy w.ak,w.af.map λh=>(dy h.1,[z3])⟩
section
variable{S:aA}{Q:Res->aA->Prop}
def ia{ts:List (Str×Nat)}(l:ts.length<=1000)(h:Q (.d (cb (dy ts))) S):Fn eG [.tup (ts.map nX)] S Q:=by
 refine bq ?_
 unfold kN
 symm
 apply EL (λc=>∃a b,c= [a,b]) (λd=>match d with|.tup [_,v]=>v|d=>d) ⟨none,none,rfl⟩ ?_
 refine⟨trivial,by simpa using l,λd g c f=> ?_,?_⟩
 ·obtain⟨p,_,rfl⟩:=Qkq.mp g
  obtain⟨a,b,rfl⟩:=f
  refine d_ rfl (ax (aR (ax (aR (bg ?_)))))
  apply⟨rfl,⟨_,_,rfl⟩,?_⟩
  exact⟨rfl,rfl⟩
 ·have e:(ts.map nX).map (λd=>match d with|.tup [_,v]=>v|d=>d)=(dy ts).map D.int:=by
   simp only[dy,QPq]
   rfl
  rw[e]
  exact bH (d:=cb (dy ts)) (λk z=>(nomatch z)) (jh _) h
def qK{r:Rm}(b:r.ao.length<=6)(a:r.aa.length<=6)(h:Q (.d (di r).d) S):Fn gk [r.d] S Q:=by
 refine bq ?_
 unfold i6
 symm
 apply d_ rfl (ax (aR (ax (aR (ax (aR (ax (aR (ax (aR (bg ?_)))))))))))
 apply ia (by omega) ?_
 apply⟨by decide,?_⟩
 apply⟨by decide,?_⟩
 apply Ft (λ_=>.tup []) ?_
 refine⟨trivial,by simp;omega,λd c=> ?_,?_⟩
 ·symm
  exact⟨by decide,rfl,rfl⟩
 ·symm
  refine⟨by show 5<=_;decide,?_⟩
  have e:D.tup ((r.aa.map Ge).map λ_=>D.tup [])=D.tup ((di r).aa.map dk):=by
   simp only[di,QPq]
   rfl
  rw[e]
  exact bH (d:=(di r).d) (λk z=>(nomatch z)) (dW.low _) h
def Cj{w:cN}(o:iL w)(h:Q (.d (cR w).d) S):Fn tX [w.d] S Q:=by
 refine bq ?_
 unfold yf
 symm
 apply d_ rfl (ax (aR (ax (aR (ax (aR (ax (aR (bg ?_)))))))))
 apply⟨by decide,?_⟩
 have q:=o.l1
 have n:=o.l2
 have l:=o.l3
 have m:=o.l4
 apply kP (α:=Rm) (λc=>∃a,c= [a]) Rm.d (λr=>(di r).d) ⟨none,rfl⟩ ?_
 refine⟨w.aj,rfl,trivial,by omega,λr f c e=> ?_,?_⟩
 ·obtain⟨a,rfl⟩:=e
  apply aR ⟨rfl,⟨_,rfl⟩,?_⟩
  exact qK (o.rm r f).l1 (o.rm r f).l2 ⟨rfl,rfl⟩
 symm
 apply kP (α:=Str×Nat) (λc=>∃a b,c= [a,b]) nX (λp=>sm ((p.2:Int),[])) ⟨none,none,rfl⟩ ?_
 refine⟨w.ai,rfl,trivial,by omega,λr f c e=> ?_,?_⟩
 ·obtain⟨a,b,rfl⟩:=e
  refine d_ rfl (ax (aR (ax (aR (bg ?_)))))
  apply⟨rfl,⟨_,_,rfl⟩,?_⟩
  apply⟨by decide,?_⟩
  exact⟨by show 2<=_;decide,rfl,rfl⟩
 symm
 apply ia (by omega) ?_
 apply kP (α:=List (Str×Nat)×List Rw) (λc=>∃a b,c= [a,b,some z3.d]) fo (λh=>wL (dy h.1,[z3])) ⟨none,none,rfl⟩ ?_
 refine⟨w.af,rfl,trivial,by omega,λr f c e=> ?_,?_⟩
 ·obtain⟨a,b,rfl⟩:=e
  refine d_ rfl (ax (aR (ax (aR (bg ?_)))))
  apply⟨rfl,⟨_,_,rfl⟩,?_⟩
  refine ia (by have:=(o.hd r f).l1;omega) ?_
  symm
  refine⟨by show 1<=_;decide,?_⟩
  symm
  exact⟨by show 2<=_;decide,rfl,rfl⟩
 symm
 refine⟨by show 4<=_;decide,?_⟩
 have g:w.aj.map (λr=>(di r).d)=(cR w).aj.map dW.d:=by simp only[cR,QPq];rfl
 have j:w.ai.map (λp=>sm ((p.2:Int),[]))=(cR w).ai.map sm:=by simp only[cR,QPq];rfl
 have i:w.af.map (λh=>wL (dy h.1,[z3]))=(cR w).af.map wL:=by simp only[cR,QPq];rfl
 rw[g,j,i]
 exact bH (d:=(cR w).d) (λk z=>(nomatch z)) (aP.low _) h
end
end W28
namespace DL
open PySem PySem.Spec L2
section
variable{Γ:cp}{S:aA}
def jX{f:aU}{Q:D->aA->Prop}(h:E f Γ S λd a=>∃i,d=.int i/\Q (.int (-i)) a):E (kY f) Γ S Q:=by
 obtain⟨d,a,b,i,rfl,q⟩:=h
 exact⟨_,a,by unfold kY;rw[b];rfl,q⟩
def b9{Q:Option Int->aA->Prop}(q:Q none S):E qF Γ S Q:=⟨_,_,rfl,q⟩
def b_{f:aU}{Q:Option Int->aA->Prop}(h:E f Γ S λd a=>∃i,d=.int i/\Q (some i) a):E (p5 f) Γ S Q:=by
 obtain⟨d,a,b,i,rfl,q⟩:=h
 exact⟨_,a,by unfold p5;rw[b];rfl,q⟩
def iP{f:aU}{lo hi:Gj}{Q:D->aA->Prop}(h:E f Γ S λd b=>E lo Γ b λl S2=>E hi Γ S2 λu a=>∃ds,d=.tup ds/\Q (.tup (hZ ds l u)) a):E (pU f lo hi) Γ S Q:=by
 obtain⟨d,b,c,l,S2,e,u,a,g,ds,rfl,q⟩:=h
 exact⟨_,a,by unfold pU;rw[c];simp only[Qbq];rw[e];simp only[Qbq];rw[g];rfl,q⟩
def GM{i j:Nat}{f:fD}{Q:Out->Prop}(h:E f Γ S λds c=>∃a b,ds= [a,b]/\Q (.nx ((Γ.set i (some a)).set j (some b)) c)):T (CV i j f) Γ S Q:=by
 obtain⟨ds,c,d,a,b,rfl,q⟩:=h
 exact⟨_,by unfold CV;rw[d];rfl,q⟩
end
def AZ{α:Type}{xs:List α}{i:Nat}(h:i<=xs.length):hZ xs none (some (i:Int))=xs.take i:=by
 unfold hZ
 rw[HT.o7,HT.zq,Nat.min_eq_left h]
 simp
def gK{α:Type}{xs:List α}{i:Nat}(h:i<=xs.length):hZ xs (some (i:Int)) none=xs.drop i:=by
 unfold hZ
 rw[HT.o7,HT.zq,Nat.min_eq_left h]
 rw[List.take_of_length_le]
 simp
def uR{α:Type}{xs:List α}(h:0<xs.length):hZ xs none (some (-1))=xs.dropLast:=by
 unfold hZ
 rw[HT.o7]
 show(xs.drop 0).take (HT.dB xs.length xs.length (some (-1))-0)=_
 rw[show HT.dB xs.length xs.length (some (-1))=xs.length-1 by simp only[HT.dB];rw[Qhq (by omega)];omega]
 simp[List.dropLast_eq_take]
def wu{α:Type}{xs:List α}{x:α}(h:xs.getLast? =some x):lW xs (-1)=some x:=by
 have c:0<xs.length:=by
  cases xs with
  |nil=>cases h
  |cons a b=>simp
 unfold lW yu
 rw[Quq (by omega),Qhq (by omega)]
 rw[List.getLast?_eq_getElem?] at h
 simp only[Qbq]
 rw[show((-1:Int)+(xs.length:Int)).toNat=xs.length-1 by omega]
 exact h
end DL
namespace W28
open PySem PySem.Spec L2 DL
section
variable{S:aA}{Q:Res->aA->Prop}
def bp{s:aP}{h:Nat}{vs:List Int}{fs:List bN}{f:bN}(b:s.af[h]?=some (vs,fs))(a:fs.getLast? =some f)(q:Q (.d f.d) S):Fn bQ [s.d,.int h] S Q:=by
 refine bq ?_
 unfold jb
 symm
 apply ar rfl ?_
 refine ar (d:=wL (vs,fs)) (aI (by rw[gQm,b];rfl)) ?_
 symm
 refine ar rfl ?_
 apply jX ?_
 refine⟨1,rfl,?_⟩
 refine ar (d:=f.d) (wu (by rw[QfQ,a];rfl)) ?_
 exact bH (λk z=>(nomatch z)) rfl q
def progOf(w:cN)(h:Nat)(f:bN):Option (List Rw):=
 if f.room= -1 then(w.af[h]?).map (·.2) else if 0<=f.room/\0<=f.deed then(w.aj[f.room.toNat]?).bind λr=>(r.ae[f.deed.toNat]?).map (·.2) else none
def jz{α:Type}{xs:List α}{i:Int}{x:α}(a:0<=i)(h:xs[i.toNat]?=some x):lW xs i=some x:=by
 obtain⟨n,rfl⟩:∃n:Nat,i=n:=⟨i.toNat,by omega⟩
 exact aI (by simpa using h)
def wJ(a:List Rw):bB 0 (.tup (a.map Rw.d))=true:=by simp only[bB];exact aK λr _=>r.low
def eO{w:cN}{h:Nat}{f:bN}{pr:List Rw}(a:progOf w h f=some pr)(q:Q (.d (.tup (pr.map Rw.d))) S):Fn dH [w.d,.int h,f.d] S Q:=by
 refine bq ?_
 unfold nB
 apply bA (GM ?_)
 apply ar rfl ?_
 apply ar rfl ?_
 apply⟨_,_,rfl,?_⟩
 refine gf ?_
 dsimp only
 unfold progOf at a
 by_cases c:f.room= -1
 ·rw[Qhq c] at a
  obtain⟨i,b,rfl⟩:=oQm.mp a
  rw[Qeq c,Qhq rfl]
  symm
  apply ar rfl ?_
  refine ar (d:=fo i) (aI (by rw[gQm,b];rfl)) ?_
  symm
  refine ar rfl ?_
  exact bH (λk z=>(nomatch z)) (wJ _) q
 ·rw[Quq c] at a
  split at a
  ·rename_i e
   obtain⟨r,b,a⟩:=aq a
   obtain⟨j,g,rfl⟩:=oQm.mp a
   rw[Qdq c,Quq (by decide)]
   symm
   apply ar rfl ?_
   refine ar (d:=r.d) (jz e.1 (by rw[gQm,b];rfl)) ?_
   symm
   apply ar rfl ?_
   refine ar (d:=sA j) (jz e.2 (by rw[gQm,g];rfl)) ?_
   symm
   refine ar rfl ?_
   exact bH (λk z=>(nomatch z)) (wJ _) q
  ·cases a
def cT{xs:List D}{i:Nat}{d:D}(hi:i<xs.length)(m:xs.length<=900)(j:bh 0 xs=true)(f:bB 0 d=true)(q:Q (.d (.tup (xs.set i d))) S):Fn cu [.tup xs,.int i,d] S Q:=by
 refine bq ?_
 unfold kA
 symm
 apply iP ?_
 apply b9 (b_ ?_)
 apply⟨_,rfl,_,rfl,?_⟩
 refine⟨by show 1<=_;decide,?_⟩
 rw[AZ (by omega)]
 refine cY (by simp only[Qxq,Qnq,QGq];exact nQl (aM (by omega))) ?_
 apply iP ?_
 apply b_ ?_
 refine⟨_,rfl,b9 ⟨_,rfl,?_⟩⟩
 rw[show((i:Int)+1)=((i+1:Nat):Int) by omega,gK (by omega)]
 refine cY (by simp only[lQa,Qxq,List.length_drop,Qnq,QGq];exact nQl (aM (by omega))) ?_
 have e:xs.take i++ [d]++xs.drop (i+1)=xs.set i d:=by
  rw[List.set_eq_take_append_cons_drop,Qhq hi]
  simp
 rw[e]
 refine bH (λk z=>(nomatch z)) ?_ q
 simp only[bB]
 refine oH λz b=> ?_
 rcases QTq b with b|rfl
 ·have c:∀l:List D,bh 0 l=true->∀z∈l,bB 0 z=true:=by
   intro l
   induction l with
   |nil=>intro _ z b;cases b
   | cons a l g=>
     intro h z b
     simp only[bh,QCq] at h
     rcases Qsq.mp b with rfl|b
     · exact h.1
     · exact g h.2 z b
  exact c xs j z b
 ·exact f
end
section
variable{S:aA}{Q:Res->aA->Prop}
def map_set{α b:Type}(f:α->b)(l:List α)(i:Nat)(a:α):(l.set i a).map f=(l.map f).set i (f a):=by
 rw[List.map_set]
def aG(s:aP):∀k,s.d≠.ref k:=λk z=>(nomatch z)
def cj{s:aP}{i:Nat}{r:dW}(hi:i<s.aj.length)(a:s.aj.length<=900)(q:Q (.d ({s with aj:=s.aj.set i r}:aP).d) S):Fn bW [s.d,.int i,r.d] S Q:=by
 refine bq ?_
 unfold kU
 symm
 apply ar rfl ?_
 apply cT (by simpa using hi) (by simpa using a) (aK λr _=>r.low) r.low ?_
 refine⟨by show 1<=_;decide,?_⟩
 apply iP ?_
 apply b_ ?_
 refine⟨_,rfl,b9 ⟨_,rfl,?_⟩⟩
 refine cY (by show 4<=_;decide) ?_
 refine bH (d:=({s with aj:=s.aj.set i r}:aP).d) (aG _) (aP.low _) q|>λz=> ?_
 rw[←map_set]
 exact z
def fw{s:aP}{i:Nat}{p:Int×List Int}(hi:i<s.ai.length)(a:s.ai.length<=900)(q:Q (.d ({s with ai:=s.ai.set i p}:aP).d) S):Fn dG [s.d,.int i,sm p] S Q:=by
 refine bq ?_
 unfold kj
 symm
 apply ar rfl ?_
 apply ar rfl ?_
 apply cT (by simpa using hi) (by simpa using a) (aK λr _=>xZ r) (xZ p) ?_
 refine⟨by show 2<=_;decide,?_⟩
 apply iP ?_
 apply b_ ?_
 refine⟨_,rfl,b9 ⟨_,rfl,?_⟩⟩
 refine cY (by show 4<=_;decide) ?_
 refine bH (d:=({s with ai:=s.ai.set i p}:aP).d) (aG _) (aP.low _) q|>λz=> ?_
 rw[←map_set]
 exact z
def fA{s:aP}{i:Nat}{vs:List Int}{fs:List bN}(hi:i<s.af.length)(a:s.af.length<=900)(q:Q (.d ({s with af:=s.af.set i (vs,fs)}:aP).d) S):Fn dF [s.d,.int i,cb vs,.tup (fs.map bN.d)] S Q:=by
 refine bq ?_
 unfold kC
 apply nI (rp (iP ?_))
 apply b9 (b_ ?_)
 apply⟨_,rfl,_,rfl,?_⟩
 apply ar rfl ?_
 refine⟨by show 2<=_;decide,?_⟩
 symm
 apply cT (d:=wL (vs,fs)) (by simpa using hi) (by simpa using a) (aK λr _=>yg r) (yg (vs,fs)) ?_
 refine⟨by show 1<=_;decide,?_⟩
 refine cY (by show 4<=_;decide) ?_
 refine bH (d:=({s with af:=s.af.set i (vs,fs)}:aP).d) (aG _) (aP.low _) q|>λz=> ?_
 rw[←map_set]
 exact z
def fQ{s:aP}{h:Nat}{vs:List Int}{fs:List bN}{f:bN}(a:s.af[h]?=some (vs,fs))(b:0<fs.length)(g:fs.length<=900)(c:s.af.length<=900)(q:Q (.d ({s with af:=s.af.set h (vs,fs.dropLast++ [f])}:aP).d) S):Fn cD [s.d,.int h,f.d] S Q:=by
 refine bq ?_
 unfold eA
 symm
 apply ar rfl ?_
 refine ar (d:=wL (vs,fs)) (aI (by rw[gQm,a];rfl)) ?_
 apply d_ rfl (ax (aR (ax (aR (bg ?_)))))
 apply iP ?_
 apply b9 (b_ (jX ?_))
 apply⟨1,rfl,_,rfl,_,rfl,?_⟩
 refine⟨by show 1<=_;decide,?_⟩
 rw[uR (by simpa using b)]
 refine cY (by simp only[List.length_dropLast,lQm,Qnq,QGq];exact nQl (aM (by omega))) ?_
 symm
 have e:(fs.map bN.d).dropLast++ [f.d]=(fs.dropLast++ [f]).map bN.d:=by rw[Qzq,List.map_dropLast];rfl
 rw[e]
 refine fA (gQs.mp a).1 c ?_
 exact bH (aG _) (aP.low _) q
def mQ{s:aP}{h:Nat}{vs:List Int}{fs:List bN}{f:bN}{n:Int}(e:s.af[h]?=some (vs,fs))(c:fs.getLast? =some f)(j:fs.length<=900)(i:s.af.length<=900)(q:Q (.d ({s with af:=s.af.set h (vs,fs.dropLast++ [{f with row:=n}])}:aP).d) S):Fn iy [s.d,.int h,.int n] S Q:=by
 refine bq ?_
 unfold uE
 symm
 apply bp e c ?_
 apply iP ?_
 apply b9 (b_ ?_)
 apply⟨_,rfl,_,rfl,?_⟩
 refine⟨by show 1<=_;decide,?_⟩
 refine cY (by show 3<=_;decide) ?_
 apply iP ?_
 apply b_ ?_
 refine⟨_,rfl,b9 ⟨_,rfl,?_⟩⟩
 refine cY (by show 5<=_;decide) ?_
 symm
 have g:0<fs.length:=by
  cases fs with
  |nil=>cases c
  |cons a b=>simp
 refine fQ (f:={f with row:=n}) e g j i ?_
 exact bH (aG _) (aP.low _) q
def jr(r:dW)(h:Int):dW:=if r.within= -1 then{r with within:=h} else{r with row:=r.row++ [h]}
def dm(r:dW):dW:=match r.ag,r.row with
 |a::l,_=>{r with within:=a,ag:=l}
 | [],a::l=>{r with within:=a,row:=l}
 | [],[]=>{r with within:= -1}
def qe{s:aP}{i:Nat}{h:Int}{r:dW}(b:s.aj[i]?=some r)(a:s.aj.length<=900)(lr:r.row.length<=900)(q:Q (.d ({s with aj:=s.aj.set i (jr r h)}:aP).d) S):Fn iS [s.d,.int i,.int h] S Q:=by
 have f:=(gQs.mp b).1
 refine bq ?_
 unfold pq
 symm
 apply ar rfl ?_
 refine ar (d:=r.d) (aI (by rw[gQm,b];rfl)) ?_
 apply d_ rfl (ax (aR (ax (aR (ax (aR (ax (aR (ax (aR (bg ?_)))))))))))
 refine gf ?_
 dsimp only
 unfold jr at q
 by_cases c:r.within= -1
 ·rw[Qhq c] at q
  rw[Qeq c,Qhq rfl]
  symm
  refine⟨by show 5<=_;decide,?_⟩
  symm
  refine cj (r:={r with within:=h}) f a ?_
  exact bH (aG _) (aP.low _) q
 ·rw[Quq c] at q
  rw[Qdq c,Quq (by decide)]
  symm
  refine⟨by show 1<=_;decide,?_⟩
  refine cY (by simp only[lQm,Qnq,QGq];exact nQl (aM (by omega))) ?_
  symm
  refine⟨by show 5<=_;decide,?_⟩
  symm
  have e:D.tup (r.row.map D.int++ [D.int h])=cb (r.row++ [h]):=by simp[cb]
  rw[e]
  refine cj (r:={r with row:=r.row++ [h]}) f a ?_
  exact bH (aG _) (aP.low _) q
end
section
variable{S:aA}{Q:Res->aA->Prop}
def B6{α:Type}{a:α}{l:List α}:lW (a::l) 0=some a:=aI (j:=0) rfl
def tR{S:aA}{ds:List D}{Q:Bool->Prop}(q:Q (!ds.isEmpty)):Op (xV S (.tup ds)) Q:=⟨_,rfl,q⟩
def uN{s:aP}{i:Nat}{r:dW}(m:s.aj[i]?=some r)(j:s.aj.length<=900)(q:Q (.d ({s with aj:=s.aj.set i (dm r)}:aP).d) S):Fn mJ [s.d,.int i] S Q:=by
 have k:=(gQs.mp m).1
 refine bq ?_
 unfold yj
 symm
 apply ar rfl ?_
 refine ar (d:=r.d) (aI (by rw[gQm,m];rfl)) ?_
 refine d_ rfl (ax (aR (ax (aR (ax (aR (ax (aR (ax (aR (bg ?_)))))))))))
 obtain⟨b,g,f,n,h⟩:=r
 symm
 refine tR ?_
 cases n with
 | cons a l=>
   apply aN (λ_=> ?_) (λc=>by cases c)
   apply ar (d:=.int a) B6 ?_
   apply iP ?_
   apply b_ ?_
   apply⟨_,rfl,b9 ⟨_,rfl,?_⟩⟩
   refine⟨by show 5<=_;decide,?_⟩
   symm
   have e:D.tup (hZ ((a::l).map D.int) (some 1) none)=cb l:=by
     rw[show(some (1:Int))=some ((1:Nat):Int) from rfl,gK (by simp)]
     rfl
   rw[e]
   refine cj (r:=⟨b,a,f,l,h⟩) k j ?_
   exact bH (aG _) (aP.low _) q
 | nil=>
   refine aN (λc=>by cases c) (λ_=> ?_)
   apply bM ?_
   refine tR ?_
   cases f with
   | cons a l=>
     apply aN (λ_=> ?_) (λc=>by cases c)
     apply ar (d:=.int a) B6 ?_
     apply iP ?_
     apply b_ ?_
     apply⟨_,rfl,b9 ⟨_,rfl,?_⟩⟩
     refine⟨by show 5<=_;decide,?_⟩
     symm
     have e:D.tup (hZ ((a::l).map D.int) (some 1) none)=cb l:=by
       rw[show(some (1:Int))=some ((1:Nat):Int) from rfl,gK (by simp)]
       rfl
     rw[e]
     refine cj (r:=⟨b,a,l,[],h⟩) k j ?_
     exact bH (aG _) (aP.low _) q
   | nil=>
     refine aN (λc=>by cases c) (λ_=> ?_)
     apply bM ?_
     refine⟨by show 5<=_;decide,?_⟩
     symm
     refine cj (r:=⟨b,-1,[],[],h⟩) k j ?_
     exact bH (aG _) (aP.low _) q
def dQ{α:Type}{enc:α->D}{nm:α->Str}{xs:List α}(he:∀a,∃r,enc a=.tup (.str (nm a)::r))(d:xs.length<=1000)(q:Q (.l ((xs.map nm).map D.str)) S):Fn cW [.tup (xs.map enc)] S Q:=by
 refine bq ?_
 unfold nh
 symm
 apply kP (α:=α) (λb=>∃a,b= [a]) enc (λa=>.str (nm a)) ⟨none,rfl⟩ ?_
 refine⟨xs,rfl,trivial,d,λr f b c=> ?_,?_⟩
 ·obtain⟨a,rfl⟩:=c
  refine aR ⟨rfl,⟨_,rfl⟩,?_⟩
  obtain⟨g,e⟩:=he r
  rw[e]
  symm
  exact ar B6 ⟨rfl,rfl⟩
 ·have e:xs.map (λa=>D.str (nm a))=(xs.map nm).map D.str:=by rw[QPq];rfl
  rw[e]
  exact Cu (aK λ_ _=>rfl) q
theorem cP:∀a:List Str,gI (a.map D.str)=some (a.map V.str)
 | []=>rfl
 |s::a=>by simp only[QDq,gI,uC,Qbq];rw[cP a];rfl
theorem tZ{x:Str}:∀{ns:List Str},x∈ns->∃j,lH (.str x) (ns.map V.str)=some j/\ns[j]?=some x
 | [],h=>by cases h
 | n::ns,h=>by
   by_cases c:n=x
   · subst c
     exact⟨0,by simp[lH,oz],rfl⟩
   · obtain⟨j,b,a⟩:=tZ (ns:=ns) ((Qsq.mp h).resolve_left (Ne.symm c))
     exact⟨j+1,by simp only[QDq,lH];rw[b];simp[oz,c],by simpa using a⟩
end
end W28
namespace DL
open PySem PySem.Spec L2
section
variable{Γ:cp}{S:aA}
def pQ{T:String}{f:aU}{Q:D->aA->Prop}(h:E f Γ S λd a=>Op (DH a T d) λk=>Q (.bl k) a):E (mz T f) Γ S Q:=by
 obtain⟨d,a,b,k,c,q⟩:=h
 exact⟨_,a,by unfold mz;rw[b];simp only[Qbq];rw[c];rfl,q⟩
def sS{b:Bool}{Q:Bool->Prop}(q:Q b):Op (xV S (.bl b)) Q:=⟨_,rfl,q⟩
def GD{f g:aU}{Q:D->aA->Prop}(h:E f Γ S λx b=>E g Γ b λy S2=>∃k a z v,x=.ref k/\y=.str z/\S2[k]?=some (.dct a)/\iM a (.inr z)=some v/\Q v S2):E (Gy f g) Γ S Q:=by
 obtain⟨x,b,c,y,S2,d,k,a,z,v,rfl,rfl,h1,h2,q⟩:=h
 exact⟨v,S2,by unfold Gy;rw[c];simp only[Qbq];rw[d];simp only[Qbq,h1,kc,h2],q⟩
def jV{i j:Int}{Q:D->Prop}(q:Q (.bl (!decide (i=j)))):Op (gC true S (.int i) (.int j)) Q:=⟨_,by simp[gC,uC,xq],q⟩
def A2{i j:Int}{Q:D->Prop}(q:Q (.int (if j<i then j else i))):Op (minD [.int i,.int j]) Q:=⟨_,rfl,q⟩
def Ee{i j:Int}{Q:D->Prop}(q:Q (.int (if j>i then j else i))):Op (maxD [.int i,.int j]) Q:=⟨_,rfl,q⟩
end
end DL
namespace W28
open PySem PySem.Spec L2 DL
def Gh(o:Str)(a b:Int):Int:=
 if o="plus" then(if 9<a+b then 9 else a+b) else if o="minus" then(if 0>a-b then 0 else a-b) else if o="less" then(if a<b then 1 else 0)
 else if o="same" then(if a=b then 1 else 0) else(if a≠0/\b≠0 then 1 else 0)
def uK(th wt:Str->Int):Tr->Int
 |.num n=>n
 |.word x=>th x
 |.waits b=>if 0<wt b then 1 else 0
 |.no t=>if uK th wt t=0 then 1 else 0
 |.two o a b=>Gh o (uK th wt a) (uK th wt b)
def zO{o:Str}{a b:Int}(d:0<=a/\a<=9)(c:0<=b/\b<=9):0<=Gh o a b/\Gh o a b<=9:=by
 unfold Gh
 repeat' split
 all_goals omega
theorem jK{th wt:Str->Int}{ws bs:List Str}(h:∀x∈ws,0<=th x/\th x<=9):∀{t:Tr},t.Ok ws bs->0<=uK th wt t/\uK th wt t<=9
 |.num n,ho=>by have:n<=9:=ho;simp only[uK];omega
 |.word x,ho=>h x ho
 |.waits b,_=>by simp only[uK];split <;>omega
 |.no t,_=>by simp only[uK];split <;>omega
 |.two o a b,ho=>zO (jK h ho.2.1) (jK h ho.2.2)
section
variable{S:aA}{Q:Res->aA->Prop}
def cC{S:aA}{i:Int}{Q:Res->aA->Prop}(q:Q (.d (.int i)) S):Op (settle S (.int i) S) λp=>Q p.1 p.2:=bH (λk z=>(nomatch z)) rfl q
def n_{o:Str}{a b:Int}(q:Q (.d (.int (Gh o a b))) S):Fn eN [.str o,.int a,.int b] S Q:=by
 refine bq ?_
 unfold gx
 unfold Gh at q
 symm
 refine ef ?_
 dsimp only
 by_cases e:o="plus"
 ·rw[Qhq e] at q
  rw[Qeq e,Qhq rfl]
  symm
  refine A2 ?_
  exact cC q
 rw[Quq e] at q
 rw[Qdq e,Quq (by decide)]
 apply bM ?_
 refine ef ?_
 dsimp only
 by_cases h:o="minus"
 ·rw[Qhq h] at q
  rw[Qeq h,Qhq rfl]
  symm
  refine Ee ?_
  exact cC q
 rw[Quq h] at q
 rw[Qdq h,Quq (by decide)]
 apply bM ?_
 refine ef ?_
 dsimp only
 by_cases f:o="less"
 ·rw[Qhq f] at q
  rw[Qeq f,Qhq rfl]
  symm
  by_cases c:a<b
  ·rw[Qhq c] at q
   rw[Qeq c,Qhq rfl]
   symm
   exact cC q
  ·rw[Quq c] at q
   rw[Qdq c,Quq (by decide)]
   symm
   exact cC q
 rw[Quq f] at q
 rw[Qdq f,Quq (by decide)]
 apply bM ?_
 refine ef ?_
 dsimp only
 by_cases j:o="same"
 ·rw[Qhq j] at q
  rw[Qeq j,Qhq rfl]
  symm
  refine gf ?_
  dsimp only
  by_cases c:a=b
  ·rw[Qhq c] at q
   rw[Qeq c,Qhq rfl]
   symm
   exact cC q
  ·rw[Quq c] at q
   rw[Qdq c,Quq (by decide)]
   symm
   exact cC q
 rw[Quq j] at q
 rw[Qdq j,Quq (by decide)]
 apply bM ?_
 refine jV ?_
 dsimp only
 by_cases g:a=0
 ·rw[Quq (λz=>z.1 g)] at q
  rw[Qeq g]
  show if (false=true) then _ else _
  rw[Quq (by decide)]
  show if (false=true) then _ else _
  rw[Quq (by decide)]
  symm
  exact cC q
 ·rw[Qdq g]
  show if (true=true) then _ else _
  rw[Qhq rfl]
  symm
  refine jV ?_
  dsimp only
  by_cases i:b=0
  ·rw[Quq (λz=>z.2 i)] at q
   rw[Qeq i]
   show if (false=true) then _ else _
   rw[Quq (by decide)]
   symm
   exact cC q
  ·rw[Qhq ⟨g,i⟩] at q
   rw[Qdq i]
   show if (true=true) then _ else _
   rw[Qhq rfl]
   symm
   exact cC q
end
def cm{a:cp}{S:aA}{T:String}{f:aU}{d:D}{b:Bool}{Q:Bool->aA->Prop}(h:E f a S λx c=>x=d/\c=S)(hd:DH S T d=some b)(q:Q b S):E (jO (mz T f)) a S Q:=by
 refine Ep (pQ (h.mono λx c e=> ?_))
 obtain⟨g,i⟩:=e
 subst g i
 exact⟨b,hd,sS q⟩
def C7{o:Str}(h:o∈ops):o≠"waits" /\o≠"not":=by
 simp only[ops,Qsq,QXq,or_false] at h
 rcases h with rfl|rfl|rfl|rfl|rfl <;>exact⟨by decide +kernel,by decide +kernel⟩
theorem eU{th wt:Str->Int}{ws bs:List Str}{i j:Nat}{e kws:List (Key×D)}{S:aA}(hi:S[i]?=some (.dct e))(f:S[j]?=some (.dct kws))(h:∀x∈ws,iM e (.inr x)=some (.int (th x)))(g:∀b∈bs,iM kws (.inr b)=some (.int (wt b))):
  ∀(n:Nat) (t:Tr) {Q:Res->aA->Prop},t.Ok ws bs->t.dep<=n->Q (.d (.int (uK th wt t))) S->Fn (eF n) [t.d,.ref i,.ref j] S Q
 |0,t,Q,_,hd,_=>by cases t <;>simp[Tr.dep] at hd
 | n+1,t,Q,ho,hd,q=>by
   refine bq ?_
   unfold m4
   cases t with
   | num v=>
     refine bA (dR (cm (d:=.int v) (bj rfl ⟨rfl,rfl⟩) rfl ?_))
     apply aN (λ_=> ?_) (λc=>by cases c)
     exact cC q
   | word x=>
     refine bA (dR (cm (d:=.str x) (bj rfl ⟨rfl,rfl⟩) rfl ?_))
     refine aN (λc=>by cases c) (λ_=>bM ?_)
     refine bA (dR (cm (d:=.str x) (bj rfl ⟨rfl,rfl⟩) rfl ?_))
     refine aN (λ_=> ?_) (λc=>by cases c)
     apply nI (GD ?_)
     refine⟨_,_,_,_,rfl,rfl,hi,h x ho,?_⟩
     exact cC q
   | waits b=>
     refine bA (dR (cm (d:=.tup [.str "waits",.str b]) (bj rfl ⟨rfl,rfl⟩) rfl ?_))
     refine aN (λc=>by cases c) (λ_=>bM ?_)
     refine bA (dR (cm (d:=.tup [.str "waits",.str b]) (bj rfl ⟨rfl,rfl⟩) rfl ?_))
     apply aN (λc=>by cases c) (λ_=>bM ?_)
     apply ar rfl ?_
     refine ef ?_
     dsimp only
     rw[Qeq rfl,Qhq rfl]
     symm
     apply GD ?_
     refine ar rfl ?_
     apply⟨_,_,_,_,rfl,rfl,f,g b ho,?_⟩
     simp only[uK] at q
     by_cases c:0<wt b
     · rw[Qhq c] at q
       rw[Qeq c,Qhq rfl]
       symm
       exact cC q
     · rw[Quq c] at q
       rw[Qdq c,Quq (by decide)]
       symm
       exact cC q
   | no t=>
     have k:t.dep<=n:=by simp only[Tr.dep] at hd;omega
     refine bA (dR (cm (d:=.tup [.str "not",t.d]) (bj rfl ⟨rfl,rfl⟩) rfl ?_))
     refine aN (λc=>by cases c) (λ_=>bM ?_)
     refine bA (dR (cm (d:=.tup [.str "not",t.d]) (bj rfl ⟨rfl,rfl⟩) rfl ?_))
     apply aN (λc=>by cases c) (λ_=>bM ?_)
     apply ar rfl ?_
     refine ef ?_
     dsimp only
     rw[Qdq (show¬(("not":Str)="waits") by decide +kernel),Quq (by decide)]
     apply bM ?_
     apply ar rfl ?_
     apply eU hi f h g n t ho k ?_
     apply ar rfl ?_
     refine ef ?_
     dsimp only
     rw[Qeq rfl,Qhq rfl]
     symm
     refine gf ?_
     dsimp only
     simp only[uK] at q
     by_cases c:uK th wt t=0
     · rw[Qhq c] at q
       rw[Qeq c,Qhq rfl]
       symm
       exact cC q
     · rw[Quq c] at q
       rw[Qdq c,Quq (by decide)]
       symm
       exact cC q
   | two o a b=>
     have m:a.dep<=n:=by simp only[Tr.dep] at hd;omega
     have l:b.dep<=n:=by simp only[Tr.dep] at hd;omega
     obtain⟨r,p⟩:=C7 ho.1
     refine bA (dR (cm (d:=.tup [.str o,a.d,b.d]) (bj rfl ⟨rfl,rfl⟩) rfl ?_))
     refine aN (λc=>by cases c) (λ_=>bM ?_)
     refine bA (dR (cm (d:=.tup [.str o,a.d,b.d]) (bj rfl ⟨rfl,rfl⟩) rfl ?_))
     apply aN (λc=>by cases c) (λ_=>bM ?_)
     apply ar rfl ?_
     refine ef ?_
     dsimp only
     rw[Qdq r,Quq (by decide)]
     apply bM ?_
     apply ar rfl ?_
     apply eU hi f h g n a ho.2.1 m ?_
     apply ar rfl ?_
     refine ef ?_
     dsimp only
     rw[Qdq p,Quq (by decide)]
     apply bM ?_
     apply ar rfl ?_
     apply ar rfl ?_
     apply eU hi f h g n b ho.2.2 l ?_
     refine n_ ?_
     exact cC q
end W28
namespace DL
open PySem PySem.Spec L2
def su{l:List (Key×D)}{k:Key}(h:k∈l.map (·.1)):∃d,iM l k=some d/\(k,d)∈l:=by
 unfold iM
 cases e:l.find? λc=>decide (c.1=k) with
 | none=>
   obtain⟨p,f,rfl⟩:=Qkq.mp h
   have:=List.find?_eq_none.mp e p f
   simp at this
 | some p=>
   have a:=List.find?_some e
   have b:=List.mem_of_find?_eq_some e
   have g:p.1=k:=by simpa using a
   exact⟨p.2,rfl,by rw[←g];exact b⟩
def vM{l:List (Key×D)}{k:Key}{v:D}{p:Key×D}(h:p∈putD l k v):p∈l\/p=(k,v):=by
 unfold putD at h
 split at h
 ·obtain⟨q,a,e⟩:=Qkq.mp h
  split at e
  ·rename_i c
   rw[←e,c]
   exact .inr rfl
  ·rw[←e]
   exact .inl a
 ·rcases mQa.mp h with h|h
  ·exact .inl h
  ·exact .inr (Qfq.mp h)
def jM{l:List (Key×D)}{k x:Key}{v:D}(h:x=k\/x∈l.map (·.1)):x∈(putD l k v).map (·.1):=by
 unfold putD
 split
 ·rename_i c
  have a:∀p∈l,(if p.1=k then(p.1,v) else p).1=p.1:=λp _=>by split <;>rfl
  have e:(l.map λp=>if p.1=k then(p.1,v) else p).map (·.1)=l.map (·.1):=by
   rw[QPq]
   exact List.map_congr_left a
  rw[e]
  rcases h with rfl|h
  ·obtain⟨p,b,d⟩:=List.any_eq_true.mp c
   exact Qkq.mpr ⟨p,b,by simpa using d⟩
  ·exact h
 ·rw[Qzq]
  rcases h with rfl|h
  ·exact Qoq _ (by simp)
  ·exact List.mem_append_left _ h
theorem ke:∀{more l:List (Key×D)} {p:Key×D},p∈bC l more->p∈l\/p∈more
 | [],l,p,h=>.inl h
 | q::more,l,p,h=>by
   rcases ke (more:=more) (l:=putD l q.1 q.2) h with h|h
   · rcases vM h with h|rfl
     · exact .inl h
     · exact .inr (QBq ..)
   · exact .inr (Qpq _ h)
theorem eQ:∀{more l:List (Key×D)} {x:Key},x∈l.map (·.1)\/x∈more.map (·.1)->x∈(bC l more).map (·.1)
 | [],l,x,h=>h.elim id λz=>by cases z
 | q::more,l,x,h=>by
   refine eQ (more:=more) (l:=putD l q.1 q.2) ?_
   rcases h with h|h
   · exact .inl (jM (.inr h))
   · rcases Qsq.mp h with rfl|h
     · exact .inl (jM (.inl rfl))
     · exact .inr h
theorem oW:∀a:List Str,vq (a.map D.str)=some (a.map Sum.inr)
 | []=>rfl
 |s::a=>by simp only[QDq,vq,kc,Qbq];rw[oW a];rfl
section
variable{Γ:cp}{S:aA}
def JE{Q:D->aA->Prop}(q:Q (.ref S.length) (S++ [.dct []])):E JG Γ S Q:=⟨_,_,rfl,q⟩
def FK{f g:dg}{Q:D->aA->Prop}(h:E f Γ S λp b=>E g Γ b λr S2=>∃a:List Str,p.1=a.map D.str/\(p.2.stays S2 p.1/\p.1.length=r.1.length)/\Q (.ref S2.length) (S2++ [.dct (bC [] ((a.map Sum.inr).zip r.1))])):E (Gm f g) Γ S Q:=by
 obtain⟨p,b,e,r,S2,i,a,c,d,q⟩:=h
 refine⟨_,_,?_,q⟩
 unfold Gm
 rw[e]
 simp only[Qbq]
 rw[i]
 simp only[Qbq]
 rw[Qhq d,c,oW]
 rfl
def G_{f g:aU}{Q:D->aA->Prop}(h:E f Γ S λx a=>E g Γ a λy S2=>∃k j b l m,x=.ref k/\y=.ref j/\k≠j/\a[k]?=some (.dct b)/\S2[k]?=some (.dct l)/\S2[j]?=some (.dct m)/\l.length+m.length<=sizeLine/\Q .non (S2.set k (.dct (bC l m)))):E (Ea f g) Γ S Q:=by
 obtain⟨x,a,c,y,S2,d,k,j,b,l,m,rfl,rfl,hn,h0,h1,h2,h3,q⟩:=h
 exact⟨_,_,by unfold Ea;rw[c];simp only[Qbq];rw[d];simp only[Qbq];rw[Qhq hn];simp only[h0,h1,h2];rw[Qhq h3],q⟩
def JW{f g h:aU}{Q:Out->Prop}(w:E h Γ S λd b=>E f Γ b λx S2=>E g Γ S2 λy a=>∃k l z,x=.ref k/\y=.str z/\a[k]?=some (.dct l)/\l.length<sizeLine/\Q (.nx Γ (a.set k (.dct (putD l (.inr z) d))))):T (Iz f g h) Γ S Q:=by
 obtain⟨d,b,c,x,S2,e,y,a,i,k,l,z,rfl,rfl,h1,h2,q⟩:=w
 exact⟨_,by unfold Iz;rw[c];simp only[Qbq];rw[e];simp only[Qbq];rw[i];simp only[Qbq,h1,kc];rw[Qhq h2],q⟩
def Jg{α:Type}{n:Nat}{js:List (Option Nat)}{i:qG}{g:jB}{t w:aU}{Q:Out->Prop}(P:cp->Prop)(enc:α->D)(f:α->Str)(j:α->D)(N:P (kg js Γ)) (h:E i Γ S λp d=>∃xs:List α,p.1=xs.map enc/\p.2 d/\xs.length<=1000∧
   (∀x∈xs,∀b,P b->Tg g (enc x) b d λe S2=>S2=d/\P e/\E t e d λy A=>y=.str (f x)/\A=d/\E w e d λz C=>z=j x/\C=d)∧
   Q (.nx (Γ.set n (some (.ref d.length))) (d++ [.dct (bC [] (xs.map λx=>(Sum.inr (f x),j x)))]))):T (Hq n (mh js i g cA t w)) Γ S Q:=by
 obtain⟨⟨R,W⟩,d,F,xs,rfl,hW,hl,hs,q⟩:=h
 have L:∀(l:List (Key×D)) (k:Key) (v:D),(putD l k v).length<=l.length+1:=λl k v=>by
  unfold putD
  split <;>simp
 have J:∀(m:List α) (b:cp) (c:List (Key×D)),(∀y∈m,y∈xs)->P b->c.length+m.length<=1000->∃r,gu g cA t w W (m.map enc) b d c=some (r,d)/\r=bC c (m.map λx=>(Sum.inr (f x),j x)):=by
  intro m
  induction m with
  |nil=>intro b c _ _ _;exact⟨c,by simp only[List.map_nil,gu];rw[Qhq hW],rfl⟩
  | cons a m H=>
    intro b c B I o
    obtain⟨e,S2,u,rfl,hp1,y,A,e3,rfl,rfl,z,C,e4,rfl,rfl⟩:=hs a (B a (QBq ..)) b I
    have s:=L c (Sum.inr (f a)) (j a)
    simp only[Qnq] at o
    obtain⟨r,K,M⟩:=H e (putD c (Sum.inr (f a)) (j a)) (λy G=>B y (Qpq _ G)) hp1 (by omega)
    refine⟨r,?_,M⟩
    simp only[QDq,gu]
    rw[Qhq hW,u]
    simp only[Qbq,cA,if_true]
    rw[e3]
    simp only[Qbq]
    rw[e4]
    simp only[Qbq,kc]
    rw[Qhq (aM (by omega))]
    exact K
 obtain⟨r,u,rfl⟩:=J xs _ [] (λ_ h=>h) N (by simpa using hl)
 exact⟨_,by unfold Hq mh;rw[F];simp only[Qbq];rw[u];rfl,q⟩
end
def xo{a:cp}{S:aA}{f g:dg}{Q:(List D×(aA->Prop))->aA->Prop}(h:E f a S λp b=>E g a b λr S2=>(p.2.stays S2 p.1/\p.1.length<=r.1.length)/\Q (ph p.1 r.1,λS=>p.2.stays S p.1/\r.2.stays S r.1) S2):E (zW f g) a S Q:=by
 obtain⟨p,b,c,r,S2,d,e,q⟩:=h
 exact⟨_,S2,by unfold zW;rw[c];simp only[Qbq];rw[d];simp only[Qbq];rw[Qhq e],q⟩
def i9(l:List (Key×D)):Prop:=∀p∈l,∃v:Int,p.2=.int v/\0<=v/\v<=9
def i9.merge{l m:List (Key×D)}(c:i9 l)(a:i9 m):i9 (bC l m):=λp b=>(ke b).elim (c p) (a p)
def i9.put{l:List (Key×D)}{k:Key}{v:Int}(h:i9 l)(c:0<=v)(b:v<=9):i9 (putD l k (.int v)):=λp a=>by
 rcases vM a with a|rfl
 ·exact h p a
 ·exact⟨v,rfl,c,b⟩
def numAt(l:List (Key×D))(x:Str):Int:=match iM l (.inr x) with|some (.int v)=>v|_=>0
def me{l:List (Key×D)}(h:i9 l){x:Str}(g:(Sum.inr x:Key)∈l.map (·.1)):iM l (.inr x)=some (.int (numAt l x))/\0<=numAt l x/\numAt l x<=9:=by
 obtain⟨d,b,c⟩:=su g
 obtain⟨v,a,f,i⟩:=h _ c
 have a:d=.int v:=a
 subst a
 have e:numAt l x=v:=by unfold numAt;rw[b]
 rw[e]
 exact⟨b,f,i⟩
def Bf{a:List Str}{vs:List Int}(h:∀v∈vs,0<=v/\v<=9):i9 ((a.map (Sum.inr:Str->Key)).zip (vs.map D.int)):=λp d=>by
 have c:p.2∈vs.map D.int:=(QeQ (show(p.1,p.2)∈_ from d)).2
 obtain⟨v,b,e⟩:=Qkq.mp c
 exact⟨v,e.symm,h v b⟩
def B8{a:List Str}{ds:List D}(h:a.length=ds.length):((a.map (Sum.inr:Str->Key)).zip ds).map (·.1)=a.map Sum.inr:=by
 rw[List.map_fst_zip]
 simpa using Nat.le_of_eq h
end DL
namespace W28
open PySem PySem.Spec L2 DL
def cV(ts:List (Str×Nat))(vs:List Int):List (Key×D):=bC [] (((ts.map (·.1)).map Sum.inr).zip (vs.map D.int))
def xr(w:cN)(s:aP)(ts:List (Str×Nat))(vs:List Int):List (Key×D):=bC (cV w.ak s.ak) (cV ts vs)
def qj(r:Rm)(b:dW)(a:Int):List (Key×D):=putD (cV r.ao b.vals) (.inr "given") (.int a)
def yG(r:Rm)(a:dW):List (Key×D):=bC [] ((r.aa.zip a.aa).map λp=>(Sum.inr p.1.1,D.int (p.2.length:Nat)))
def fH{ts:List (Str×Nat)}{vs:List Int}(h:∀v∈vs,0<=v/\v<=9):i9 (cV ts vs):=i9.merge (λp a=>by cases a) (Bf h)
def fF{ts:List (Str×Nat)}{vs:List Int}(a:ts.length=vs.length){x:Str}(h:x∈ts.map (·.1)):(Sum.inr x:Key)∈(cV ts vs).map (·.1):=by
 refine eQ (.inr ?_)
 rw[B8 (by simpa using a)]
 exact Qkq.mpr ⟨x,h,rfl⟩
structure rf(S S':aA):Prop where
 len:S.length<=S'.length
 eq:∀j,j<S.length->S'[j]?=S[j]?
def rf.refl{S:aA}:rf S S:=⟨Qmq _,λ_ _=>rfl⟩
def rf.app{S a G:aA}(x:rf S a):rf S (a++G):=⟨by rw[lQa];have:=x.len;omega,λj b=>by rw[QHq (by have:=x.len;omega)];exact x.eq j b⟩
def rf.put{S a:aA}{r:Nat}{o:O}(x:rf S a)(c:S.length<=r):rf S (a.set r o):=⟨by simpa using x.len,λj b=>by rw[QKq (by omega)];exact x.eq j b⟩
def Eu{S b:aA}{d:D}{Q:Res->aA->Prop}(x:rf S b)(hd:∀k,d≠.ref k)(f:bB 0 d=true)(q:Q (.d d) S):Op (settle S d b) λp=>Q p.1 p.2:=by
 refine eD ⟨x.len,λk o c e=>.inl (by rw[←x.eq k c];exact e)⟩ ?_ hd (eX f) q
 apply List.ext_getElem?
 intro j
 by_cases a:j<S.length
 ·rw[List.getElem?_take_of_lt a]
  exact x.eq j a
 ·rw[List.getElem?_eq_none (by rw[Qxq];omega),List.getElem?_eq_none (by omega)]
def fu:∀a:Str×Nat,∃r,nX a=.tup (.str a.1::r):=λa=>⟨_,rfl⟩
def yT:∀a:Str×Str,∃r,Ge a=.tup (.str a.1::r):=λa=>⟨_,rfl⟩
section
variable{S:aA}{Q:Res->aA->Prop}
theorem pO:∀{m l:List (Key×D)},(bC l m).length<=l.length+m.length
 | [],l=>Qmq _
 | q::m,l=>by
   have b:(bC (putD l q.1 q.2) m).length<=(putD l q.1 q.2).length+m.length:=pO
   have a:(putD l q.1 q.2).length<=l.length+1:=by unfold putD;split <;>simp
   show(bC (putD l q.1 q.2) m).length<=_
   simp only[Qnq]
   omega
def qy{ts:List (Str×Nat)}{vs:List Int}:(cV ts vs).length<=ts.length:=by
 refine QAq pO ?_
 simp only[QGq,List.length_zip,lQm]
 omega
def uj{w:cN}{s:aP}{h:Nat}{ts:List (Str×Nat)}{pr:List Rw}{vs:List Int}{fs:List bN}{f:bN}{t:Tr}(y:w.af[h]?=some (ts,pr))(g:s.af[h]?=some (vs,fs))(I:fs.getLast? =some f)(H:f.room= -1)
  (r:w.ak.length=s.ak.length) (p:ts.length=vs.length) (J:w.ak.length<=100) (L:ts.length<=100) (u:∀v∈s.ak,0<=v/\v<=9) (F:∀v∈vs,0<=v/\v<=9)
  (G:t.Ok (ts.map (·.1)++w.ak.map (·.1)) []) (hd:t.dep<=6) (q:Q (.d (.int (uK (numAt (xr w s ts vs)) (λ_=>0) t))) S):Fn cE [w.d,s.d,.int h,t.d] S Q:=by
 have c:i9 (xr w s ts vs):=i9.merge (fH u) (fH F)
 refine bq ?_
 unfold jy
 symm
 apply bp g I ?_
 apply ar (d:=.int f.room) rfl ?_
 refine gf ?_
 dsimp only
 rw[Qeq H,Qhq rfl]
 symm
 apply FK ?_
 apply ar rfl ?_
 apply dQ (enc:=nX) (nm:=(·.1)) fu (by omega) ?_
 refine ar rfl ?_
 refine cQ (ds:=s.ak.map D.int) ?_
 refine⟨_,rfl,⟨trivial,by simp only[lQm];exact r⟩,?_⟩
 dsimp only
 rw[show bC [] (((w.ak.map (·.1)).map (Sum.inr:Str->Key)).zip (s.ak.map D.int))=cV w.ak s.ak from rfl]
 apply bA (vJ (G_ ?_))
 apply FK ?_
 apply ar rfl ?_
 refine ar (d:=fo (ts,pr)) (aI (by rw[gQm,y];rfl)) ?_
 symm
 apply ar rfl ?_
 apply dQ (enc:=nX) (nm:=(·.1)) fu (by omega) ?_
 apply ar rfl ?_
 refine ar (d:=wL (vs,fs)) (aI (by rw[gQm,g];rfl)) ?_
 symm
 refine ar rfl ?_
 refine cQ (ds:=vs.map D.int) ?_
 refine⟨_,rfl,⟨trivial,by simp only[lQm];exact p⟩,?_⟩
 dsimp only
 rw[show bC [] (((ts.map (·.1)).map (Sum.inr:Str->Key)).zip (vs.map D.int))=cV ts vs from rfl]
 have e:(S++ [O.dct (cV w.ak s.ak)])[S.length]?=some (.dct (cV w.ak s.ak)):=bt
 have i:(S++ [O.dct (cV w.ak s.ak)]).length=S.length+1:=by simp
 have B:rf S (S++ [O.dct (cV w.ak s.ak)]):=rf.refl.app
 show∃k j A l m,D.ref S.length=.ref k/\D.ref (S++ [O.dct (cV w.ak s.ak)]).length=.ref j/\k≠j/\(S++ [O.dct (cV w.ak s.ak)])[k]?=some (.dct A)/\(S++ [O.dct (cV w.ak s.ak)]++ [O.dct (cV ts vs)])[k]?=some (.dct l)/\(S++ [O.dct (cV w.ak s.ak)]++ [O.dct (cV ts vs)])[j]?=some (.dct m)/\_
 refine⟨_,_,_,_,_,rfl,rfl,by omega,e,bx e,bt,?_,?_⟩
 ·have M:=qy (ts:=w.ak) (vs:=s.ak)
  have K:=qy (ts:=ts) (vs:=vs)
  exact nQl (aM (by omega))
 have n:((S++ [O.dct (cV w.ak s.ak)]++ [O.dct (cV ts vs)]).set S.length (.dct (bC (cV w.ak s.ak) (cV ts vs))))[S.length]?=some (.dct (xr w s ts vs)):=pR (bx e)
 have o:rf S ((S++ [O.dct (cV w.ak s.ak)]++ [O.dct (cV ts vs)]).set S.length (.dct (bC (cV w.ak s.ak) (cV ts vs)))):=B.app.put (Qmq _)
 generalize ((S++ [O.dct (cV w.ak s.ak)]++ [O.dct (cV ts vs)]).set S.length (.dct (bC (cV w.ak s.ak) (cV ts vs))))=S2 at n o⊢
 symm
 apply JE ?_
 refine eU (th:=numAt (xr w s ts vs)) (wt:=λ_=>0) (ws:=ts.map (·.1)++w.ak.map (·.1)) (bs:= []) (bx n) bt (λx a=> ?_) (λb C=>by cases C) 6 t G hd ?_
 ·refine(me c ?_).1
  refine eQ ?_
  rcases mQa.mp a with a|a
  ·exact .inr (fF p a)
  ·exact .inl (fF r a)
 ·exact Eu o.app (λk z=>(nomatch z)) rfl q
end
section
variable{S:aA}{Q:Res->aA->Prop}
theorem vg:∀(bs:List (Str×Str)) (ls:List (List (Int×Int))),ph ((bs.map (·.1)).map D.str) (ls.map dk)=(bs.zip ls).map λp=>D.tup [.str p.1.1,dk p.2]
 | [],_=>rfl
 |_::_,[]=>rfl
 | b::bs,l::ls=>by
   have:=vg bs ls
   simp only[ph,QDq,List.zipWith_cons_cons,List.zip_cons_cons] at this⊢
   rw[this]
def rK(r:Rm)(a:dW)(x:Str):Int:=numAt (yG r a) x
def A1{r:Rm}{a:dW}(l:r.aa.length=a.aa.length){x:Str}(h:x∈r.aa.map (·.1)):iM (yG r a) (.inr x)=some (.int (rK r a x)):=by
 have j:(Sum.inr x:Key)∈(yG r a).map (·.1):=by
  refine eQ (.inr ?_)
  rw[QPq]
  obtain⟨b,g,rfl⟩:=Qkq.mp h
  obtain⟨i,f,e⟩:=QbQ g
  refine Qkq.mpr ⟨(b,a.aa[i]'(by omega)),?_,rfl⟩
  rw[←e]
  have:(r.aa.zip a.aa)[i]?=some (r.aa[i],a.aa[i]'(by omega)):=by
   rw[List.getElem?_zip_eq_some]
   exact⟨gQe f,gQe (by omega)⟩
  exact mQg this
 obtain⟨d,k,c⟩:=su j
 have f:∃v:Int,d=.int v:=by
  rcases ke c with c|c
  ·cases c
  ·obtain⟨p,_,e⟩:=Qkq.mp c
   exact⟨_,(congrArg (·.2) e).symm⟩
 obtain⟨v,rfl⟩:=f
 unfold rK DL.numAt
 rw[k]
def q_{w:cN}{s:aP}{h i:Nat}{vs:List Int}{fs:List bN}{f:bN}{r:Rm}{c:dW}{t:Tr}(B:s.af[h]?=some (vs,fs))(K:fs.getLast? =some f)(J:f.room=i)(n:w.aj[i]?=some r)(g:s.aj[i]?=some c)
  (y:r.ao.length=c.vals.length) (G:r.aa.length=c.aa.length) (L:r.ao.length<=100) (N:r.aa.length<=100) (C:∀v∈c.vals,0<=v/\v<=9) (A:0<=f.given/\f.given<=9)
  (I:t.Ok (r.ao.map (·.1)++ni) (r.aa.map (·.1))) (hd:t.dep<=6) (q:Q (.d (.int (uK (numAt (qj r c f.given)) (rK r c) t))) S):Fn cE [w.d,s.d,.int h,t.d] S Q:=by
 have l:i9 (qj r c f.given):=(fH C).put A.1 A.2
 refine bq ?_
 unfold jy
 symm
 apply bp B K ?_
 apply ar (d:=.int f.room) rfl ?_
 refine gf ?_
 dsimp only
 rw[Qdq (show¬f.room= -1 by omega),Quq (by decide),J]
 apply bM ?_
 apply FK ?_
 apply ar rfl ?_
 refine ar (d:=r.d) (aI (by rw[gQm,n];rfl)) ?_
 symm
 apply ar rfl ?_
 apply dQ (enc:=nX) (nm:=(·.1)) fu (by omega) ?_
 apply ar rfl ?_
 refine ar (d:=c.d) (aI (by rw[gQm,g];rfl)) ?_
 symm
 refine ar rfl ?_
 refine cQ (ds:=c.vals.map D.int) ?_
 refine⟨_,rfl,⟨trivial,by simp only[lQm];exact y⟩,?_⟩
 dsimp only
 rw[show bC [] (((r.ao.map (·.1)).map (Sum.inr:Str->Key)).zip (c.vals.map D.int))=cV r.ao c.vals from rfl]
 have F:rf S (S++ [O.dct (cV r.ao c.vals)]):=rf.refl.app
 apply bA (JW ?_)
 apply ar (d:=.int f.given) rfl ?_
 refine⟨_,_,_,rfl,rfl,bt,aM (by have:=qy (ts:=r.ao) (vs:=c.vals);omega),?_⟩
 have o:((S++ [O.dct (cV r.ao c.vals)]).set S.length (.dct (putD (cV r.ao c.vals) (.inr "given") (.int f.given))))[S.length]?=some (.dct (qj r c f.given)):=pR bt
 have u:rf S ((S++ [O.dct (cV r.ao c.vals)]).set S.length (.dct (putD (cV r.ao c.vals) (.inr "given") (.int f.given)))):=F.put (Qmq _)
 generalize ((S++ [O.dct (cV r.ao c.vals)]).set S.length (.dct (putD (cV r.ao c.vals) (.inr "given") (.int f.given))))=S2 at o u⊢
 apply bA (Jg (α:=(Str×Str)×List (Int×Int)) (λe=>∃a b,e= [a,b]) (λp=>D.tup [.str p.1.1,dk p.2]) (λp=>p.1.1) (λp=>.int (p.2.length:Nat)) ⟨none,none,rfl⟩ (xo ?_))
 apply ar rfl ?_
 refine ar (d:=r.d) (aI (by rw[gQm,n];rfl)) ?_
 symm
 apply ar rfl ?_
 apply dQ (enc:=Ge) (nm:=(·.1)) yT (by omega) ?_
 apply ar rfl ?_
 refine ar (d:=c.d) (aI (by rw[gQm,g];rfl)) ?_
 symm
 refine ar rfl ?_
 refine cQ (ds:=c.aa.map dk) ?_
 refine⟨⟨trivial,by simp only[lQm];omega⟩,r.aa.zip c.aa,vg _ _,⟨trivial,trivial⟩,by rw[List.length_zip];omega,λp M e m=> ?_,?_⟩
 ·obtain⟨a,b,rfl⟩:=m
  refine d_ rfl (ax (aR (ax (aR (bg ?_)))))
  apply⟨rfl,⟨_,_,rfl⟩,?_⟩
  apply⟨rfl,rfl,?_⟩
  refine cQ (ds:=p.2.map pairD) ?_
  exact⟨by simp,rfl⟩
 symm
 refine eU (th:=numAt (qj r c f.given)) (wt:=rK r c) (ws:=r.ao.map (·.1)++ni) (bs:=r.aa.map (·.1)) (kws:=yG r c) (bx o) bt (λx j=> ?_) (λb H=>A1 G H) 6 t I hd ?_
 ·refine(me l ?_).1
  refine jM ?_
  rcases mQa.mp j with j|j
  ·exact .inr (fF y j)
  ·left
   rw[Qfq.mp j]
 ·exact Eu u.app (λk z=>(nomatch z)) rfl q
end
end W28
namespace DL
open PySem PySem.Spec L2
def pe{b:cp}{S:aA}{a:Bool}{f:aU}{g:dg}{Q:D->aA->Prop}(h:E f b S λx c=>E g b c λp S2=>∃v vs,uC x=some v/\gI p.1=some vs/\Q (.bl (if a then !B5 v vs else B5 v vs)) S2):E (zo a f g) b S Q:=by
 obtain⟨x,c,i,p,S2,j,v,vs,d,e,q⟩:=h
 exact⟨_,S2,by unfold zo;rw[i];simp only[Qbq];rw[j];simp only[Qbq];rw[d,e];rfl,q⟩
def iE{x:Str}{b:List Str}:B5 (.str x) (b.map V.str)=decide (x∈b):=by
 induction b with
 |nil=>rfl
 | cons a b d=>
   show(oz (.str a) (.str x)||B5 (.str x) (b.map V.str))=_
   rw[d]
   simp only[oz,Qsq]
   by_cases c:a=x
   · subst c;simp
   · have e:¬x=a:=λz=>c z.symm
     simp[c,e]
end DL
namespace W28
open PySem PySem.Spec L2 DL
section
variable{S:aA}{Q:Res->aA->Prop}
def cZ(ns:List Str)(vs:List Int)(x:Str)(v:Int):List Int:=vs.set ((lH (.str x) (ns.map V.str)).getD 0) v
def lD{α:Type}{enc:α->D}{nm:α->Str}{xs:List α}{x:Str}(he:∀a,∃r,enc a=.tup (.str (nm a)::r))(i:xs.length<=1000)(l:x∈xs.map nm)(q:((lH (.str x) ((xs.map nm).map V.str)).getD 0)<xs.length->Q (.d (.int ((lH (.str x) ((xs.map nm).map V.str)).getD 0:Nat))) S):Fn cc [.tup (xs.map enc),.str x] S Q:=by
 refine bq ?_
 unfold mi
 obtain⟨j,e,g⟩:=tZ l
 have h:j<xs.length:=by have:=(gQs.mp g).1;simpa using this
 rw[e] at q
 refine nI ?_
 have c:E (kL (dJ cW (av (au 0) aw))) ([D.tup (xs.map enc),D.str x].map some++List.replicate (2- [D.tup (xs.map enc),D.str x].length) none) S λp b=>p=((xs.map nm).map D.str,.fr)/\b=S:=by
  symm
  exact dQ he i ⟨rfl,rfl⟩
 obtain⟨p,b,f,rfl,rfl⟩:=c
 refine⟨.int j,b,?_,bH (λk z=>(nomatch z)) rfl (q h)⟩
 unfold Fc
 rw[f]
 simp only[Qbq]
 rw[Qhq (show Tag.fr.isL=true from rfl)]
 show((au 1 _ b).bind _)=_
 rw[show au 1 ([D.tup (xs.map enc),D.str x].map some++List.replicate (2- [D.tup (xs.map enc),D.str x].length) none) b=some (.str x,b) from rfl]
 simp only[Qbq]
 rw[Qhq (show Tag.stays b _ .fr from trivial)]
 show(uC (.str x)).bind _=_
 simp only[uC,Qbq]
 rw[cP]
 simp only[Qbq]
 rw[e]
 rfl
def BP{w:cN}{s:aP}{h i:Nat}{vs:List Int}{fs:List bN}{f:bN}{r:Rm}{a:dW}{x:Str}{v:Int}(c:s.af[h]?=some (vs,fs))(l:fs.getLast? =some f)(k:f.room=i)(g:w.aj[i]?=some r)(b:s.aj[i]?=some a)
  (p:r.ao.length=a.vals.length) (m:r.ao.length<=100) (o:s.aj.length<=100) (j:x∈r.ao.map (·.1))
  (q:Q (.d ({s with aj:=s.aj.set i {a with vals:=cZ (r.ao.map (·.1)) a.vals x v}}:aP).d) S):Fn dC [w.d,s.d,.int h,.str x,.int v] S Q:=by
 refine bq ?_
 unfold g9
 symm
 apply bp c l ?_
 apply ar (d:=.int f.room) rfl ?_
 refine jV ?_
 dsimp only
 rw[Qdq (show¬f.room= -1 by omega),k]
 show if (true=true) then _ else _
 rw[Qhq rfl]
 symm
 apply ar rfl ?_
 refine ar (d:=r.d) (aI (by rw[gQm,g];rfl)) ?_
 symm
 apply ar rfl ?_
 apply lD (enc:=nX) (nm:=(·.1)) fu (by omega) j λn=> ?_
 apply ar rfl ?_
 refine ar (d:=a.d) (aI (by rw[gQm,b];rfl)) ?_
 symm
 apply ar rfl ?_
 refine cT (xs:=a.vals.map D.int) (by rw[lQm];omega) (by rw[lQm];omega) (aK λ_ _=>rfl) rfl ?_
 symm
 refine⟨by show 1<=_;decide,?_⟩
 apply iP ?_
 apply ar rfl ?_
 refine ar (d:=a.d) (aI (by rw[gQm,b];rfl)) ?_
 apply b_ ?_
 refine⟨_,rfl,b9 ⟨_,rfl,?_⟩⟩
 refine cY (by show 5<=_;decide) ?_
 symm
 have e:({a with vals:=cZ (r.ao.map (·.1)) a.vals x v}:dW).d=.tup ([.tup ((a.vals.map D.int).set ((lH (.str x) ((r.ao.map (·.1)).map V.str)).getD 0) (.int v))]++hZ [cb a.vals,.int a.within,cb a.row,cb a.ag,.tup (a.aa.map dk)] (some 1) none):=by
  show D.tup [cb (cZ _ _ _ _),_,_,_,_]=_
  unfold cZ cb
  rw[map_set]
  rfl
 rw[←e]
 refine cj (gQs.mp b).1 (by omega) ?_
 exact bH (aG _) (aP.low _) q
end
section
variable{S:aA}{Q:Res->aA->Prop}
def pz(w:cN)(s:aP)(h:Nat)(ts:List (Str×Nat))(vs:List Int)(fs:List bN)(x:Str)(v:Int):aP:=
 if x∈w.ak.map (·.1) then{s with ak:=cZ (w.ak.map (·.1)) s.ak x v} else{s with af:=s.af.set h (cZ (ts.map (·.1)) vs x v,fs)}
def Dr{w:cN}{s:aP}{h:Nat}{ts:List (Str×Nat)}{pr:List Rw}{vs:List Int}{fs:List bN}{f:bN}{x:Str}{v:Int}(e:w.af[h]?=some (ts,pr))(b:s.af[h]?=some (vs,fs))(n:fs.getLast? =some f)(m:f.room= -1)
  (u:w.ak.length=s.ak.length) (r:ts.length=vs.length) (o:w.ak.length<=100) (t:ts.length<=100) (y:s.af.length<=100) (j:x∈ts.map (·.1)++w.ak.map (·.1))
  (q:Q (.d (pz w s h ts vs fs x v).d) S):Fn dC [w.d,s.d,.int h,.str x,.int v] S Q:=by
 refine bq ?_
 unfold g9
 symm
 apply bp b n ?_
 apply ar (d:=.int f.room) rfl ?_
 refine jV ?_
 dsimp only
 rw[Qeq m]
 refine aN (λc=>by cases c) (λ_=>bM ?_)
 apply bA (dR (ff (pe ?_)))
 apply ar rfl ?_
 apply dQ (enc:=nX) (nm:=(·.1)) fu (by omega) ?_
 refine⟨_,_,rfl,cP _,?_⟩
 unfold pz at q
 show if B5 (.str x) ((w.ak.map (·.1)).map V.str)=true then _ else _
 rw[iE]
 by_cases c:x∈w.ak.map (·.1)
 ·rw[Qhq c] at q
  rw[Qeq c,Qhq rfl]
  symm
  apply ar rfl ?_
  apply ar rfl ?_
  apply lD (enc:=nX) (nm:=(·.1)) fu (by omega) c λg=> ?_
  refine cT (xs:=s.ak.map D.int) (by rw[lQm];omega) (by rw[lQm];omega) (aK λ_ _=>rfl) rfl ?_
  symm
  apply ar rfl ?_
  apply ar rfl ?_
  apply ar rfl ?_
  refine⟨by show 4<=_;decide,?_⟩
  rw[←map_set]
  exact bH (d:=({s with ak:=cZ (w.ak.map (·.1)) s.ak x v}:aP).d) (aG _) (aP.low _) q
 ·rw[Quq c] at q
  rw[Qdq c,Quq (by decide)]
  refine bM ?_
  have a:x∈ts.map (·.1):=(mQa.mp j).resolve_right c
  symm
  apply ar rfl ?_
  refine ar (d:=wL (vs,fs)) (aI (by rw[gQm,b];rfl)) ?_
  apply d_ rfl (ax (aR (ax (aR (bg ?_)))))
  apply ar rfl ?_
  refine ar (d:=fo (ts,pr)) (aI (by rw[gQm,e];rfl)) ?_
  symm
  apply ar rfl ?_
  apply lD (enc:=nX) (nm:=(·.1)) fu (by omega) a λg=> ?_
  refine cT (xs:=vs.map D.int) (by rw[lQm];omega) (by rw[lQm];omega) (aK λ_ _=>rfl) rfl ?_
  symm
  rw[←map_set]
  rw[show D.tup ((vs.set ((lH (.str x) ((ts.map (·.1)).map V.str)).getD 0) v).map D.int)=cb (cZ (ts.map (·.1)) vs x v) from rfl]
  generalize cZ (ts.map (·.1)) vs x v=nv at q⊢
  have i:h<s.af.length:=(gQs.mp b).1
  have l:s.af.length<=900:=by omega
  have k:Op (settle S ({s with af:=s.af.set h (nv,fs)}:aP).d S) λp=>Q p.1 p.2:=bH (aG _) (aP.low _) q
  exact fA i l k
end
section
variable{S:aA}{Q:Res->aA->Prop}
def bE(ns:List Str)(x:Str):Nat:=(lH (.str x) (ns.map V.str)).getD 0
def e_{ns:List Str}{x:Str}(h:x∈ns):bE ns x<ns.length/\ns[bE ns x]?=some x:=by
 obtain⟨j,b,a⟩:=tZ h
 unfold bE
 rw[b]
 exact⟨(gQs.mp a).1,a⟩
def gU{α:Type}{enc:α->D}{nm:α->Str}{xs:List α}{x:Str}(he:∀a,∃r,enc a=.tup (.str (nm a)::r))(b:xs.length<=1000)(c:x∈xs.map nm)(q:Q (.d (.int (bE (xs.map nm) x:Nat))) S):Fn cc [.tup (xs.map enc),.str x] S Q:=lD he b c λ_=>q
def kr{w:cN}{s:aP}{h i:Nat}{vs:List Int}{fs:List bN}{f:bN}{r:Rm}{x:Str}(b:s.af[h]?=some (vs,fs))(c:fs.getLast? =some f)(a:f.room=i)(g:w.aj[i]?=some r)(j:r.aa.length<=100)(e:x∈r.aa.map (·.1))
  (q:Q (.d (.tup [.int i,.int (bE (r.aa.map (·.1)) x:Nat)])) S):Fn gP [w.d,s.d,.int h,.str x] S Q:=by
 refine bq ?_
 unfold o_
 symm
 apply bp b c ?_
 refine ar (d:=.int f.room) rfl ?_
 rw[a]
 symm
 apply ar rfl ?_
 refine ar (d:=r.d) (aI (by rw[gQm,g];rfl)) ?_
 symm
 apply ar rfl ?_
 apply gU (enc:=Ge) (nm:=(·.1)) yT (by omega) e ?_
 refine⟨by show 2<=_;decide,?_⟩
 exact bH (λk z=>(nomatch z)) rfl q
def ij{s:aP}{i b:Nat}{a:dW}{l:List (Int×Int)}(c:s.aj[i]?=some a)(n:b<a.aa.length)(k:a.aa.length<=100)(m:s.aj.length<=100)
  (q:Q (.d ({s with aj:=s.aj.set i {a with aa:=a.aa.set b l}}:aP).d) S):Fn dA [s.d,.int i,.int b,dk l] S Q:=by
 refine bq ?_
 unfold kG
 symm
 apply ar rfl ?_
 refine ar (d:=a.d) (aI (by rw[gQm,c];rfl)) ?_
 symm
 apply iP ?_
 apply b9 (b_ ?_)
 apply⟨_,rfl,_,rfl,?_⟩
 apply ar rfl ?_
 refine cT (xs:=a.aa.map dk) (by rw[lQm];omega) (by rw[lQm];omega) (aK λl _=>p7 l) (p7 l) ?_
 symm
 refine⟨by show 1<=_;decide,?_⟩
 refine cY (by show 5<=_;decide) ?_
 symm
 rw[←map_set]
 generalize h:a.aa.set b l=nb at q⊢
 have e:({a with aa:=nb}:dW).d=.tup (hZ [cb a.vals,.int a.within,cb a.row,cb a.ag,.tup (a.aa.map dk)] none (some 4)++ [.tup (nb.map dk)]):=rfl
 rw[←e]
 have j:i<s.aj.length:=(gQs.mp c).1
 have f:s.aj.length<=900:=by omega
 have g:Op (settle S ({s with aj:=s.aj.set i {a with aa:=nb}}:aP).d S) λp=>Q p.1 p.2:=bH (aG _) (aP.low _) q
 exact cj j f g
def du(p:Int×List Int)(h:Int):Int×List Int:=if 0<p.1 then(p.1-1,p.2) else(p.1,p.2++ [h])
def cJ(p:Int×List Int):Int×List Int:=match p.2 with
 |_::l=>(p.1,l)
 | []=>(if 9<p.1+1 then 9 else p.1+1,[])
def vo{w:cN}{s:aP}{h:Int}{x:Str}{p:Int×List Int}(i:x∈w.ai.map (·.1))(b:s.ai[bE (w.ai.map (·.1)) x]?=some p)(k:w.ai.length<=100)(m:s.ai.length<=100)(l:p.2.length<=900)
  (q:Q (.d ({s with ai:=s.ai.set (bE (w.ai.map (·.1)) x) (du p h)}:aP).d) S):Fn oS [w.d,s.d,.int h,.str x] S Q:=by
 refine bq ?_
 unfold yl
 symm
 apply ar rfl ?_
 refine gU (enc:=nX) (nm:=(·.1)) fu (by omega) i ?_
 generalize bE (w.ai.map (·.1)) x=j at b q⊢
 have f:j<s.ai.length:=(gQs.mp b).1
 have g:s.ai.length<=900:=by omega
 symm
 apply ar rfl ?_
 refine ar (d:=sm p) (aI (by rw[gQm,b];rfl)) ?_
 refine d_ rfl (ax (aR (ax (aR (bg ?_)))))
 have a:Op (settle S ({s with ai:=s.ai.set j (du p h)}:aP).d S) λp=>Q p.1 p.2:=bH (aG _) (aP.low _) q
 unfold du at a
 symm
 by_cases c:0<p.1
 ·rw[Qhq c] at a
  rw[Qeq c,Qhq rfl]
  symm
  refine⟨by show 2<=_;decide,?_⟩
  symm
  exact fw (p:=(p.1-1,p.2)) f g a
 ·rw[Quq c] at a
  rw[Qdq c,Quq (by decide)]
  apply bM ?_
  refine⟨by show 1<=_;decide,?_⟩
  refine cY (by simp only[lQm,Qnq,QGq];exact nQl (aM (by omega))) ?_
  symm
  refine⟨by show 2<=_;decide,?_⟩
  symm
  have e:D.tup [.int p.1,.tup (p.2.map D.int++ [.int h])]=sm (p.1,p.2++ [h]):=by simp[sm,cb]
  rw[e]
  exact fw f g a
end
section
variable{S:aA}{Q:Res->aA->Prop}
def j0{w:cN}{s:aP}{x:Str}{p:Int×List Int}(k:x∈w.ai.map (·.1))(f:s.ai[bE (w.ai.map (·.1)) x]?=some p)(m:w.ai.length<=100)(n:s.ai.length<=100)
  (q:Q (.d ({s with ai:=s.ai.set (bE (w.ai.map (·.1)) x) (cJ p)}:aP).d) S):Fn eP [w.d,s.d,.str x] S Q:=by
 refine bq ?_
 unfold iT
 symm
 apply ar rfl ?_
 refine gU (enc:=nX) (nm:=(·.1)) fu (by omega) k ?_
 generalize bE (w.ai.map (·.1)) x=j at f q⊢
 have g:j<s.ai.length:=(gQs.mp f).1
 have h:s.ai.length<=900:=by omega
 symm
 apply ar rfl ?_
 refine ar (d:=sm p) (aI (by rw[gQm,f];rfl)) ?_
 refine d_ rfl (ax (aR (ax (aR (bg ?_)))))
 have i:Op (settle S ({s with ai:=s.ai.set j (cJ p)}:aP).d S) λp=>Q p.1 p.2:=bH (aG _) (aP.low _) q
 obtain⟨v,b⟩:=p
 symm
 refine tR ?_
 cases b with
 | cons a l=>
   apply aN (λ_=> ?_) (λc=>by cases c)
   apply iP ?_
   apply b_ ?_
   apply⟨_,rfl,b9 ⟨_,rfl,?_⟩⟩
   refine⟨by show 2<=_;decide,?_⟩
   symm
   have e:D.tup (hZ ((a::l).map D.int) (some 1) none)=cb l:=by
     rw[show(some (1:Int))=some ((1:Nat):Int) from rfl,gK (by simp)]
     rfl
   rw[e]
   exact fw (p:=(v,l)) g h i
 | nil=>
   apply aN (λc=>by cases c) (λ_=>bM ?_)
   apply A2 ?_
   refine⟨by show 2<=_;decide,?_⟩
   symm
   exact fw (p:=(if 9<v+1 then 9 else v+1,[])) g h i
def Au{b sd hd a:D}{s:aP}(q:Q (.d s.d) S):Fn oG [b,s.d,hd,a] S Q:=by
 refine bq ?_
 unfold sM
 symm
 exact bH (aG _) (aP.low _) q
def Ca{i:D}{s:aP}{h n:Nat}{vs:List Int}{fs:List bN}{f:bN}(e:s.af[h]?=some (vs,fs))(b:fs.getLast? =some f)(a:fs.length<=900)(c:s.af.length<=900)(q:Q (.d ({s with af:=s.af.set h (vs,fs.dropLast++ [{f with row:=n}])}:aP).d) S):Fn sQ [i,s.d,.int h,(Rw.go n).d] S Q:=by
 refine bq ?_
 unfold wR
 symm
 apply ar (d:=.int n) rfl ?_
 have g:Op (settle S ({s with af:=s.af.set h (vs,fs.dropLast++ [{f with row:=n}])}:aP).d S) λp=>Q p.1 p.2:=bH (aG _) (aP.low _) q
 exact mQ e b a c g
end
section
variable{S:aA}{Q:Res->aA->Prop}
def w9{w:cN}{s:aP}{h:Int}{x:Str}{p:Int×List Int}(f:x∈w.ai.map (·.1))(c:s.ai[bE (w.ai.map (·.1)) x]?=some p)(a:w.ai.length<=100)(e:s.ai.length<=100)(b:p.2.length<=900)
  (q:Q (.d ({s with ai:=s.ai.set (bE (w.ai.map (·.1)) x) (du p h)}:aP).d) S):Fn lI [w.d,s.d,.int h,(Rw.take x).d] S Q:=by
 refine bq ?_
 unfold qc
 symm
 apply ar (d:=.str x) rfl ?_
 have g:Op (settle S ({s with ai:=s.ai.set (bE (w.ai.map (·.1)) x) (du p h)}:aP).d S) λp=>Q p.1 p.2:=bH (aG _) (aP.low _) q
 exact vo f c a e b g
def xg{w:cN}{s:aP}{hd:D}{x:Str}{p:Int×List Int}(e:x∈w.ai.map (·.1))(b:s.ai[bE (w.ai.map (·.1)) x]?=some p)(a:w.ai.length<=100)(c:s.ai.length<=100)
  (q:Q (.d ({s with ai:=s.ai.set (bE (w.ai.map (·.1)) x) (cJ p)}:aP).d) S):Fn lq [w.d,s.d,hd,(Rw.give x).d] S Q:=by
 refine bq ?_
 unfold qd
 symm
 apply ar (d:=.str x) rfl ?_
 have f:Op (settle S ({s with ai:=s.ai.set (bE (w.ai.map (·.1)) x) (cJ p)}:aP).d S) λp=>Q p.1 p.2:=bH (aG _) (aP.low _) q
 exact j0 e b a c f
end
section
variable{S:aA}{Q:Res->aA->Prop}
def wU(w:cN)(s:aP)(h:Nat)(t:Tr)(v:Int):Prop:=∀(S:aA) (Q:Res->aA->Prop),Q (.d (.int v)) S->Fn cE [w.d,s.d,.int h,t.d] S Q
def Puts(w:cN)(s:aP)(h:Nat)(x:Str)(v:Int)(a:aP):Prop:=∀(S:aA) (Q:Res->aA->Prop),Q (.d a.d) S->Fn dC [w.d,s.d,.int h,.str x,.int v] S Q
def xD{w:cN}{s:aP}{h:Int}{x y:Str}{p a:Int×List Int}(j:x∈w.ai.map (·.1))(g:y∈w.ai.map (·.1))(i:s.ai[bE (w.ai.map (·.1)) x]?=some p)(c:w.ai.length<=100)(e:s.ai.length<=100)(f:a.2.length<=900)
  (b:(s.ai.set (bE (w.ai.map (·.1)) x) (cJ p))[bE (w.ai.map (·.1)) y]?=some a)
  (q:Q (.d ({s with ai:=(s.ai.set (bE (w.ai.map (·.1)) x) (cJ p)).set (bE (w.ai.map (·.1)) y) (du a h)}:aP).d) S):Fn l8 [w.d,s.d,.int h,(Rw.pass x y).d] S Q:=by
 refine bq ?_
 unfold qk
 symm
 apply ar (d:=.str x) rfl ?_
 apply j0 j i c e ?_
 apply ar (d:=.str y) rfl ?_
 have k:Op (settle S ({s with ai:=(s.ai.set (bE (w.ai.map (·.1)) x) (cJ p)).set (bE (w.ai.map (·.1)) y) (du a h)}:aP).d S) λp=>Q p.1 p.2:=bH (aG _) (aP.low _) q
 exact vo (s:={s with ai:=s.ai.set (bE (w.ai.map (·.1)) x) (cJ p)}) g b c (by simpa using e) f k
def z9{w:cN}{s a:aP}{h:Nat}{x:Str}{t:Tr}{v:Int}(b:wU w s h t v)(c:Puts w s h x v a)(q:Q (.d a.d) S):Fn oO [w.d,s.d,.int h,(Rw.put x t).d] S Q:=by
 refine bq ?_
 unfold tN
 symm
 apply ar (d:=.str x) rfl ?_
 apply ar (d:=t.d) rfl ?_
 apply b _ _ ?_
 refine c _ _ ?_
 exact bH (aG _) (aP.low _) q
def tx{w:cN}{s:aP}{h n:Nat}{t:Tr}{v:Int}{vs:List Int}{fs:List bN}{f:bN}(i:wU w s h t v)(e:s.af[h]?=some (vs,fs))(a:fs.getLast? =some f)(j:fs.length<=900)(b:s.af.length<=900)
  (q:Q (.d (if v=0 then({s with af:=s.af.set h (vs,fs.dropLast++ [{f with row:=n}])}:aP) else s).d) S):Fn iw [w.d,s.d,.int h,(Rw.unl t n).d] S Q:=by
 refine bq ?_
 unfold kQ
 symm
 apply ar (d:=t.d) rfl ?_
 apply i _ _ ?_
 refine gf ?_
 dsimp only
 by_cases c:v=0
 ·rw[Qhq c] at q
  rw[Qeq c,Qhq rfl]
  symm
  apply ar (d:=.int n) rfl ?_
  have g:Op (settle S ({s with af:=s.af.set h (vs,fs.dropLast++ [{f with row:=n}])}:aP).d S) λp=>Q p.1 p.2:=bH (aG _) (aP.low _) q
  exact mQ e a j b g
 ·rw[Quq c] at q
  rw[Qdq c,Quq (by decide)]
  apply bM ?_
  exact bH (aG _) (aP.low _) q
end
section
variable{S:aA}{Q:Res->aA->Prop}
def w5{w:cN}{s:aP}{h:Nat}{t:Tr}{v:Int}{vs:List Int}{fs:List bN}{f:bN}(j:wU w s h t v)(e:s.af[h]?=some (vs,fs))(c:fs.getLast? =some f)(l:fs.length<=900)(g:s.af.length<=900)
  (q:Q (.d ({s with af:=s.af.set h (vs,fs.dropLast++ [{f with told:=v}])}:aP).d) S):Fn lA [w.d,s.d,.int h,(Rw.tell t).d] S Q:=by
 refine bq ?_
 unfold pj
 symm
 apply ar (d:=t.d) rfl ?_
 apply j _ _ ?_
 apply iP ?_
 refine bp e c ?_
 apply b9 (b_ ?_)
 apply⟨_,rfl,_,rfl,?_⟩
 refine⟨by show 1<=_;decide,?_⟩
 refine cY (by show 5<=_;decide) ?_
 symm
 have k:0<fs.length:=by
  cases fs with
  |nil=>cases c
  |cons a b=>simp
 have i:Op (settle S ({s with af:=s.af.set h (vs,fs.dropLast++ [{f with told:=v}])}:aP).d S) λp=>Q p.1 p.2:=bH (aG _) (aP.low _) q
 exact fQ (f:={f with told:=v}) e k l g i
def zJ{w:cN}{s:aP}{h i:Nat}{vs:List Int}{fs:List bN}{f:bN}{r:Rm}{a:dW}{x:Str}(j:s.af[h]?=some (vs,fs))(u:fs.getLast? =some f)(t:f.room=i)(k:w.aj[i]?=some r)(c:s.aj[i]?=some a)(m:r.aa.length<=100)(v:r.aa.length=a.aa.length)(o:s.aj.length<=100)(g:x∈r.aa.map (·.1))
  (q:Q (.d ({s with aj:=s.aj.set i {a with aa:=a.aa.set (bE (r.aa.map (·.1)) x) []}}:aP).d) S):Fn oK [w.d,s.d,.int h,(Rw.all x).d] S Q:=by
 have e:=(e_ g).1
 rw[lQm] at e
 refine bq ?_
 unfold tw
 symm
 apply ar (d:=.str x) rfl ?_
 refine kr j u t k m g ?_
 refine d_ rfl (ax (aR (ax (aR (bg ?_)))))
 generalize bE (r.aa.map (·.1)) x=b at e q⊢
 symm
 apply⟨by decide,?_⟩
 have n:Op (settle S ({s with aj:=s.aj.set i {a with aa:=a.aa.set b []}}:aP).d S) λp=>Q p.1 p.2:=bH (aG _) (aP.low _) q
 exact ij (l:= []) c (by omega) (by omega) o n
end
section
variable{S:aA}{Q:Res->aA->Prop}
def ES:∀a:Rm,∃r,a.d=.tup (.str a.name::r):=λa=>⟨_,rfl⟩
def BQ:∀a:Str×List Rw,∃r,sA a=.tup (.str a.1::r):=λa=>⟨_,rfl⟩
def Ce{w:cN}{s:aP}{h:Nat}{g:Option Str}{a b:Str}{t:Tr}{v:Int}{vs:List Int}{fs:List bN}{r:Rm}{f:dW}(x:wU w s h t v)(l:s.af[h]?=some (vs,fs))(k:a∈w.aj.map (·.name))(m:w.aj[bE (w.aj.map (·.name)) a]?=some r)(c:s.aj[bE (w.aj.map (·.name)) a]?=some f)(j:b∈r.ae.map (·.1))
  (z:w.aj.length<=100) (A:r.ae.length<=100) (B:s.aj.length<=100) (o:f.row.length<=900) (C:fs.length<=900) (F:s.af.length<=100)
  (q:Q (.d ({s with af:=s.af.set h (vs,fs++ [⟨(bE (w.aj.map (·.name)) a:Nat),(bE (r.ae.map (·.1)) b:Nat),0,v,0⟩]),aj:=s.aj.set (bE (w.aj.map (·.name)) a) (jr f h)}:aP).d) S):Fn sW [w.d,s.d,.int h,(Rw.do_ g a b t).d] S Q:=by
 refine bq ?_
 unfold xW
 symm
 apply ar rfl ?_
 apply ar (d:=.str a) rfl ?_
 refine gU (enc:=Rm.d) (nm:=(·.name)) ES (by omega) k ?_
 generalize bE (w.aj.map (·.name)) a=i at m c q⊢
 symm
 apply ar rfl ?_
 refine ar (d:=r.d) (aI (by rw[gQm,m];rfl)) ?_
 symm
 apply ar rfl ?_
 apply ar (d:=.str b) rfl ?_
 refine gU (enc:=sA) (nm:=(·.1)) BQ (by omega) j ?_
 generalize bE (r.ae.map (·.1)) b=dd at q⊢
 symm
 apply ar (d:=t.d) rfl ?_
 apply x _ _ ?_
 refine⟨by show 5<=_;decide,?_⟩
 symm
 apply ar rfl ?_
 refine ar (d:=wL (vs,fs)) (aI (by rw[gQm,l];rfl)) ?_
 apply d_ rfl (ax (aR (ax (aR (bg ?_)))))
 refine⟨by show 1<=_;decide,?_⟩
 refine cY (by simp only[lQm,Qnq,QGq];exact nQl (aM (by omega))) ?_
 symm
 have e:fs.map bN.d++ [D.tup [.int i,.int dd,.int 0,.int v,.int 0]]=(fs++ [(⟨i,dd,0,v,0⟩:bN)]).map bN.d:=by rw[Qzq];rfl
 rw[e]
 generalize y:fs++ [(⟨i,dd,0,v,0⟩:bN)]=nf at q⊢
 have n:h<s.af.length:=(gQs.mp l).1
 apply fA (vs:=vs) (fs:=nf) n (by omega) ?_
 have u:Op (settle S ({s with af:=s.af.set h (vs,nf),aj:=s.aj.set i (jr f h)}:aP).d S) λp=>Q p.1 p.2:=bH (aG _) (aP.low _) q
 exact qe (s:={s with af:=s.af.set h (vs,nf)}) c (by show s.aj.length<=900;omega) o u
end
section
variable{S:aA}{Q:Res->aA->Prop}
def pY(free:Bool)(a:dW)(b:Nat)(h:Int):dW:=match a.aa[b]? with
 |some (p::l)=>if free then{a with aa:=a.aa.set b l} else{a with aa:=a.aa.set b l,within:=p.2,ag:=a.ag++ [h]}
 |_=>a
def xc{w:cN}{s:aP}{h i:Nat}{vs:List Int}{fs:List bN}{f:bN}{r:Rm}{a:dW}{x:Str}(A:s.af[h]?=some (vs,fs))(I:fs.getLast? =some f)(G:f.room=i)(u:w.aj[i]?=some r)(m:s.aj[i]?=some a)(C:r.aa.length<=100)(L:r.aa.length=a.aa.length)(F:s.aj.length<=100)(M:a.ag.length<=900)(y:x∈r.aa.map (·.1))
  (q:Q (.d ({s with aj:=s.aj.set i (pY (decide (r.ah="when free")) a (bE (r.aa.map (·.1)) x) h)}:aP).d) S):Fn lu [w.d,s.d,.int h,(Rw.call x).d] S Q:=by
 have v:=(e_ y).1
 rw[lQm] at v
 have t:i<s.aj.length:=(gQs.mp m).1
 refine bq ?_
 unfold o8
 symm
 apply ar (d:=.str x) rfl ?_
 refine kr A I G u C y ?_
 refine d_ rfl (ax (aR (ax (aR (bg ?_)))))
 generalize bE (r.aa.map (·.1)) x=b at v q⊢
 have z:b<a.aa.length:=by omega
 obtain⟨n,k⟩:∃l,a.aa[b]?=some l:=⟨_,gQe z⟩
 have g:Op (settle S ({s with aj:=s.aj.set i (pY (decide (r.ah="when free")) a b h)}:aP).d S) λp=>Q p.1 p.2:=bH (aG _) (aP.low _) q
 unfold pY at g
 rw[k] at g
 symm
 apply ar rfl ?_
 refine ar (d:=a.d) (aI (by rw[gQm,m];rfl)) ?_
 symm
 apply ar rfl ?_
 refine ar (d:=dk n) (aI (by rw[gQm,k];rfl)) ?_
 symm
 refine tR ?_
 cases n with
 | nil=>
   apply aN (λ_=> ?_) (λc=>by cases c)
   have e:s.aj.set i a=s.aj:=by
     apply List.ext_getElem?
     intro j
     rw[List.getElem?_set]
     split
     · rename_i c
       subst c
       rw[m]
       first|done|simp[t]
     · rfl
   have B:({s with aj:=s.aj.set i a}:aP)=s:=by rw[e]
   have o:Op (settle S ({s with aj:=s.aj.set i a}:aP).d S) λp=>Q p.1 p.2:=g
   rw[B] at o
   exact o
 | cons p l=>
   apply aN (λc=>by cases c) (λ_=>bM ?_)
   apply iP ?_
   apply b_ ?_
   apply⟨_,rfl,b9 ⟨_,rfl,?_⟩⟩
   have e:D.tup (hZ ((p::l).map pairD) (some 1) none)=dk l:=by
     rw[show(some (1:Int))=some ((1:Nat):Int) from rfl,gK (by simp)]
     rfl
   rw[e]
   refine ij m z (by omega) F ?_
   dsimp only at g
   generalize J:a.aa.set b l=nb at g⊢
   symm
   apply ar rfl ?_
   refine ar (d:=r.d) (aI (by rw[gQm,u];rfl)) ?_
   symm
   apply ar (d:=.str r.ah) rfl ?_
   refine ef ?_
   dsimp only
   by_cases c:r.ah="when free"
   · rw[Qeq c] at g⊢
     rw[Qhq rfl] at g
     rw[Qhq rfl]
     symm
     exact g
   · rw[Qdq c] at g⊢
     rw[Quq (by decide)] at g
     rw[Quq (by decide)]
     apply bM ?_
     refine ar rfl ?_
     have K:((s.aj.set i {a with aa:=nb}).map dW.d)[i]?=some ({a with aa:=nb}:dW).d:=by rw[gQm,Qyq t];rfl
     symm
     refine ar (d:=({a with aa:=nb}:dW).d) (aI K) ?_
     apply d_ rfl (ax (aR (ax (aR (ax (aR (ax (aR (ax (aR (bg ?_)))))))))))
     apply ar (d:=pairD p) B6 ?_
     apply ar (d:=.int p.2) rfl ?_
     refine⟨by show 1<=_;decide,?_⟩
     refine cY (by simp only[lQm,Qnq,QGq];exact nQl (aM (by omega))) ?_
     symm
     refine⟨by show 5<=_;decide,?_⟩
     symm
     have H:D.tup [cb a.vals,.int p.2,cb a.row,.tup (a.ag.map D.int++ [.int h]),.tup (nb.map dk)]=({a with aa:=nb,within:=p.2,ag:=a.ag++ [(h:Int)]}:dW).d:=by simp[dW.d,cb]
     rw[H]
     have o:Op (settle S ({s with aj:=(s.aj.set i {a with aa:=nb}).set i {a with aa:=nb,within:=p.2,ag:=a.ag++ [(h:Int)]}}:aP).d S) λp=>Q p.1 p.2:=by rw[List.set_set];exact g
     exact cj (s:={s with aj:=s.aj.set i {a with aa:=nb}}) (by simpa using t) (by simp;omega) o
end
end W28
namespace DL
open PySem PySem.Spec L2
def lT{α:Type}{u:cp}{S:aA}{js:List (Option Nat)}{i:qG}{g:jB}{t:ir}{o:aU}{Q:List D->aA->Prop}(P:cp->Prop)(enc G:α->D)(c:α->Bool)(M:P (kg js u)) (h:E i u S λp f=>∃xs:List α,p.1=xs.map enc/\p.2 f/\xs.length<=1000∧
   (∀x∈xs,∀a,P a->Tg g (enc x) a f λb S2=>S2=f/\P b/\E t b f λk w=>w=f/\k=c x/\(c x=true->E o b f λy z=>y=G x/\z=f))/\Q ((xs.filter c).map G) f):E (bP js i g t o) u S Q:=by
 refine hG (h.mono λp f K=> ?_)
 obtain⟨xs,B,I,W,J,q⟩:=K
 refine⟨λn a r j=>r=f/\j=((xs.take n).filter c).map G/\P a,⟨rfl,rfl,M⟩,λn a r j h=>by rw[h.1];exact I,λn d a r j s h=> ?_,λa r j h=> ?_⟩
 ·obtain⟨rfl,rfl,h3⟩:=h
  have s:p.1[n]?=some d:=s
  rw[B,gQm] at s
  obtain⟨x,l,rfl⟩:=oQm.mp s
  obtain⟨b,S2,F,rfl,h4,h5⟩:=J x (mQg l) a h3
  refine⟨b,S2,F,?_⟩
  refine h5.mono λk w v=> ?_
  obtain⟨R,N,C⟩:=v
  subst R N
  have U:=(gQs.mp l).1
  have A:((xs.take (n+1)).filter c).map G=((xs.take n).filter c).map G++if c x=true then [G x] else []:=by
   rw[QYq,l]
   cases m:c x <;>simp[m]
  by_cases m:c x=true
  ·rw[Qhq m]
   refine(C m).mono λy z v=> ?_
   obtain⟨H,L⟩:=v
   subst H L
   refine⟨?_,rfl,?_,h4⟩
   ·rw[lQm]
    have:=List.length_filter_le c (xs.take n)
    rw[Qxq] at this
    exact aM (by omega)
   ·rw[A,Qhq m]
  ·rw[Quq m]
   refine⟨rfl,?_,h4⟩
   rw[A,Quq m,List.append_nil]
 ·obtain⟨rfl,rfl,_⟩:=h
  have e:p.1.length=xs.length:=by rw[B,lQm]
  show Q (((xs.take p.1.length).filter c).map G) _
  rw[e,QEq]
  exact q
end DL
namespace W28
open PySem PySem.Spec L2 DL
section
variable{S:aA}{Q:Res->aA->Prop}
def zA(l:List (Int×Int))(t h:Int):List (Int×Int):=l.take (l.filter λp=>decide (p.1<=t)).length++ [(t,h)]++l.drop (l.filter λp=>decide (p.1<=t)).length
def yi{w:cN}{s:aP}{h i:Nat}{vs:List Int}{fs:List bN}{f:bN}{r:Rm}{k:dW}{x y:Str}{t:Tr}{v:Int}{g:List (Int×Int)}(P:s.af[h]?=some (vs,fs))(hf:fs.getLast? =some f)(Z:f.room=i)(K:w.aj[i]?=some r)(u:s.aj[i]?=some k)(U:r.aa.length<=100)(l2:r.aa.length=k.aa.length)(Y:s.aj.length<=100)(L:x∈r.aa.map (·.1))
  (C:r.aa[bE (r.aa.map (·.1)) x]?=some (x,y)) (m:k.aa[bE (r.aa.map (·.1)) x]?=some g) (b4:g.length<=900) (I:wU w s h t v)
  (q:Q (.d ({s with aj:=s.aj.set i (dm {k with aa:=k.aa.set (bE (r.aa.map (·.1)) x) (zA g (if y="turns" then v else 0) h)})}:aP).d) S):Fn lY [w.d,s.d,.int h,(Rw.wait x t).d] S Q:=by
 have G:=(e_ L).1
 rw[lQm] at G
 have hi:i<s.aj.length:=(gQs.mp u).1
 refine bq ?_
 unfold pE
 symm
 apply ar (d:=.str x) rfl ?_
 refine kr P hf Z K U L ?_
 refine d_ rfl (ax (aR (ax (aR (bg ?_)))))
 generalize bE (r.aa.map (·.1)) x=b at G q C m⊢
 have X:b<k.aa.length:=by omega
 symm
 apply ar rfl ?_
 refine ar (d:=r.d) (aI (by rw[gQm,K];rfl)) ?_
 symm
 apply ar rfl ?_
 refine ar (d:=Ge (x,y)) (aI (by rw[gQm,C];rfl)) ?_
 symm
 apply ar (d:=.str y) rfl ?_
 refine ef ?_
 dsimp only
 have z:∀j:Int,j=(if y="turns" then v else 0)->T (aE (a_ 7 (bf qY (bf qY (bf qY (bf qY (au 1) (cF (.int 0))) (au 4)) (cF (.int 4))) (au 5)))
   (aE (a_ 8 (iZ (kL (bP [none,none,some 6] (qm (bJ (au 7))) (jR (nG 2 (aF (bU 0) (aF (bU 1) dw)))) (aQ (bf Ju (au 0) (au 2))) (au 0)))))
   (aE (a_ 9 (az dA (av (au 1) (av (au 4) (av (au 5) (av (bf bK (bf bK (pU (au 7) qF (p5 (au 8))) (bc (av (bc (av (au 6) (av (au 2) aw))) aw))) (pU (au 7) (p5 (au 8)) qF)) aw))))))
   (cz (az mJ (av (au 9) (av (au 4) aw)))))))
   [some w.d,some s.d,some (.int h),some (Rw.wait x t).d,some (.int i),some (.int b),some (.int j),none,none,none] S (λo=>match o with
   |.nx _ A=>Op (settle S .non A) λp=>Q p.1 p.2|.rt d A=>Op (settle S d A) λp=>Q p.1 p.2|.rl l A=>Op (dj S l A) λp=>Q p.1 p.2|_=>False):=by
  intro j H
  rw[←H] at q
  symm
  apply ar rfl ?_
  refine ar (d:=k.d) (aI (by rw[gQm,u];rfl)) ?_
  symm
  apply ar rfl ?_
  refine ar (d:=dk g) (aI (by rw[gQm,m];rfl)) ?_
  symm
  apply lT (α:=Int×Int) (λB=>∃a b,B= [a,b,some (.int j)]) pairD (λp=>.int p.1) (λp=>decide (p.1<=j)) ⟨none,none,rfl⟩ ?_
  refine cQ (ds:=g.map pairD) ?_
  refine⟨g,rfl,trivial,by omega,λp G B J=> ?_,?_⟩
  ·obtain⟨a,b,rfl⟩:=J
   refine d_ rfl (ax (aR (ax (aR (bg ?_)))))
   apply⟨rfl,⟨_,_,rfl⟩,?_⟩
   apply⟨rfl,rfl,λ_=> ?_⟩
   exact⟨rfl,rfl⟩
  have W:((g.filter λp=>decide (p.1<=j)).map λp=>D.int p.1).length=(g.filter λp=>decide (p.1<=j)).length:=lQm ..
  have F:=List.length_filter_le (λp=>decide (p.1<=j)) g
  unfold zA at q
  symm
  rw[W]
  generalize (g.filter λp=>decide (p.1<=j)).length=n at q F⊢
  apply iP ?_
  apply b9 (b_ ?_)
  refine⟨_,rfl,g.map pairD,rfl,?_⟩
  rw[AZ (by rw[lQm];exact F)]
  symm
  refine⟨by show 2<=_;decide,?_⟩
  symm
  refine⟨by show 1<=_;decide,?_⟩
  refine cY (by simp only[lQm,Qxq,Qnq,QGq];exact nQl (aM (by omega))) ?_
  apply iP ?_
  apply b_ ?_
  refine⟨_,rfl,b9 ⟨g.map pairD,rfl,?_⟩⟩
  rw[gK (by rw[lQm];exact F)]
  refine cY (by simp only[lQa,lQm,Qxq,List.length_drop,Qnq,QGq];exact nQl (aM (by omega))) ?_
  symm
  have e:D.tup ((g.map pairD).take n++ [D.tup [.int j,.int h]]++(g.map pairD).drop n)=dk (g.take n++ [(j,(h:Int))]++g.drop n):=by
   simp only[dk,Qzq,List.map_take,List.map_drop]
   rfl
  rw[e]
  generalize g.take n++ [(j,(h:Int))]++g.drop n=nl at q⊢
  apply ij u X (by omega) Y ?_
  have M:Op (settle S ({s with aj:=s.aj.set i (dm {k with aa:=k.aa.set b nl})}:aP).d S) λp=>Q p.1 p.2:=bH (aG _) (aP.low _) q
  generalize N:({k with aa:=k.aa.set b nl}:dW)=nr at M⊢
  have R:Op (settle S ({s with aj:=(s.aj.set i nr).set i (dm nr)}:aP).d S) λp=>Q p.1 p.2:=by rw[List.set_set];exact M
  exact uN (s:={s with aj:=s.aj.set i nr}) (Qyq hi) (by simp;omega) R
 by_cases c:y="turns"
 ·rw[Qeq c,Qhq rfl]
  symm
  apply ar (d:=t.d) rfl ?_
  refine I _ _ ?_
  exact z v (by rw[Qhq c])
 ·rw[Qdq c,Quq (by decide)]
  refine bM ?_
  exact z 0 (by rw[Quq c])
end
end W28
namespace DL
open PySem PySem.Spec L2
section
variable{Γ:cp}{S:aA}
def JD{a:List (Str×Str)}{g:aU}{Q:D->aA->Prop}(h:E g Γ S λy b=>∃x nm,y=.str x/\a.lookup x=some nm/\Q (.fn nm) b):E (IK a g) Γ S Q:=by
 obtain⟨y,b,c,x,nm,rfl,e2,q⟩:=h
 exact⟨_,b,by unfold IK;rw[c];simp only[Qbq];rw[e2];rfl,q⟩
def DI{i:Nat}{T:List (Str×cI)}{g:fD}{x:Str}{F:cI}{Q:D->aA->Prop}(d:Γ[i]?=some (some (.fn x)))(a:T.lookup x=some F)(h:E (az F g) Γ S Q):E (pJ i T g) Γ S Q:=by
 obtain⟨y,b,c,q⟩:=h
 exact⟨_,b,by unfold pJ;rw[d];show(T.lookup x).bind _=_;rw[a];exact c,q⟩
def EC{f:aU}{Q:D->aA->Prop}(h:E f Γ S λd a=>∃k,d=.bl k/\Q (.bl (!k)) a):E (Dw f) Γ S Q:=by
 obtain⟨d,a,b,k,rfl,q⟩:=h
 exact⟨_,a,by unfold Dw;rw[b];rfl,q⟩
def Bn{a:Bool}{x:D}{Q:D->Prop}(q:Q (.bl (if a then !isNone x else isNone x))):Op (Bz a S x .non) Q:=⟨_,rfl,q⟩
end
def r9{α:Type}{xs:List α}{a b:α}:lW (xs++ [a,b]) (-2)=some a:=by
 unfold lW yu
 rw[Quq (by omega),Qhq (by simp;omega)]
 simp only[Qbq]
 rw[show((-2:Int)+((xs++ [a,b]).length:Int)).toNat=xs.length by simp;omega]
 simp
end DL
namespace W28
open PySem PySem.Spec L2 DL
section
variable{S:aA}{Q:Res->aA->Prop}
def KG:Rw->cI
 |.put _ _=>oO
 |.unl _ _=>iw
 |.go _=>sQ
 |.do_ _ _ _ _=>sW
 |.wait _ _=>lY
 |.call _=>lu
 |.all _=>oK
 |.tell _=>lA
 |.take _=>lI
 |.give _=>lq
 |.pass _ _=>l8
 |.say _=>oG
def Rw.kind:Rw->Str
 |.put _ _=>"put"
 |.unl _ _=>"unless"
 |.go _=>"go"
 |.do_ _ _ _ _=>"do"
 |.wait _ _=>"wait"
 |.call _=>"call"
 |.all _=>"all"
 |.tell _=>"tell"
 |.take _=>"take"
 |.give _=>"give"
 |.pass _ _=>"pass"
 |.say _=>"say"
def Rw.d_kind(r:Rw):∃l,r.d=.tup (.str r.kind::l):=by cases r <;>exact⟨_,rfl⟩
def Ds(r:Rw):∃nm,jH.lookup r.kind=some nm/\pS.lookup nm=some (KG r):=by
 cases r
 ·exact⟨"by_put",rfl,rfl⟩
 ·exact⟨"by_unless",rfl,rfl⟩
 ·exact⟨"by_go",rfl,rfl⟩
 ·exact⟨"by_do",rfl,rfl⟩
 ·exact⟨"by_wait",rfl,rfl⟩
 ·exact⟨"by_call",rfl,rfl⟩
 ·exact⟨"by_all",rfl,rfl⟩
 ·exact⟨"by_tell",rfl,rfl⟩
 ·exact⟨"by_take",rfl,rfl⟩
 ·exact⟨"by_give",rfl,rfl⟩
 ·exact⟨"by_pass",rfl,rfl⟩
 ·exact⟨"by_say",rfl,rfl⟩
def Ez(w:cN)(s:aP)(h:Nat)(r:Rw)(a:aP):Prop:=∀(S:aA) (Q:Res->aA->Prop),Q (.d a.d) S->Fn (KG r) [w.d,s.d,.int h,r.d] S Q
def vS{w:cN}{s a:aP}{h:Nat}{r:Rw}(hd:Ez w s h r a)(q:Q (.d a.d) S):Fn gM [w.d,s.d,.int h,r.d] S Q:=by
 obtain⟨c,f,e⟩:=Ds r
 obtain⟨l,b⟩:=r.d_kind
 refine bq ?_
 unfold r_
 apply bA (G8 (JD ?_))
 rw[b]
 refine ar (d:=.str r.kind) B6 ?_
 rw[←b]
 refine⟨_,c,rfl,f,?_⟩
 apply nI (DI (x:=c) rfl e ?_)
 refine hd _ _ ?_
 exact bH (aG _) (aP.low _) q
def nQ{w:cN}{s o:aP}{h i:Nat}{vs:List Int}{e:List bN}{b f:bN}{l:dW}{pr:List Rw}{g:Option Str}{u v:Str}{t:Tr}(r:s.af[h]?=some (vs,e++ [b,f]))(C:f.room=i)(n:s.aj[i]?=some l)(B:s.aj.length<=900)(A:s.af.length<=900)
  (y:progOf w h b=some pr) (F:1<=b.row) (k:pr[(b.row-1).toNat]?=some (.do_ g u v t))
  (j:∀a:aP,a={s with aj:=s.aj.set i (dm l),af:=s.af.set h (vs,e++ [b])}->match g with|none=>o=a|some x=>Puts w a h x f.told o)
  (q:Q (.d o.d) S):Fn gH [w.d,s.d,.int h] S Q:=by
 have z:h<s.af.length:=(gQs.mp r).1
 refine bq ?_
 unfold nj
 symm
 apply ar rfl ?_
 refine ar (d:=wL (vs,e++ [b,f])) (aI (by rw[gQm,r];rfl)) ?_
 refine d_ rfl (ax (aR (ax (aR (bg ?_)))))
 have m:(e++ [b,f]).map bN.d=e.map bN.d++ [b.d,f.d]:=by simp
 dsimp only
 rw[m]
 symm
 apply jX ?_
 refine⟨1,rfl,?_⟩
 refine ar (d:=f.d) (wu (by simp)) ?_
 refine d_ rfl (ax (aR (ax (aR (ax (aR (ax (aR (ax (aR (bg ?_)))))))))))
 rw[C]
 symm
 apply uN n B ?_
 apply iP ?_
 apply b9 (b_ (jX ?_))
 refine⟨1,rfl,_,rfl,_,rfl,?_⟩
 rw[uR (by simp)]
 have p:D.tup ((e.map bN.d++ [b.d,f.d]).dropLast)=.tup ((e++ [b]).map bN.d):=by
  rw[show e.map bN.d++ [b.d,f.d]=(e.map bN.d++ [b.d])++ [f.d] by simp,List.dropLast_concat]
  simp
 rw[p]
 symm
 refine fA (s:={s with aj:=s.aj.set i (dm l)}) z A ?_
 have j:=j _ rfl
 dsimp only at j⊢
 generalize ({s with aj:=s.aj.set i (dm l),af:=s.af.set h (vs,e++ [b])}:aP)=a at j⊢
 symm
 apply jX ?_
 refine⟨2,rfl,?_⟩
 apply ar (d:=b.d) r9 ?_
 apply eO y ?_
 apply jX ?_
 refine⟨2,rfl,?_⟩
 apply ar (d:=b.d) r9 ?_
 apply ar (d:=.int b.row) rfl ?_
 refine ar (d:=(Rw.do_ g u v t).d) (jz (by omega) (by rw[gQm,k];rfl)) ?_
 symm
 apply ar (d:=EY g) rfl ?_
 refine Bn ?_
 cases g with
 | none=>
   dsimp only at j
   subst j
   apply aN (λ_=> ?_) (λc=>by cases c)
   exact bH (aG _) (aP.low _) q
 | some x=>
   apply aN (λc=>by cases c) (λ_=>bM ?_)
   apply ar (d:=.str x) rfl ?_
   refine j _ _ ?_
   exact bH (aG _) (aP.low _) q
end
section
variable{S:aA}{Q:Res->aA->Prop}
def Iv(h:Nat):Option Int->D
 |none=>.non
 |some v=>.tup [.int h,.int v]
def Dx(h:Nat)(e:Option Int):bB 0 (Iv h e)=true:=by cases e <;>rfl
def D9(s:aP)(h:Nat)(e:Option Int):D:=.tup [s.d,Iv h e]
def oN(s:aP)(h:Nat)(e:Option Int):bB 0 (D9 s h e)=true:=by
 simp only[D9,bB,bh,Dx,aP.low,Bool.and_true]
def vU(w:cN)(s:aP)(h:Nat)(a:aP)(e:Option Int):Prop:=∀(S:aA) (Q:Res->aA->Prop),Q (.d (D9 a h e)) S->Fn lB [w.d,s.d,.int h] S Q
def AF{w:cN}{s:aP}{h i:Nat}{vs:List Int}{fs:List bN}{f:bN}{a:dW}(c:s.af[h]?=some (vs,fs))(m:fs.getLast? =some f)(l:f.room=i)(b:s.aj[i]?=some a)(e:a.within≠h)(j:s.aj.length<=900)(g:a.row.length<=900):
  vU w s h {s with aj:=s.aj.set i (jr a h)} none:=by
 intro S Q q
 refine bq ?_
 unfold i4
 symm
 apply bp c m ?_
 apply ar (d:=.int f.room) rfl ?_
 refine jV ?_
 dsimp only
 rw[Qdq (show¬f.room= -1 by omega),l]
 show if (true=true) then _ else _
 rw[Qhq rfl]
 symm
 apply ar rfl ?_
 refine ar (d:=a.d) (aI (by rw[gQm,b];rfl)) ?_
 symm
 apply ar (d:=.int a.within) rfl ?_
 refine jV ?_
 dsimp only
 rw[Qdq e]
 show if (true=true) then _ else _
 rw[Qhq rfl]
 symm
 apply qe b j g ?_
 refine⟨by show 2<=_;decide,?_⟩
 exact bH (d:=D9 _ h none) (λk z=>(nomatch z)) (oN _ _ _) q
def Here(s:aP)(h:Nat)(f:bN):Prop:=f.room= -1\/∃(i:Nat) (a:dW),f.room=i/\s.aj[i]?=some a/\a.within=h
def se{w:cN}{s:aP}{h:Nat}{f:bN}{a b c d:Option D}{Q:Bool->aA->Prop}(k:Here s h f)(q:Q false S):E (qI (aQ (bf (gC true) (au 4) (cF (.int (-1))))) (aQ (bf (gC true) (bf qY (bf qY (bf qY (au 1) (cF (.int 0))) (au 4)) (cF (.int 1))) (au 2)))) [some w.d,some s.d,some (.int h),some f.d,some (.int f.room),a,b,c] S Q:=by
 rcases k with e|⟨i,j,e,g,l⟩
 ·symm
  refine jV ?_
  dsimp only
  rw[Qeq e]
  show if (false=true) then _ else _
  rw[Quq (by decide)]
  exact q
 ·symm
  refine jV ?_
  dsimp only
  rw[Qdq (show¬f.room= -1 by omega),e]
  show if (true=true) then _ else _
  rw[Qhq rfl]
  symm
  apply ar rfl ?_
  refine ar (d:=j.d) (aI (by rw[gQm,g];rfl)) ?_
  symm
  apply ar (d:=.int j.within) rfl ?_
  refine jV ?_
  dsimp only
  rw[Qeq l]
  exact q
def wD{w:cN}{s b:aP}{h:Nat}{vs:List Int}{fs:List bN}{f:bN}{pr:List Rw}(e:s.af[h]?=some (vs,fs))(j:fs.getLast? =some f)(i:Here s h f)(g:progOf w h f=some pr)(a:f.row=pr.length)
  (he:∀(S:aA) (Q:Res->aA->Prop),Q (.d b.d) S->Fn gH [w.d,s.d,.int h] S Q):vU w s h b none:=by
 intro S Q q
 refine bq ?_
 unfold i4
 symm
 apply bp e j ?_
 refine ar (d:=.int f.room) rfl ?_
 refine bA (dR (se (d:=none) i ?_))
 apply aN (λc=>by cases c) (λ_=>bM ?_)
 apply eO g ?_
 apply ar (d:=.int f.row) rfl ?_
 refine gf ?_
 dsimp only
 rw[lQm,Qeq a,Qhq rfl]
 symm
 apply he _ _ ?_
 refine⟨by show 2<=_;decide,?_⟩
 exact bH (d:=D9 _ h none) (λk z=>(nomatch z)) (oN _ _ _) q
def Fo(w:cN)(s:aP)(h:Nat)(r:Rw)(e:Option Int):Prop:=match r with
 |.say t=>∃v,e=some v/\wU w s h t v
 |_=>e=none
def vQ{w:cN}{s m:aP}{h:Nat}{vs:List Int}{fs:List bN}{f:bN}{pr:List Rw}{r:Rw}{e:Option Int}(j:s.af[h]?=some (vs,fs))(n:fs.getLast? =some f)(A:Here s h f)(y:progOf w h f=some pr)(C:0<=f.row)(b:pr[f.row.toNat]?=some r)(u:fs.length<=900)(B:s.af.length<=900)
  (a:Fo w s h r e) (hd:Ez w {s with af:=s.af.set h (vs,fs.dropLast++ [{f with row:=f.row+1}])} h r m):vU w s h m e:=by
 intro S Q q
 have x:=(gQs.mp b).1
 refine bq ?_
 unfold i4
 symm
 apply bp j n ?_
 refine ar (d:=.int f.room) rfl ?_
 refine bA (dR (se (d:=none) A ?_))
 apply aN (λc=>by cases c) (λ_=>bM ?_)
 apply eO y ?_
 apply ar (d:=.int f.row) rfl ?_
 refine gf ?_
 dsimp only
 rw[lQm,Qdq (show¬f.row=(pr.length:Int) by omega),Quq (by decide)]
 apply bM ?_
 refine ar (d:=.int f.row) rfl ?_
 refine ar (d:=r.d) (jz C (by rw[gQm,b];rfl)) ?_
 symm
 obtain⟨l,F⟩:=r.d_kind
 have g:T (cz (bc (av (az gM (av (au 0) (av (az iy (av (au 1) (av (au 2) (av (bf bK (bf qY (au 3) (cF (.int 2))) (cF (.int 1))) aw)))) (av (au 2) (av (au 6) aw))))) (av (au 7) aw))))
   [some w.d,some s.d,some (.int h),some f.d,some (.int f.room),some (.tup (pr.map Rw.d)),some r.d,some (Iv h e)] S (λo=>match o with
   |.nx _ i=>Op (settle S .non i) λp=>Q p.1 p.2|.rt d i=>Op (settle S d i) λp=>Q p.1 p.2|.rl l i=>Op (dj S l i) λp=>Q p.1 p.2|_=>False):=by
  symm
  apply ar (d:=.int f.row) rfl ?_
  apply mQ j n u B ?_
  apply vS hd ?_
  refine⟨by show 2<=_;decide,?_⟩
  exact bH (d:=D9 _ h e) (λk z=>(nomatch z)) (oN _ _ _) q
 cases r with
 | say t=>
   obtain⟨v,rfl,hv⟩:=a
   apply ar (d:=.str "say") rfl ?_
   refine ef ?_
   dsimp only
   rw[Qeq rfl,Qhq rfl]
   symm
   apply ar (d:=t.d) rfl ?_
   apply hv _ _ ?_
   refine⟨by show 2<=_;decide,?_⟩
   exact g
 | _=>
   have a:e=none:=a
   subst a
   apply ar rfl ?_
   refine ef ?_
   dsimp only
   refine aN (λc=>absurd (QZq c) (by decide +kernel)) (λ_=>bM ?_)
   exact g
end
end W28
namespace DL
open PySem PySem.Spec L2
section
variable{Γ:cp}{S:aA}
def Cz{f:aU}{g:dg}{Q:D->aA->Prop}(h:E f Γ S λx b=>∃k a,x=.ref k/\b[k]?=some (.lst a)/\E g Γ b λp S2=>∃ds,S2[k]?=some (.lst ds)/\(p.2.isL=false/\ds.length+p.1.length<=sizeLine)/\Q .non (S2.set k (.lst (ds++p.1)))):E (rL f g) Γ S Q:=by
 obtain⟨x,b,c,k,a,rfl,h1,p,S2,e2,ds,h2,h3,q⟩:=h
 exact⟨_,_,by unfold rL;rw[c];simp only[Qbq,e2,h1,h2];rw[Qhq h3],q⟩
end
def qu{S a:aA}{k:Nat}{ds:List D}{Q:Res×aA->Prop}(d:iK S a)(e:S.length<=k)(b:a[k]?=some (.lst ds))(c:bh S.length ds=true)(q:Q (.l ds,a.take S.length)):Op (settle S (.ref k) a) Q:=by
 refine⟨_,?_,q⟩
 unfold settle
 rw[Qhq d]
 show(if k<S.length then _ else _)=_
 rw[Quq (by omega),b]
 show(if bh S.length ds=true then _ else _)=_
 rw[Qhq c]
def tq{n:Nat}(h:n<=100000):n<=sizeLine:=QAq h (by decide)
theorem dE:∀a:List Int,gI (a.map D.int)=some (a.map V.int)
 | []=>rfl
 |s::a=>by simp only[QDq,gI,uC,Qbq];rw[dE a];rfl
def oQ{x:Int}{b:List Int}:B5 (.int x) (b.map V.int)=decide (x∈b):=by
 induction b with
 |nil=>rfl
 | cons a b d=>
   show(oz (.int a) (.int x)||B5 (.int x) (b.map V.int))=_
   rw[d]
   simp only[oz,Qsq]
   by_cases c:a=x
   · subst c;simp
   · have e:¬x=a:=λz=>c z.symm
     simp[c,e]
end DL
namespace W28
open PySem PySem.Spec L2 DL
section
variable{S:aA}{Q:Res->aA->Prop}
def wG{S b:aA}(x:rf S b):b.take S.length=S:=by
 apply List.ext_getElem?
 intro j
 by_cases a:j<S.length
 ·rw[List.getElem?_take_of_lt a]
  exact x.eq j a
 ·rw[List.getElem?_eq_none (by rw[Qxq];omega),List.getElem?_eq_none (by omega)]
def FA{S a:aA}{ds:List D}{Q:Res->aA->Prop}(x:rf S a)(c:bh 0 ds=true)(q:Q (.l ds) S):Op (dj S ds a) λp=>Q p.1 p.2:=
 km ⟨x.len,λk o b e=>.inl (by rw[←x.eq k b];exact e)⟩ (wG x) (gR c) q
def F2{S b:aA}{k:Nat}{ds:List D}{Q:Res->aA->Prop}(x:rf S b)(a:S.length<=k)(c:b[k]?=some (.lst ds))(d:bh 0 ds=true)(q:Q (.l ds) S):Op (settle S (.ref k) b) λp=>Q p.1 p.2:=
 qu ⟨x.len,λk o a e=>.inl (by rw[←x.eq k a];exact e)⟩ a c (gR d) (by rw[wG x];exact q)
def vD{l:List (Int×Int)}(f:l.length<=1000)(q:Q (.l ((l.map (·.2)).map D.int)) S):Fn jA [dk l] S Q:=by
 refine bq ?_
 unfold mC
 symm
 apply kP (α:=Int×Int) (λc=>∃a b,c= [a,b]) pairD (λp=>.int p.2) ⟨none,none,rfl⟩ ?_
 refine cQ (ds:=l.map pairD) ?_
 refine⟨l,rfl,trivial,f,λp g c d=> ?_,?_⟩
 ·obtain⟨a,b,rfl⟩:=d
  refine d_ rfl (ax (aR (ax (aR (bg ?_)))))
  apply⟨rfl,⟨_,_,rfl⟩,?_⟩
  exact⟨rfl,rfl⟩
 ·have e:l.map (λp=>D.int p.2)=(l.map (·.2)).map D.int:=by rw[QPq];rfl
  rw[e]
  exact Cu (aK λ_ _=>rfl) q
def il(r:dW):List Int:=r.row++r.ag++r.aa.flatMap λl=>l.map (·.2)
def held(s:aP):List Int:=s.ai.flatMap (·.2)++s.aj.flatMap il
theorem lP{α d:Type}{f:α->List d}{n:Nat}:∀{l:List α},(∀a∈l,(f a).length<=n)->(l.flatMap f).length<=n*l.length
 | [],_=>by simp
 | a::l,h=>by
   have g:=h a (QBq ..)
   have e:=lP (f:=f) (l:=l) λb c=>h b (Qpq _ c)
   rw[QSq,lQa,Qnq,Nat.mul_add]
   omega
def mS{α b:Type}{f:α->List b}{l:List α}{n:Nat}{a:α}(h:l[n]?=some a):(l.take (n+1)).flatMap f=(l.take n).flatMap f++f a:=by
 rw[QYq,h]
 simp
def mW{s:aP}{n:Nat}(P:n<=100)(b1:s.ai.length<=100)(b2:s.aj.length<=20)(M:∀p∈s.ai,p.2.length<=n)(L:∀r∈s.aj,r.row.length<=n/\r.ag.length<=n/\r.aa.length<=10/\∀l∈r.aa,l.length<=n)
  (q:Q (.l ((held s).map D.int)) S):Fn df [s.d] S Q:=by
 have Z:∀o:List D,rf S (S++ [.lst o]):=λo=>rf.refl.app
 have G:∀r∈s.aj,∀j:Nat,((r.aa.take j).flatMap λl=>l.map (·.2)).length<=1000:=λr G j=>by
  obtain⟨_,_,U,R⟩:=L r G
  have H:=lP (f:=λl:List (Int×Int)=>l.map (·.2)) (n:=n) (l:=r.aa.take j) λl v=>by rw[lQm];exact R l (List.mem_of_mem_take v)
  have F:(r.aa.take j).length<=10:=by rw[Qxq];omega
  have X:n*(r.aa.take j).length<=100*10:=Nat.mul_le_mul P F
  omega
 have J:∀r∈s.aj,(il r).length<=1200:=λr h=>by
  have K:=G r h r.aa.length
  obtain⟨Y,U,_⟩:=L r h
  rw[QEq] at K
  simp only[il,lQa]
  omega
 have x:∀j:Nat,((s.ai.take j).flatMap (·.2)).length<=10000:=λj=>by
  have H:=lP (f:=λp:Int×List Int=>p.2) (n:=n) (l:=s.ai.take j) λl v=>M l (List.mem_of_mem_take v)
  have F:(s.ai.take j).length<=100:=by rw[Qxq];omega
  have X:n*(s.ai.take j).length<=100*100:=Nat.mul_le_mul P F
  omega
 have I:∀j:Nat,((s.aj.take j).flatMap il).length<=24000:=λj=>by
  have H:=lP (f:=il) (n:=1200) (l:=s.aj.take j) λl v=>J l (List.mem_of_mem_take v)
  have F:(s.aj.take j).length<=20:=by rw[Qxq];omega
  omega
 refine bq ?_
 unfold fR
 symm
 refine⟨by decide,?_⟩
 apply bA (oV (uU ?_))
 refine ar rfl ?_
 refine cQ (ds:=s.ai.map sm) ?_
 refine⟨λj k u=>(∃a b c d e f g,k= [some s.d,some (.ref S.length),a,b,c,d,e,f,g])/\u=S++ [.lst (((s.ai.take j).flatMap (·.2)).map D.int)],⟨⟨_,_,_,_,_,_,_,rfl⟩,rfl⟩,λ_ _ _ _=>trivial,?_,?_⟩
 ·rintro j d k u t ⟨⟨a,b,c,C,e,f,g,rfl⟩,rfl⟩
  have t:(s.ai.map sm)[j]?=some d:=t
  rw[gQm] at t
  obtain⟨p,N,rfl⟩:=oQm.mp t
  refine d_ rfl (ax (aR (ax (aR (bg ?_)))))
  apply vJ (Cz ?_)
  apply⟨_,_,rfl,bt,?_⟩
  refine cQ (ds:=p.2.map D.int) ?_
  refine⟨_,bt,⟨rfl,?_⟩,⟨_,_,_,_,_,_,_,rfl⟩,?_⟩
  ·have:=x j
   have:=M p (mQg N)
   simp only[lQm]
   exact tq (by omega)
  ·rw[mS N,Qzq]
   simp
 rintro k u ⟨⟨a,b,c,C,e,f,g,rfl⟩,rfl⟩
 have v:(s.ai.map sm).length=s.ai.length:=lQm ..
 rw[v,QEq]
 apply bA (oV (uU ?_))
 refine ar rfl ?_
 refine cQ (ds:=s.aj.map dW.d) ?_
 refine⟨λj k u=>(∃a b c d e f g,k= [some s.d,some (.ref S.length),a,b,c,d,e,f,g])/\u=S++ [.lst ((s.ai.flatMap (·.2)++(s.aj.take j).flatMap il).map D.int)],⟨⟨_,_,_,_,_,_,_,rfl⟩,by simp⟩,λ_ _ _ _=>trivial,?_,?_⟩
 ·rintro j d k u t ⟨⟨a,b,c,C,e,f,g,rfl⟩,rfl⟩
  have t:(s.aj.map dW.d)[j]?=some d:=t
  rw[gQm] at t
  obtain⟨r,A,rfl⟩:=oQm.mp t
  have w:=mQg A
  obtain⟨Y,U,R,H⟩:=L r w
  have y:(s.ai.flatMap (·.2)++(s.aj.take j).flatMap il).length<=34000:=by
   have:=x s.ai.length
   rw[QEq] at this
   have:=I j
   rw[lQa]
   omega
  generalize z:s.ai.flatMap (·.2)++(s.aj.take j).flatMap il=o at y⊢
  refine d_ rfl (ax (aR (ax (aR (ax (aR (ax (aR (ax (aR (bg ?_)))))))))))
  apply bA (vJ (Cz ?_))
  apply⟨_,_,rfl,bt,?_⟩
  refine cY (i:=r.row.map D.int) (j:=r.ag.map D.int) (by simp only[lQm];exact tq (by omega)) ?_
  refine cQ ?_
  refine⟨_,bt,⟨rfl,?_⟩,?_⟩
  ·simp only[lQa,lQm]
   exact tq (by omega)
  dsimp only
  have W:(S++ [O.lst (o.map D.int)]).set S.length (.lst (o.map D.int++(r.row.map D.int++r.ag.map D.int)))=S++ [.lst ((o++(r.row++r.ag)).map D.int)]:=by simp
  rw[W]
  apply oV (uU ?_)
  refine⟨λj k u=>(∃a b c d e f g,k= [some s.d,some (.ref S.length),a,b,c,d,e,f,g])/\u=S++ [.lst ((o++(r.row++r.ag)++(r.aa.take j).flatMap λl=>l.map (·.2)).map D.int)],⟨⟨_,_,_,_,_,_,_,rfl⟩,by simp⟩,λ_ _ _ _=>trivial,?_,?_⟩
  ·rintro m d k u t ⟨⟨a,b,c,C,e,f,g,rfl⟩,rfl⟩
   have t:(r.aa.map dk)[m]?=some d:=t
   rw[gQm] at t
   obtain⟨l,B,rfl⟩:=oQm.mp t
   have a1:=H l (mQg B)
   refine aR ?_
   apply vJ (HW ?_)
   apply⟨_,_,rfl,bt,?_⟩
   apply vD (by omega) ?_
   refine⟨_,bt,⟨rfl,?_⟩,⟨_,_,_,_,_,_,_,rfl⟩,?_⟩
   ·have:=G r w m
    simp only[lQa,lQm]
    exact tq (by omega)
   ·rw[mS B,←Qvq,Qzq]
    simp
  ·rintro k u ⟨K,rfl⟩
   refine⟨K,?_⟩
   have v:(r.aa.map dk).length=r.aa.length:=lQm ..
   rw[v,QEq,mS A]
   subst z
   simp only[il,Qvq]
 ·rintro k u ⟨⟨a,b,c,C,e,f,g,rfl⟩,rfl⟩
  have v:(s.aj.map dW.d).length=s.aj.length:=lQm ..
  rw[v,QEq]
  symm
  exact F2 (Z _) (Qmq _) bt (aK λ_ _=>rfl) q
end
section
variable{S:aA}{Q:Res->aA->Prop}
def uS(s:aP)(h:Nat):Option bN:=(s.af[h]?).bind λp=>p.2.getLast?
def tY(w:cN)(s:aP)(h:Nat):Bool:=match uS s h with
 |some f=>decide (f.room= -1)&&decide (f.row=(((progOf w h f).getD []).length:Int))
 |none=>false
def m5{w:cN}{s:aP}{h:Nat}{vs:List Int}{fs:List bN}{f:bN}{pr:List Rw}(b:s.af[h]?=some (vs,fs))(e:fs.getLast? =some f)(a:progOf w h f=some pr)(q:Q (.d (.bl (tY w s h))) S):Fn dY [w.d,s.d,.int h] S Q:=by
 have g:tY w s h=(decide (f.room= -1)&&decide (f.row=(pr.length:Int))):=by
  unfold tY uS
  rw[b]
  show(match fs.getLast? with|some f=>_|none=>_)=_
  rw[e]
  simp only[a,Option.getD_some]
 rw[g] at q
 refine bq ?_
 unfold fJ
 symm
 apply bp b e ?_
 apply qw ?_
 apply ar (d:=.int f.room) rfl ?_
 refine gf ?_
 refine⟨_,rfl,?_⟩
 by_cases c:f.room= -1
 ·rw[Qeq c] at q⊢
  rw[Qhq rfl]
  symm
  apply ar (d:=.int f.row) rfl ?_
  apply eO a ?_
  refine gf ?_
  rw[lQm]
  exact bH (λk z=>(nomatch z)) rfl q
 ·rw[Qdq c] at q⊢
  rw[Quq (by decide)]
  exact bH (λk z=>(nomatch z)) rfl q
def uV(w:cN)(s:aP):List Nat:=(List.range s.af.length).filter λh=> !decide ((h:Int)∈held s)&& !tY w s h
def da(h:Nat):D:=.int h
def Fg(w:cN)(s:aP):Prop:=∀(S:aA) (Q:Res->aA->Prop),Q (.l ((uV w s).map da)) S->Fn g7 [w.d,s.d] S Q
def vE{w:cN}{s:aP}(m:∀(S:aA) (Q:Res->aA->Prop),Q (.l ((held s).map D.int)) S->Fn df [s.d] S Q)(j:∀h<s.af.length,∃vs fs f pr,s.af[h]?=some (vs,fs)/\fs.getLast? =some f/\progOf w h f=some pr)(p:s.af.length<=100):Fg w s:=by
 intro S Q q
 refine bq ?_
 unfold mm
 symm
 apply m _ _ ?_
 apply lT (α:=Nat) (λb=>∃a,b= [a,some w.d,some s.d,some (.ref S.length)]) (λ(i:Nat)=>D.int (0+(i:Int))) da (λh=> !decide ((h:Int)∈held s)&& !tY w s h) ⟨none,rfl⟩ ?_
 apply ar rfl ?_
 refine⟨_,rfl,?_,?_⟩
 ·simp only[lQm]
  omega
 refine⟨List.range s.af.length,?_,trivial,by simp;omega,λh g b e=> ?_,?_⟩
 ·simp only[oE,lQm]
  rfl
 ·obtain⟨a,rfl⟩:=e
  obtain⟨vs,fs,f,pr,n,k,o⟩:=j h (List.mem_range.mp g)
  refine aR ⟨rfl,⟨_,rfl⟩,?_⟩
  rw[Int.zero_add]
  apply w6 (ff (pe ?_))
  refine dz (ds:=(held s).map D.int) bt ?_
  refine⟨_,_,rfl,dE _,?_⟩
  rw[oQ]
  by_cases c:(h:Int)∈held s
  ·rw[Qeq c]
   refine aN (λc=>by cases c) (λ_=> ?_)
   exact⟨rfl,rfl,λc=>by cases c⟩
  ·rw[Qdq c]
   apply aN (λ_=> ?_) (λc=>by cases c)
   refine m5 n k o ?_
   dsimp only
   refine sS ?_
   apply⟨rfl,rfl,λ_=> ?_⟩
   exact⟨rfl,rfl⟩
 ·refine FA (rf.refl.app) (aK λ_ _=>rfl) q
def xU{w:cN}{s b:aP}{h:Nat}{e:Option Int}(g:Fg w s)(i:h∈uV w s)(a:vU w s h b e)(q:Q (.d (D9 b h e)) S):Fn lQ [w.d,s.d,.int h] S Q:=by
 refine bq ?_
 unfold pV
 apply bA (dR (ff (pe ?_)))
 refine g _ _ ?_
 dsimp only
 have f:(uV w s).map da=((uV w s).map λh:Nat=>(h:Int)).map D.int:=by rw[QPq];rfl
 refine⟨_,_,rfl,by rw[f];exact dE _,?_⟩
 rw[oQ,Qeq (Qkq.mpr ⟨h,i,rfl⟩)]
 apply aN (λc=>by cases c) (λ_=>bM ?_)
 refine a _ _ ?_
 exact bH (λk z=>(nomatch z)) (oN _ _ _) q
end
structure iD(n:Nat)(r:Rm)(rs:dW):Prop where
 lv:r.ao.length=rs.vals.length
 lb:r.aa.length=rs.aa.length
 vv:∀v∈rs.vals,0<=v/\v<=9
 br:rs.row.length<=n
 bl:rs.ag.length<=n
 bb:∀l∈rs.aa,l.length<=n
structure BB(w:cN)(h:Nat)(f:bN):Prop where
 pr:∃pr,progOf w h f=some pr/\0<=f.row/\f.row<=pr.length
 gv:0<=f.given/\f.given<=9
 tv:0<=f.told/\f.told<=9
def JU(w:cN)(h:Nat)(f:bN):Prop:=∃a g c b t,progOf w h f=some a/\1<=f.row/\a[(f.row-1).toNat]?=some (.do_ g c b t)
def gJ:List bN->Prop
 | []=>False
 |f0::tl=>f0.room= -1/\∀f∈tl,f.room≠-1
structure gX(w:cN)(n h:Nat)(ts:List (Str×Nat))(vs:List Int)(fs:List bN):Prop where
 lv:ts.length=vs.length
 vv:∀v∈vs,0<=v/\v<=9
 lf:fs.length<=n
 fr:∀f∈fs,BB w h f
 hd:gJ fs
 ch:∀f∈fs.dropLast,JU w h f
structure cG(w:cN)(n:Nat)(s:aP):Prop where
 lr:w.aj.length=s.aj.length
 rm:∀(i:Nat) (r:Rm) (rs:dW),w.aj[i]?=some r->s.aj[i]?=some rs->iD n r rs
 lp:w.ai.length=s.ai.length
 ps:∀p∈s.ai,p.2.length<=n
 ls:w.ak.length=s.ak.length
 sv:∀v∈s.ak,0<=v/\v<=9
 lh:w.af.length=s.af.length
 hd:∀(h:Nat) (ts:List (Str×Nat)) (pr:List Rw) (vs:List Int) (fs:List bN),w.af[h]?=some (ts,pr)->s.af[h]?=some (vs,fs)->gX w n h ts vs fs
def iD.mono{n m:Nat}{r:Rm}{a:dW}(h:iD n r a)(l:n<=m):iD m r a:=⟨h.lv,h.lb,h.vv,QAq h.br l,QAq h.bl l,λx b=>QAq (h.bb x b) l⟩
def gX.mono{w:cN}{n m h:Nat}{ts:List (Str×Nat)}{vs:List Int}{fs:List bN}(x:gX w n h ts vs fs)(l:n<=m):gX w m h ts vs fs:=⟨x.lv,x.vv,QAq x.lf l,x.fr,x.hd,x.ch⟩
def cG.mono{w:cN}{n m:Nat}{s:aP}(x:cG w n s)(l:n<=m):cG w m s:=⟨x.lr,λi r j b a=>(x.rm i r j b a).mono l,x.lp,λp f=>QAq (x.ps p f) l,x.ls,x.sv,x.lh,λh g d c e b a=>(x.hd h g d c e b a).mono l⟩
def get_set{α:Type}{l:List α}{i j:Nat}{a b:α}(h:(l.set i a)[j]?=some b):(j=i/\b=a)\/(j≠i/\l[j]?=some b):=by
 rw[List.getElem?_set] at h
 split at h
 ·rename_i c
  split at h
  ·cases h;exact .inl ⟨c.symm,rfl⟩
  ·cases h
 ·rename_i c
  exact .inr ⟨λz=>c z.symm,h⟩
def cG.room{w:cN}{n i:Nat}{s:aP}{r:Rm}{d:dW}(x:cG w n s)(g:w.aj[i]?=some r)(f:iD n r d):cG w n {s with aj:=s.aj.set i d} where
 lr:=by simpa using x.lr
 rm:=λj e b a c=>by
  rcases get_set c with⟨rfl,rfl⟩|⟨_,c⟩
  ·rw[g] at a;cases a;exact f
  ·exact x.rm j e b a c
 lp:=x.lp
 ps:=x.ps
 ls:=x.ls
 sv:=x.sv
 lh:=x.lh
 hd:=x.hd
def cG.pass{w:cN}{n i:Nat}{s:aP}{p:Int×List Int}(x:cG w n s)(b:p.2.length<=n):cG w n {s with ai:=s.ai.set i p} where
 lr:=x.lr
 rm:=x.rm
 lp:=by simpa using x.lp
 ps:=λq a=>by
  rcases QTq a with a|rfl
  ·exact x.ps q a
  ·exact b
 ls:=x.ls
 sv:=x.sv
 lh:=x.lh
 hd:=x.hd
def cG.share{w:cN}{n:Nat}{s:aP}{vs:List Int}(x:cG w n s)(b:vs.length=s.ak.length)(a:∀v∈vs,0<=v/\v<=9):cG w n {s with ak:=vs}:=⟨x.lr,x.rm,x.lp,x.ps,by rw[x.ls,←b],a,x.lh,x.hd⟩
def cG.hand{w:cN}{n h:Nat}{s:aP}{ts:List (Str×Nat)}{pr:List Rw}{vs:List Int}{fs:List bN}(x:cG w n s)(i:w.af[h]?=some (ts,pr))(k:gX w n h ts vs fs):cG w n {s with af:=s.af.set h (vs,fs)} where
 lr:=x.lr
 rm:=x.rm
 lp:=x.lp
 ps:=x.ps
 ls:=x.ls
 sv:=x.sv
 lh:=by simpa using x.lh
 hd:=λj a d b c g f=>by
  rcases get_set f with⟨rfl,e⟩|⟨_,f⟩
  ·rw[i] at g;cases g;cases e;exact k
  ·exact x.hd j a d b c g f
def kM{α:Type}{l:List α}{a:α}(h:l.getLast? =some a):l=l.dropLast++ [a]:=by
 cases l with
 |nil=>cases h
 | cons x y=>
   have b:x::y≠[]:=by simp
   rw[List.getLast?_eq_some_getLast b] at h
   cases h
   exact(List.dropLast_concat_getLast b).symm
def gJ.last{fs:List bN}{f f':bN}:∀{b:List bN},gJ (b++ [f])->f'.room=f.room->gJ (b++ [f'])
 | [],h,e=>⟨by rw[e];exact h.1,λ_ z=>by cases z⟩
 | a::l,h,e=>⟨h.1,λx c=>by
   rcases mQa.mp c with c|c
   · exact h.2 x (mQa.mpr (.inl c))
   · rw[Qfq.mp c,e];exact h.2 f (mQa.mpr (.inr (Qfq.mpr rfl)))⟩
def gJ.push{f':bN}:∀{fs:List bN},gJ fs->f'.room≠-1->gJ (fs++ [f'])
 | [],h,_=>h.elim
 | a::l,h,e=>⟨h.1,λx b=>by
   rcases mQa.mp b with b|b
   · exact h.2 x b
   · rw[Qfq.mp b];exact e⟩
def gJ.pop{d f:bN}:∀{c:List bN},gJ (c++ [d,f])->gJ (c++ [d])
 | [],h=>⟨h.1,λ_ z=>by cases z⟩
 | a::l,h=>⟨h.1,λx b=>h.2 x (by
   rcases mQa.mp b with b|b
   · exact mQa.mpr (.inl b)
   · exact mQa.mpr (.inr (by rw[Qfq.mp b];simp)))⟩
def gJ.two{f:bN}:∀{b:List bN},gJ (b++ [f])->f.room≠-1->∃c d,b=c++ [d]
 | [],h,e=>absurd h.1 e
 |a::l,h,e=>⟨(a::l).dropLast,(a::l).getLast (by simp),(List.dropLast_concat_getLast (by simp)).symm⟩
section
variable{w:cN}{n h:Nat}{ts:List (Str×Nat)}{vs:List Int}{fs:List bN}{f f' f2:bN}
def gX.setLast(x:gX w n h ts vs fs)(d:fs.getLast? =some f)(e:f'.room=f.room)(i:BB w h f'):gX w n h ts vs (fs.dropLast++ [f']):=by
 have c:=kM d
 have b:=x.hd
 rw[c] at b
 refine⟨x.lv,x.vv,?_,λg a=> ?_,gJ.last (fs:=fs) b e,λg a=> ?_⟩
 ·have:=congrArg List.length c
  have:=x.lf
  simp only[lQa,Qnq,QGq] at *
  omega
 ·rcases mQa.mp a with a|a
  ·exact x.fr g (List.dropLast_subset _ a)
  ·rw[Qfq.mp a];exact i
 ·rw[List.dropLast_concat] at a
  exact x.ch g a
def gX.push(x:gX w n h ts vs fs)(b:fs.getLast? =some f)(d:JU w h f)(e:f'.room≠-1)(i:BB w h f'):gX w (n+1) h ts vs (fs++ [f']):=by
 refine⟨x.lv,x.vv,?_,λg a=> ?_,x.hd.push e,λg a=> ?_⟩
 ·have:=x.lf
  simp only[lQa,Qnq,QGq]
  omega
 ·rcases mQa.mp a with a|a
  ·exact x.fr g a
  ·rw[Qfq.mp a];exact i
 ·rw[List.dropLast_concat,kM b] at a
  rcases mQa.mp a with a|a
  ·exact x.ch g a
  ·rw[Qfq.mp a];exact d
def gX.pop{b:List bN}(x:gX w n h ts vs (b++ [f2,f])):gX w n h ts vs (b++ [f2])/\JU w h f2:=by
 have e:(b++ [f2,f]).dropLast=b++ [f2]:=by rw[show b++ [f2,f]=(b++ [f2])++ [f] by simp,List.dropLast_concat]
 have c:=x.ch
 rw[e] at c
 refine⟨⟨x.lv,x.vv,?_,λg a=>x.fr g ?_,x.hd.pop,λg a=>c g ?_⟩,c f2 (by simp)⟩
 ·have:=x.lf
  simp only[lQa,Qnq,QGq] at *
  omega
 ·rcases mQa.mp a with a|a
  ·exact mQa.mpr (.inl a)
  ·exact mQa.mpr (.inr (by rw[Qfq.mp a];simp))
 ·rw[List.dropLast_concat] at a
  exact mQa.mpr (.inl a)
def gX.vals{a:List Int}(x:gX w n h ts vs fs)(c:a.length=vs.length)(b:∀v∈a,0<=v/\v<=9):gX w n h ts a fs:=⟨by rw[x.lv,c],b,x.lf,x.fr,x.hd,x.ch⟩
def gX.last(x:gX w n h ts vs fs):∃f,fs.getLast? =some f/\BB w h f:=by
 have:=x.hd
 cases fs with
 |nil=>exact this.elim
 | cons a l=>
   refine⟨_,List.getLast?_eq_some_getLast (by simp),x.fr _ (List.getLast_mem (by simp))⟩
end
def kn{w:cN}{h:Nat}{f:bN}{pr:List Rw}(a:progOf w h f=some pr):(f.room= -1/\∃ts,w.af[h]?=some (ts,pr))\/∃(i j:Nat) (r:Rm) (b:Str),f.room=i/\f.deed=j/\w.aj[i]?=some r/\r.ae[j]?=some (b,pr):=by
 unfold progOf at a
 split at a
 ·rename_i c
  obtain⟨⟨ts,e⟩,g,d⟩:=oQm.mp a
  cases d
  exact .inl ⟨c,ts,g⟩
 ·split at a
  ·rename_i c
   obtain⟨r,g,d⟩:=aq a
   obtain⟨⟨b,e⟩,l,k⟩:=oQm.mp d
   cases k
   exact .inr ⟨f.room.toNat,f.deed.toNat,r,b,by omega,by omega,g,l⟩
  ·cases a
def Ay{w:cN}{h i j:Nat}{f:bN}{r:Rm}{a:Str}{pr:List Rw}(d:f.room=i)(b:f.deed=j)(e:w.aj[i]?=some r)(c:r.ae[j]?=some (a,pr)):progOf w h f=some pr:=by
 unfold progOf
 rw[Quq (by omega),Qhq ⟨by omega,by omega⟩,d,b]
 show(w.aj[i]?).bind _=_
 rw[e]
 show(r.ae[j]?).map _=_
 rw[c]
 rfl
def AG(w:cN)(h:Nat)(f:bN):Option Sc:=if f.room= -1 then(w.af[h]?).map λp=>⟨true,p.1.map (·.1)++w.ak.map (·.1),p.1.map (·.1)++w.ak.map (·.1),[],eK w.aj,w.ai.map (·.1)⟩
 else(w.aj[f.room.toNat]?).map λr=>⟨false,r.ao.map (·.1)++ni,r.ao.map (·.1),r.aa.map (·.1),eK w.aj,[]⟩
def Bp{w:cN}{h:Nat}{f:bN}{pr:List Rw}(o:iL w)(e:progOf w h f=some pr):∃d,AG w h f=some d/\E9 d pr:=by
 unfold AG
 rcases kn e with⟨c,m,a⟩|⟨i,j,r,k,a,l,b,g⟩
 ·rw[Qhq c,a]
  exact⟨_,rfl,(o.hd _ (mQg a)).pr⟩
 ·rw[Quq (by omega),a]
  refine⟨_,by rw[show((i:Int)).toNat=i by omega,b];rfl,((o.rm _ (mQg b)).pr _ (mQg g)).1⟩
def zx{w:cN}(o:iL w):cG w 1 (cR w) where
 lr:=by simp[cR]
 rm:=λi r q c d=>by
  simp only[cR,gQm,c,Option.map_some,Option.some.injEq] at d
  subst d
  have e:=o.rm r (mQg c)
  refine⟨by simp[di,dy],by simp[di],λv b=> ?_,by simp[di],by simp[di],λl j=> ?_⟩
  ·simp only[di,dy,Qkq] at b
   obtain⟨p,a,rfl⟩:=b
   have:=e.tv p a
   omega
  ·simp only[di,Qkq] at j
   obtain⟨p,a,rfl⟩:=j
   simp
 lp:=by simp[cR]
 ps:=λp a=>by
  simp only[cR,Qkq] at a
  obtain⟨p,a,rfl⟩:=a
  simp
 ls:=by simp[cR,dy]
 sv:=λv b=>by
  simp only[cR,dy,Qkq] at b
  obtain⟨p,a,rfl⟩:=b
  have:=o.sv p a
  omega
 lh:=by simp[cR]
 hd:=λh n k s m c d=>by
  simp only[cR,gQm,c,Option.map_some,Option.some.injEq] at d
  cases d
  have e:=o.hd _ (mQg c)
  refine⟨by simp[dy],λv b=> ?_,by simp,λf g=> ?_,⟨rfl,λ_ z=>by cases z⟩,λf g=>by cases g⟩
  ·simp only[dy,Qkq] at b
   obtain⟨p,a,rfl⟩:=b
   have:=e.tv p a
   omega
  ·rw[Qfq.mp g]
   refine⟨⟨k,?_,by decide,?_⟩,by decide,by decide⟩
   ·unfold progOf
    rw[Qhq (show z3.room= -1 from rfl),c]
    rfl
   ·show(0:Int)<=_
    omega
def AM(s:aP)(h:Nat):List Int×List bN:=(s.af[h]?).getD ([],[])
def Iw(w:cN)(h:Nat):List (Str×Nat)×List Rw:=(w.af[h]?).getD ([],[])
def gE(s:aP)(h:Nat):bN:=((AM s h).2.getLast?).getD z3
def CK(w:cN)(i:Nat):Rm:=(w.aj[i]?).getD ⟨"","",[],[],[]⟩
def yw(s:aP)(i:Nat):dW:=(s.aj[i]?).getD ⟨[],0,[],[],[]⟩
def Ei(s:aP)(k:Nat):Int×List Int:=(s.ai[k]?).getD (0,[])
def Av(s:aP)(h:Nat)(f:bN):aP:={s with af:=s.af.set h ((AM s h).1,(AM s h).2.dropLast++ [f])}
def oo(s:aP)(i:Nat)(r:dW):aP:={s with aj:=s.aj.set i r}
def vc(s:aP)(k:Nat)(p:Int×List Int):aP:={s with ai:=s.ai.set k p}
def dP(w:cN)(s:aP)(h:Nat)(t:Tr):Int:=
 if (gE s h).room= -1 then uK (numAt (xr w s (Iw w h).1 (AM s h).1)) (λ_=>0) t
 else uK (numAt (qj (CK w (gE s h).room.toNat) (yw s (gE s h).room.toNat) (gE s h).given)) (rK (CK w (gE s h).room.toNat) (yw s (gE s h).room.toNat)) t
def tE(w:cN)(s:aP)(h:Nat)(x:Str)(v:Int):aP:=
 if (gE s h).room= -1 then pz w s h (Iw w h).1 (AM s h).1 (AM s h).2 x v
 else oo s (gE s h).room.toNat {yw s (gE s h).room.toNat with vals:=cZ ((CK w (gE s h).room.toNat).ao.map (·.1)) (yw s (gE s h).room.toNat).vals x v}
def Ej(r:Rm)(a:dW)(b:Str)(v:Int)(h:Nat):dW:=
 dm {a with aa:=a.aa.set (bE (r.aa.map (·.1)) b) (zA ((a.aa[bE (r.aa.map (·.1)) b]?).getD []) (if ((r.aa[bE (r.aa.map (·.1)) b]?).getD ("","")).2="turns" then v else 0) h)}
def mO(w:cN)(s:aP)(h:Nat):Rw->aP
 |.put x t=>tE w s h x (dP w s h t)
 |.unl t n=>if dP w s h t=0 then Av s h {gE s h with row:=n} else s
 |.go n=>Av s h {gE s h with row:=n}
 |.do_ _ a c t=>oo {s with af:=s.af.set h ((AM s h).1,(AM s h).2++ [⟨(bE (w.aj.map (·.name)) a:Nat),(bE ((CK w (bE (w.aj.map (·.name)) a)).ae.map (·.1)) c:Nat),0,dP w s h t,0⟩])} (bE (w.aj.map (·.name)) a) (jr (yw s (bE (w.aj.map (·.name)) a)) h)
 |.wait b t=>oo s (gE s h).room.toNat (Ej (CK w (gE s h).room.toNat) (yw s (gE s h).room.toNat) b (dP w s h t) h)
 |.call b=>oo s (gE s h).room.toNat (pY (decide ((CK w (gE s h).room.toNat).ah="when free")) (yw s (gE s h).room.toNat) (bE ((CK w (gE s h).room.toNat).aa.map (·.1)) b) h)
 |.all b=>oo s (gE s h).room.toNat {yw s (gE s h).room.toNat with aa:=(yw s (gE s h).room.toNat).aa.set (bE ((CK w (gE s h).room.toNat).aa.map (·.1)) b) []}
 |.tell t=>Av s h {gE s h with told:=dP w s h t}
 |.take p=>vc s (bE (w.ai.map (·.1)) p) (du (Ei s (bE (w.ai.map (·.1)) p)) h)
 |.give p=>vc s (bE (w.ai.map (·.1)) p) (cJ (Ei s (bE (w.ai.map (·.1)) p)))
 |.pass p q=>vc (vc s (bE (w.ai.map (·.1)) p) (cJ (Ei s (bE (w.ai.map (·.1)) p)))) (bE (w.ai.map (·.1)) q) (du (Ei (vc s (bE (w.ai.map (·.1)) p) (cJ (Ei s (bE (w.ai.map (·.1)) p)))) (bE (w.ai.map (·.1)) q)) h)
 |.say _=>s
def xJ(s:aP)(h:Nat):aP:=oo {s with af:=s.af.set h ((AM s h).1,(AM s h).2.dropLast)} (gE s h).room.toNat (dm (yw s (gE s h).room.toNat))
def ED(w:cN)(s:aP)(h:Nat):Option Rw:=(progOf w h (gE s h)).bind λa=>a[((gE s h).row-1).toNat]?
def Ad(w:cN)(s:aP)(h:Nat):aP:=match ED w (xJ s h) h with
 |some (.do_ (some x) _ _ _)=>tE w (xJ s h) h x (gE s h).told
 |_=>xJ s h
def wb(s:aP)(h:Nat):aP:=Av s h {gE s h with row:=(gE s h).row+1}
def FB(w:cN)(s:aP)(h:Nat):Rw->Option Int
 |.say t=>some (dP w s h t)
 |_=>none
def gV(w:cN)(s:aP)(h:Nat):aP×Option Int:=
 if (gE s h).room≠-1/\(yw s (gE s h).room.toNat).within≠h then(oo s (gE s h).room.toNat (jr (yw s (gE s h).room.toNat) h),none)
 else match progOf w h (gE s h) with
  |none=>(s,none)
  | some a=>if (gE s h).row=a.length then(Ad w s h,none) else match a[(gE s h).row.toNat]? with
    |none=>(s,none)
    |some r=>(mO w (wb s h) h r,FB w s h r)
section
variable{w:cN}{h:Nat}{s:aP}{vs:List Int}{fs:List bN}{f:bN}
def m6(a:s.af[h]?=some (vs,fs)):AM s h=(vs,fs):=by unfold AM;rw[a];rfl
def iR(a:s.af[h]?=some (vs,fs))(b:fs.getLast? =some f):gE s h=f:=by unfold gE;rw[m6 a];show(fs.getLast?).getD _=f;rw[b];rfl
def Bq{p:List (Str×Nat)×List Rw}(a:w.af[h]?=some p):Iw w h=p:=by unfold Iw;rw[a];rfl
def mw{i:Nat}{r:Rm}(a:w.aj[i]?=some r):CK w i=r:=by unfold CK;rw[a];rfl
def gA{i:Nat}{r:dW}(a:s.aj[i]?=some r):yw s i=r:=by unfold yw;rw[a];rfl
def sX{i:Nat}{p:Int×List Int}(a:s.ai[i]?=some p):Ei s i=p:=by unfold Ei;rw[a];rfl
def jG{g:bN}(a:s.af[h]?=some (vs,fs)):Av s h g={s with af:=s.af.set h (vs,fs.dropLast++ [g])}:=by unfold Av;rw[m6 a]
end
section
variable{w:cN}{n h:Nat}{s:aP}{vs:List Int}{fs:List bN}{f:bN}{sc:Sc}
def cG.whand(x:cG w n s)(b:s.af[h]?=some (vs,fs)):∃ts pr,w.af[h]?=some (ts,pr)/\gX w n h ts vs fs:=by
 have a:h<w.af.length:=by rw[x.lh];exact(gQs.mp b).1
 exact⟨_,_,gQe a,x.hd h _ _ vs fs (gQe a) b⟩
def cG.wroom{i:Nat}{r:Rm}(x:cG w n s)(c:w.aj[i]?=some r):∃b,s.aj[i]?=some b/\iD n r b:=by
 have a:i<s.aj.length:=by rw[←x.lr];exact(gQs.mp c).1
 exact⟨_,gQe a,x.rm i r _ c (gQe a)⟩
def jd{t:Sc}(a:AG w h f=some t):(f.room= -1/\∃ts pr,w.af[h]?=some (ts,pr)/\t=⟨true,ts.map (·.1)++w.ak.map (·.1),ts.map (·.1)++w.ak.map (·.1),[],eK w.aj,w.ai.map (·.1)⟩)∨
  (f.room≠-1/\∃r,w.aj[f.room.toNat]?=some r/\t=⟨false,r.ao.map (·.1)++ni,r.ao.map (·.1),r.aa.map (·.1),eK w.aj,[]⟩):=by
 unfold AG at a
 split at a
 ·rename_i c
  obtain⟨⟨ts,pr⟩,d,b⟩:=oQm.mp a
  exact .inl ⟨c,ts,pr,d,b.symm⟩
 ·rename_i c
  obtain⟨r,d,b⟩:=oQm.mp a
  exact .inr ⟨c,r,d,b.symm⟩
def ng(x:BB w h f)(c:f.room≠-1):f.room=(f.room.toNat:Int):=by
 obtain⟨d,a,_⟩:=x.pr
 rcases kn a with⟨b,_⟩|⟨i,_,_,_,e,_⟩
 ·exact absurd b c
 ·omega
def jI{t:Tr}(o:iL w)(x:cG w n s)(d:s.af[h]?=some (vs,fs))(l:fs.getLast? =some f)(v:AG w h f=some sc)(e:E3 sc t):(0<=dP w s h t/\dP w s h t<=9)/\wU w s h t (dP w s h t):=by
 obtain⟨z,J,p,m⟩:=x.whand d
 have I:=o.hd _ (mQg p)
 have u:=m.fr f (QcQ l)
 have K:=o.l3
 have H:=I.l1
 have C:=x.ls
 rcases jd v with⟨c,F,G,j,rfl⟩|⟨c,r,hr,rfl⟩
 ·rw[p] at j
  cases j
  have b:i9 (xr w s z vs):=i9.merge (fH x.sv) (fH m.vv)
  have B:dP w s h t=uK (numAt (xr w s z vs)) (λ_=>0) t:=by unfold dP;rw[iR d l,Qhq c,Bq p,m6 d]
  rw[B]
  refine⟨?_,λS Q q=>uj p d l c C m.lv (by omega) (by dsimp only at H;omega) x.sv m.vv e.1 (by have:=e.2;omega) q⟩
  refine jK (ws:=z.map (·.1)++w.ak.map (·.1)) (bs:= []) (λy a=> ?_) e.1
  refine(me b (eQ ?_)).2
  rcases mQa.mp a with a|a
  ·exact .inr (fF m.lv a)
  ·exact .inl (fF C a)
 ·obtain⟨A,i,k⟩:=x.wroom hr
  have g:=o.rm r (mQg hr)
  have L:=g.l1
  have M:=g.l2
  have b:i9 (qj r A f.given):=(fH k.vv).put u.gv.1 u.gv.2
  have B:dP w s h t=uK (numAt (qj r A f.given)) (rK r A) t:=by unfold dP;rw[iR d l,Quq c,mw hr,gA i]
  rw[B]
  refine⟨?_,λS Q q=>q_ d l (ng u c) hr i k.lv k.lb (by omega) (by omega) k.vv u.gv e.1 (by have:=e.2;omega) q⟩
  refine jK (ws:=r.ao.map (·.1)++ni) (bs:=r.aa.map (·.1)) (λy a=> ?_) e.1
  refine(me b (jM ?_)).2
  rcases mQa.mp a with a|a
  ·exact .inr (fF k.lv a)
  ·left
   rw[Qfq.mp a]
def kS{ns:List Str}{y:Str}{v:Int}{a:List Int}(d:∀v∈a,0<=v/\v<=9)(c:0<=v/\v<=9):(cZ ns a y v).length=a.length/\∀u∈cZ ns a y v,0<=u/\u<=9:=by
 unfold cZ
 refine⟨by simp,λz b=> ?_⟩
 rcases QTq b with b|rfl
 ·exact d z b
 ·exact c
def yp{y:Str}{v:Int}(o:iL w)(x:cG w n s)(b:s.af[h]?=some (vs,fs))(k:fs.getLast? =some f)(t:AG w h f=some sc)(z:y∈sc.ps)(p:0<=v/\v<=9):Puts w s h y v (tE w s h y v)/\cG w n (tE w s h y v):=by
 obtain⟨A,N,d,l⟩:=x.whand b
 have I:=o.hd _ (mQg d)
 have H:=l.fr f (QcQ k)
 have J:=o.l1
 have P:=o.l3
 have G:=I.l1
 have M:=o.l4
 have K:=x.lr
 have L:=x.lh
 rcases jd t with⟨c,C,F,i,rfl⟩|⟨c,r,hr,rfl⟩
 ·rw[d] at i
  cases i
  have u:tE w s h y v=pz w s h A vs fs y v:=by unfold tE;rw[iR b k,Qhq c,Bq d,m6 b]
  rw[u]
  refine⟨λS Q q=>Dr d b k c x.ls l.lv (by omega) (by dsimp only at G;omega) (by omega) z q,?_⟩
  unfold pz
  split
  ·obtain⟨j,g⟩:=kS (ns:=w.ak.map (·.1)) (y:=y) x.sv p
   exact x.share j g
  ·obtain⟨j,g⟩:=kS (ns:=A.map (·.1)) (y:=y) l.vv p
   exact x.hand d (l.vals j g)
 ·obtain⟨B,e,a⟩:=x.wroom hr
  have m:=o.rm r (mQg hr)
  have R:=m.l1
  have u:tE w s h y v={s with aj:=s.aj.set f.room.toNat {B with vals:=cZ (r.ao.map (·.1)) B.vals y v}}:=by unfold tE;rw[iR b k,Quq c,mw hr,gA e];rfl
  rw[u]
  refine⟨λS Q q=>BP b k (ng H c) hr e a.lv (by omega) (by omega) z q,?_⟩
  obtain⟨j,g⟩:=kS (ns:=r.ao.map (·.1)) (y:=y) a.vv p
  exact x.room hr ⟨by rw[a.lv,←j],a.lb,g,a.br,a.bl,a.bb⟩
def cG.goes{m:Int}{pr:List Rw}(x:cG w n s)(i:s.af[h]?=some (vs,fs))(b:fs.getLast? =some f)(g:progOf w h f=some pr)(e:0<=m)(j:m<=pr.length):cG w n {s with af:=s.af.set h (vs,fs.dropLast++ [{f with row:=m}])}:=by
 obtain⟨l,d,k,c⟩:=x.whand i
 have a:=c.fr f (QcQ b)
 exact x.hand k (c.setLast b rfl ⟨⟨pr,g,e,j⟩,a.gv,a.tv⟩)
def cG.tells{v:Int}(x:cG w n s)(g:s.af[h]?=some (vs,fs))(b:fs.getLast? =some f)(d:0<=v/\v<=9):cG w n {s with af:=s.af.set h (vs,fs.dropLast++ [{f with told:=v}])}:=by
 obtain⟨j,e,i,c⟩:=x.whand g
 have a:=c.fr f (QcQ b)
 exact x.hand i (c.setLast b rfl ⟨a.pr,a.gv,d⟩)
def iD.come{r:Rm}{b:dW}{k:Int}(x:iD n r b):iD (n+1) r (jr b k):=by
 unfold jr
 have:=x.br
 split
 ·exact⟨x.lv,x.lb,x.vv,by show b.row.length<=_;omega,Nat.le_succ_of_le x.bl,λl a=>Nat.le_succ_of_le (x.bb l a)⟩
 ·exact⟨x.lv,x.lb,x.vv,by simp;omega,Nat.le_succ_of_le x.bl,λl a=>Nat.le_succ_of_le (x.bb l a)⟩
def iD.leave{r:Rm}{d:dW}(x:iD n r d):iD n r (dm d):=by
 obtain⟨g,b,c,j,k⟩:=d
 have i:=x.br
 have e:=x.bl
 unfold dm
 dsimp only at i e⊢
 cases j with
 |cons a l=>exact⟨x.lv,x.lb,x.vv,x.br,by simp at e;show l.length<=n;omega,x.bb⟩
 | nil=>
   cases c with
   |cons a l=>exact⟨x.lv,x.lb,x.vv,by simp at i;show l.length<=n;omega,x.bl,x.bb⟩
   |nil=>exact⟨x.lv,x.lb,x.vv,x.br,x.bl,x.bb⟩
def iD.line{r:Rm}{c:dW}{b:Nat}{l:List (Int×Int)}(x:iD n r c)(d:l.length<=n):iD n r {c with aa:=c.aa.set b l}:=⟨x.lv,by simp;exact x.lb,x.vv,x.br,x.bl,λk a=>by
 rcases QTq a with a|rfl
 ·exact x.bb k a
 ·exact d⟩
def iD.call{r:Rm}{a:dW}{b:Nat}{k:Int}{c:Bool}(x:iD n r a):iD (n+1) r (pY c a b k):=by
 unfold pY
 split
 ·rename_i p l e
  have d:=x.bb _ (mQg e)
  have y:=(x.mono (Nat.le_succ n)).line (b:=b) (l:=l) (by simp at d;omega)
  have z:=x.bl
  split
  ·exact y
  ·exact⟨y.lv,y.lb,y.vv,y.br,by simp;omega,y.bb⟩
 ·exact x.mono (Nat.le_succ n)
def AQ{l:List (Int×Int)}{a b:Int}:(zA l a b).length=l.length+1:=by
 unfold zA
 have:=List.length_filter_le (λp:Int×Int=>decide (p.1<=a)) l
 simp only[lQa,Qxq,List.length_drop,Qnq,QGq]
 omega
def C1{a g:Str}(o:iL w)(d:(a,g)∈eK w.aj):a∈w.aj.map (·.name)/\∃r,w.aj[bE (w.aj.map (·.name)) a]?=some r/\g∈r.ae.map (·.1):=by
 unfold eK at d
 obtain⟨r,c,l⟩:=QOq.mp d
 obtain⟨p,q,e⟩:=Qkq.mp l
 cases e
 have b:r.name∈w.aj.map (·.name):=Qkq.mpr ⟨r,c,rfl⟩
 refine⟨b,r,?_,Qkq.mpr ⟨p,q,rfl⟩⟩
 obtain⟨t,k⟩:=e_ b
 obtain⟨i,j,e⟩:=QbQ c
 have m:(w.aj.map (·.name))[i]?=some r.name:=by rw[gQm,gQe j,e];rfl
 rw[i_ o.nd k m,gQe j,e]
def zm{r:Rw}{pr:List Rw}(o:iL w)(x:cG w n s)(hn:n<=100)(A:s.af[h]?=some (vs,fs))(G:fs.getLast? =some f)(hp:progOf w h f=some pr)(h1:1<=f.row)(Y:pr[(f.row-1).toNat]?=some r):Ez w s h r (mO w s h r)/\cG w (n+1) (mO w s h r):=by
 have e1:=m6 A
 have e2:=iR A G
 obtain⟨sc,F,c4⟩:=Bp o hp
 have b:=c4 r (mQg Y)
 obtain⟨ts,a2,hw,hi⟩:=x.whand A
 have fi:=hi.fr f (QcQ G)
 have b1:=o.l1
 have b2:=o.l2
 have b3:=o.l3
 have b4:=o.l4
 have lr:=x.lr
 have lp:=x.lp
 have lh:=x.lh
 have lf:=hi.lf
 have N:=x.mono (Nat.le_succ n)
 have B:sc.own=false->∃(i:Nat) (r:Rm) (L:dW),f.room=i/\w.aj[i]?=some r/\s.aj[i]?=some L/\iD n r L/\GC (eK w.aj) r/\sc.bs=r.aa.map (·.1):=λho=>by
  rcases jd F with⟨c,a3,a2,a5,rfl⟩|⟨c,r,H,rfl⟩
  ·cases ho
  ·obtain⟨L,e,I⟩:=x.wroom H
   exact⟨_,r,L,ng fi c,H,e,I,o.rm r (mQg H),rfl⟩
 have K:sc.own=true->sc.ts=w.ai.map (·.1):=λho=>by
  rcases jd F with⟨c,a3,a2,a5,rfl⟩|⟨c,r,H,rfl⟩
  ·rfl
  ·cases ho
 have k:∀y,y∈w.ai.map (·.1)->∀ps:List (Int×List Int),w.ai.length=ps.length->∃p,ps[bE (w.ai.map (·.1)) y]?=some p:=λy u ps hl=>by
  have:=(e_ u).1
  rw[lQm] at this
  exact⟨_,gQe (by omega)⟩
 have U:∀p:Int×List Int,p.2.length<=n->(du p h).2.length<=n+1:=λp hp=>by
  unfold du
  split
  ·show p.2.length<=_;omega
  ·simp;omega
 have P:∀p:Int×List Int,p.2.length<=n->(cJ p).2.length<=n:=λp hp=>by
  obtain⟨v,l⟩:=p
  unfold cJ
  cases l with
  |nil=>simp
  |cons a l=>simp at hp;show l.length<=n;omega
 cases r with
 | put y t=>
   obtain⟨hv,H⟩:=jI o x A G F b.2
   obtain⟨j,a9⟩:=yp o x A G F b.1 hv
   exact⟨λS Q q=>z9 H j q,a9.mono (Nat.le_succ n)⟩
 | unl t m=>
   obtain⟨hv,H⟩:=jI o x A G F b.1
   have C:mO w s h (.unl t m)=if dP w s h t=0 then{s with af:=s.af.set h (vs,fs.dropLast++ [{f with row:=m}])} else s:=by simp only[mO,e2,jG A]
   rw[C]
   refine⟨λS Q q=>tx H A G (by omega) (by omega) q,?_⟩
   split
   · exact N.goes A G hp (by omega) (by have:=b.2;omega)
   · exact N
 | go m=>
   have C:mO w s h (.go m)={s with af:=s.af.set h (vs,fs.dropLast++ [{f with row:=m}])}:=by simp only[mO,e2,jG A]
   rw[C]
   exact⟨λS Q q=>Ca A G (by omega) (by omega) q,N.goes A G hp (by omega) (by have:m<=pr.length:=b;omega)⟩
 | do_ g W X t=>
   obtain⟨hv,H⟩:=jI o x A G F b.2.2
   have ev:mO w s h (.do_ g W X t)=mO w s h (.do_ g W X t):=rfl
   generalize c1:dP w s h t=v at hv H
   have c0:sc.gs=eK w.aj:=by
     rcases jd F with⟨c,a3,a2,a5,rfl⟩|⟨c,r,H,rfl⟩ <;>rfl
   have a6:=b.2.1
   rw[c0] at a6
   obtain⟨b0,r,d,a4⟩:=C1 o a6
   obtain⟨L,e,I⟩:=x.wroom d
   have J:=o.rm r (mQg d)
   have b5:=J.l3
   have b6:=I.br
   have C:mO w s h (.do_ g W X t)={s with af:=s.af.set h (vs,fs++ [⟨(bE (w.aj.map (·.name)) W:Nat),(bE (r.ae.map (·.1)) X:Nat),0,v,0⟩]),aj:=s.aj.set (bE (w.aj.map (·.name)) W) (jr L h)}:=by simp only[mO,e1,mw d,gA e,c1,oo]
   rw[C]
   refine⟨λS Q q=>Ce H A b0 d e a4 (by omega) (by omega) (by omega) (by omega) (by omega) (by omega) q,?_⟩
   have c3:=e_ a4
   have a8:=c3.1
   rw[lQm] at a8
   obtain⟨⟨c5,a7⟩,c2⟩:∃p,r.ae[bE (r.ae.map (·.1)) X]?=some p:=⟨_,gQe a8⟩
   have pf:progOf w h ⟨(bE (w.aj.map (·.name)) W:Nat),(bE (r.ae.map (·.1)) X:Nat),0,v,0⟩=some a7:=Ay rfl rfl d c2
   have hh:=hi.push (f':=⟨(bE (w.aj.map (·.name)) W:Nat),(bE (r.ae.map (·.1)) X:Nat),0,v,0⟩) G ⟨pr,g,W,X,t,hp,h1,Y⟩ (by show((bE (w.aj.map (·.name)) W:Nat):Int)≠-1;omega) ⟨⟨a7,pf,by show(0:Int)<=0;omega,by show(0:Int)<=_;omega⟩,hv,by show(0:Int)<=0/\(0:Int)<=9;omega⟩
   exact(N.hand hw hh).room d I.come
 | wait y t=>
   obtain⟨i,r,L,M,d,e,I,J,R⟩:=B b.1
   obtain⟨hv,H⟩:=jI o x A G F b.2.2
   have u:=b.2.1
   rw[R] at u
   have b6:=J.l2
   have lb:=I.lb
   obtain⟨k1,k2⟩:=e_ u
   rw[lQm] at k1
   rw[gQm] at k2
   obtain⟨⟨y',so⟩,k3,k4⟩:=oQm.mp k2
   have k4:y'=y:=k4
   subst k4
   obtain⟨Z,hl⟩:∃l,L.aa[bE (r.aa.map (·.1)) y']?=some l:=⟨_,gQe (by omega)⟩
   have ll:=I.bb Z (mQg hl)
   have ti:f.room.toNat=i:=by omega
   have C:mO w s h (.wait y' t)={s with aj:=s.aj.set i (dm {L with aa:=L.aa.set (bE (r.aa.map (·.1)) y') (zA Z (if so="turns" then dP w s h t else 0) h)})}:=by simp only[mO,Ej,oo,e2,ti,mw d,gA e,hl,k3,Option.getD_some]
   rw[C]
   refine⟨λS Q q=>yi A G M d e (by omega) lb (by omega) u k3 hl (by omega) H q,?_⟩
   exact N.room d (((I.mono (Nat.le_succ n)).line (by rw[AQ];omega)).leave)
 | call y=>
   obtain⟨i,r,L,M,d,e,I,J,R⟩:=B b.1
   have u:=b.2
   rw[R] at u
   have b6:=J.l2
   have b7:=I.bl
   have ti:f.room.toNat=i:=by omega
   have C:mO w s h (.call y)={s with aj:=s.aj.set i (pY (decide (r.ah="when free")) L (bE (r.aa.map (·.1)) y) h)}:=by simp only[mO,oo,e2,ti,mw d,gA e]
   rw[C]
   refine⟨λS Q q=>xc A G M d e (by omega) I.lb (by omega) (by omega) u q,?_⟩
   exact N.room d I.call
 | all y=>
   obtain⟨i,r,L,M,d,e,I,J,R⟩:=B b.1
   have u:=b.2
   rw[R] at u
   have b6:=J.l2
   have ti:f.room.toNat=i:=by omega
   have C:mO w s h (.all y)={s with aj:=s.aj.set i {L with aa:=L.aa.set (bE (r.aa.map (·.1)) y) []}}:=by simp only[mO,oo,e2,ti,mw d,gA e]
   rw[C]
   refine⟨λS Q q=>zJ A G M d e (by omega) I.lb (by omega) u q,?_⟩
   exact N.room d ((I.mono (Nat.le_succ n)).line (by simp))
 | tell t=>
   obtain⟨hv,H⟩:=jI o x A G F b.2
   have C:mO w s h (.tell t)={s with af:=s.af.set h (vs,fs.dropLast++ [{f with told:=dP w s h t}])}:=by simp only[mO,e2,jG A]
   rw[C]
   exact⟨λS Q q=>w5 H A G (by omega) (by omega) q,N.tells A G hv⟩
 | take y=>
   have u:=b.2
   rw[K b.1] at u
   obtain⟨p,j⟩:=k y u s.ai lp
   have pl:=x.ps p (mQg j)
   have C:mO w s h (.take y)={s with ai:=s.ai.set (bE (w.ai.map (·.1)) y) (du p h)}:=by simp only[mO,vc,sX j]
   rw[C]
   exact⟨λS Q q=>w9 u j (by omega) (by omega) (by omega) q,N.pass (U p pl)⟩
 | give y=>
   have u:=b.2
   rw[K b.1] at u
   obtain⟨p,j⟩:=k y u s.ai lp
   have pl:=x.ps p (mQg j)
   have C:mO w s h (.give y)={s with ai:=s.ai.set (bE (w.ai.map (·.1)) y) (cJ p)}:=by simp only[mO,vc,sX j]
   rw[C]
   exact⟨λS Q q=>xg u j (by omega) (by omega) q,N.pass (Nat.le_succ_of_le (P p pl))⟩
 | pass y z=>
   have u:=b.2.1
   have hz:=b.2.2
   rw[K b.1] at u hz
   obtain⟨p,j⟩:=k y u s.ai lp
   have pl:=x.ps p (mQg j)
   have x2:cG w n _:=x.pass (i:=bE (w.ai.map (·.1)) y) (P p pl)
   obtain⟨p2,a1⟩:=k z hz (s.ai.set (bE (w.ai.map (·.1)) y) (cJ p)) (by simpa using lp)
   have b8:=x2.ps p2 (mQg a1)
   have C:mO w s h (.pass y z)={s with ai:=(s.ai.set (bE (w.ai.map (·.1)) y) (cJ p)).set (bE (w.ai.map (·.1)) z) (du p2 h)}:=by
     have e3:Ei (vc s (bE (w.ai.map (·.1)) y) (cJ p)) (bE (w.ai.map (·.1)) z)=p2:=sX a1
     simp only[mO,sX j]
     rw[e3]
     rfl
   rw[C]
   refine⟨λS Q q=>xD u hz j (by omega) (by omega) (by omega) a1 q,(x2.mono (Nat.le_succ n)).pass (U p2 b8)⟩
 |say t=>exact⟨λS Q q=>Au (sd:=.non) q,N⟩
end
section
variable{w:cN}{n h:Nat}{s:aP}{vs:List Int}{fs:List bN}{f:bN}{sc:Sc}
def cG.mays(o:iL w)(x:cG w n s)(m:n<=100):Fg w s:=by
 have v:=o.l1
 have C:=o.l2
 have F:=o.l4
 have y:=x.lr
 have A:=x.lp
 have z:=x.lh
 refine vE (λS Q q=>mW m (by omega) (by omega) x.ps (λk g=> ?_) q) (λh r=> ?_) (by omega)
 ·obtain⟨i,j,e⟩:=QbQ g
  have a:s.aj[i]?=some k:=by rw[gQe j,e]
  have c:w.aj[i]?=some (w.aj[i]'(by omega)):=gQe (by omega)
  have b:=x.rm i _ k c a
  have:=(o.rm _ (mQg c)).l2
  have:=b.lb
  exact⟨b.br,b.bl,by omega,b.bb⟩
 ·obtain⟨⟨vs,fs⟩,a⟩:∃p,s.af[h]?=some p:=⟨_,gQe r⟩
  obtain⟨B,G,c,j⟩:=x.whand a
  obtain⟨f,u,t⟩:=j.last
  obtain⟨d,l,_⟩:=t.pr
  exact⟨vs,fs,f,d,a,u,l⟩
def Dt(o:iL w)(x:cG w n s)(hn:n<=100)(hm:h∈uV w s)(b:s.af[h]?=some (vs,fs))(p:fs.getLast? =some f):vU w s h (gV w s h).1 (gV w s h).2/\cG w (n+1) (gV w s h).1:=by
 have e1:=m6 b
 have L:=iR b p
 obtain⟨ts,a2,hw,hi⟩:=x.whand b
 have fi:=hi.fr f (QcQ p)
 obtain⟨pr,d,U,a6⟩:=fi.pr
 have b1:=o.l1
 have b4:=o.l4
 have lr:=x.lr
 have lh:=x.lh
 have lf:=hi.lf
 have nb:¬(f.room= -1/\f.row=pr.length):=by
  rintro⟨c1,c2⟩
  have:=(List.mem_filter.mp hm).2
  rw[QCq] at this
  have hb:tY w s h=true:=by
   unfold tY uS
   rw[b]
   show(match fs.getLast? with|some f=>_|none=>_)=_
   rw[p]
   simp only[d,Option.getD_some,c1,c2,decide_true,Bool.and_true]
  rw[hb] at this
  exact absurd this.2 (by decide)
 by_cases c:f.room= -1
 ·
  have K:pr=a2:=by
   unfold progOf at d
   rw[Qhq c,hw] at d
   cases d;rfl
  subst K
  have I:f.row.toNat<pr.length:=by
   have:f.row≠pr.length:=λz=>nb ⟨c,z⟩
   omega
  have a:pr[f.row.toNat]?=some (pr[f.row.toNat]):=gQe I
  generalize pr[f.row.toNat]=r at a
  obtain⟨sc,G,J⟩:=Bp o d
  have l:=J r (mQg a)
  have P:Fo w s h r (FB w s h r):=by
   cases r with
   |say t=>exact⟨_,rfl,(jI o x b p G l.2).2⟩
   |_=>rfl
  have F:gV w s h=(mO w {s with af:=s.af.set h (vs,fs.dropLast++ [{f with row:=f.row+1}])} h r,FB w s h r):=by
   unfold gV wb
   rw[L,Quq (λz=>z.1 c),d]
   simp only
   rw[Quq (λz=>nb ⟨c,z⟩),a,jG b]
  rw[F]
  have M:=x.goes b p d (m:=f.row+1) (by omega) (by omega)
  have X:h<s.af.length:=(gQs.mp b).1
  obtain⟨N,u⟩:=zm (f:={f with row:=f.row+1}) (r:=r) (pr:=pr) o M hn (Qyq X) (by simp) d (by show 1<=f.row+1;omega) (by show pr[(f.row+1-1).toNat]?=_;rw[show f.row+1-1=f.row by omega];exact a)
  exact⟨vQ b p (.inl c) d U a (by omega) (by omega) P N,u⟩
 ·
  rcases kn d with⟨c',_⟩|⟨i,j,r,dn,Y,h2,Z,h4⟩
  ·exact absurd c' c
  obtain⟨H,k,ri⟩:=x.wroom Z
  have br:=ri.br
  have ti:f.room.toNat=i:=by omega
  by_cases R:H.within=h
  ·have A:Here s h f:=.inr ⟨i,H,Y,k,R⟩
   by_cases ce:f.row=pr.length
   ·
    have W:=kM p
    have N:=hi.hd
    rw[W] at N
    obtain⟨C,B,hg⟩:=N.two c
    have a5:fs=C++ [B,f]:=by rw[W,hg];simp
    subst a5
    obtain⟨a1,a4⟩:=hi.pop
    obtain⟨a7,g,rn,a3,t,p1,p2,p3⟩:=a4
    have eo:xJ s h={s with aj:=s.aj.set i (dm H),af:=s.af.set h (vs,C++ [B])}:=by
     unfold xJ
     rw[L,e1,ti,gA k]
     simp only[oo]
     rw[show C++ [B,f]=(C++ [B])++ [f] by simp,List.dropLast_concat]
    have ho:(xJ s h).af[h]?=some (vs,C++ [B]):=by rw[eo];exact Qyq (gQs.mp b).1
    have eb:ED w (xJ s h) h=some (.do_ g rn a3 t):=by
     unfold ED
     rw[iR ho (f:=B) (by simp),p1]
     exact p3
    have F:gV w s h=(Ad w s h,none):=by
     unfold gV
     rw[L,ti,gA k,Quq (λz=>z.2 R),d]
     simp only
     rw[Qhq ce]
    have M:cG w n {s with aj:=s.aj.set i (dm H),af:=s.af.set h (vs,C++ [B])}:=(x.hand hw a1).room Z ri.leave
    obtain⟨sc,G,J⟩:=Bp o p1
    have l:=J _ (mQg p3)
    have X:h<s.af.length:=(gQs.mp b).1
    cases g with
    | none=>
      have ee:Ad w s h={s with aj:=s.aj.set i (dm H),af:=s.af.set h (vs,C++ [B])}:=by unfold Ad;rw[eb];exact eo
      rw[F,ee]
      exact⟨wD b p A d ce λS Q q=>nQ b Y k (by omega) (by omega) p1 p2 p3 (λ_ e=>e.symm) q,M.mono (Nat.le_succ n)⟩
    | some y=>
      obtain⟨K,u⟩:=yp (y:=y) (v:=f.told) o M (Qyq X) (by simp) G (l.1 y rfl) fi.tv
      have ee:Ad w s h=tE w {s with aj:=s.aj.set i (dm H),af:=s.af.set h (vs,C++ [B])} h y f.told:=by unfold Ad;rw[eb,eo,L]
      rw[F,ee]
      exact⟨wD b p A d ce λS Q q=>nQ b Y k (by omega) (by omega) p1 p2 p3 (λ_ e=>by rw[e];exact K) q,u.mono (Nat.le_succ n)⟩
   ·
    have I:f.row.toNat<pr.length:=by omega
    have a:pr[f.row.toNat]?=some (pr[f.row.toNat]):=gQe I
    generalize pr[f.row.toNat]=r' at a
    have l:=((o.rm _ (mQg Z)).pr _ (mQg h4)).1 r' (mQg a)
    have he:Fo w s h r' none:=by
     cases r' with
     |say t=>exact absurd l.1 (show¬(false=true) by decide)
     |_=>rfl
    have M:=x.goes b p d (m:=f.row+1) (by omega) (by omega)
    have X:h<s.af.length:=(gQs.mp b).1
    have F:gV w s h=(mO w {s with af:=s.af.set h (vs,fs.dropLast++ [{f with row:=f.row+1}])} h r',none):=by
     unfold gV wb
     rw[L,ti,gA k,Quq (λz=>z.2 R),d]
     simp only
     rw[Quq ce,a,jG b]
     refine congrArg (Prod.mk _) ?_
     cases r' with
     |say t=>exact absurd l.1 (show¬(false=true) by decide)
     |_=>rfl
    rw[F]
    obtain⟨N,u⟩:=zm (f:={f with row:=f.row+1}) (r:=r') (pr:=pr) o M hn (Qyq X) (by simp) d (by show 1<=f.row+1;omega) (by show pr[(f.row+1-1).toNat]?=_;rw[show f.row+1-1=f.row by omega];exact a)
    exact⟨vQ b p A d U a (by omega) (by omega) he N,u⟩
  ·
   have F:gV w s h=({s with aj:=s.aj.set i (jr H h)},none):=by
    unfold gV
    rw[L,ti,gA k,Qhq ⟨c,R⟩]
    rfl
   rw[F]
   exact⟨AF b p Y k R (by omega) (by omega),(x.mono (Nat.le_succ n)).room Z ri.come⟩
end
end W28
namespace DL
open PySem PySem.Spec L2
section
variable{Γ:cp}{S:aA}
def DK{f:dg}{Q:(List D×(aA->Prop))->aA->Prop}(h:E f Γ S λp a=>Q (gh 0 p.1,λb=>p.2.stays b p.1) a):E (y2 f) Γ S Q:=by
 obtain⟨p,a,c,q⟩:=h
 exact⟨_,a,by unfold y2;rw[c];rfl,q⟩
def G6{f:dg}{Q:D->aA->Prop}(h:E f Γ S λp a=>p.2.isL=true/\∃bs,BM p.1=some bs/\Q (.bl (bs.all id)) a):E (Dy f) Γ S Q:=by
 obtain⟨p,a,b,l,bs,c,q⟩:=h
 exact⟨_,a,by unfold Dy;rw[b];simp only[Qbq];rw[Qhq l,c];rfl,q⟩
def CD{i j:Int}{Q:D->Prop}(h:Bu i j)(q:Q (.int (i^j.toNat))):Op (uq S (.int i) (.int j)) Q:=⟨_,by simp only[uq,intD];rw[Qhq h],q⟩
def ER{i j:Int}{Q:D->Prop}(h:IntMulOk i j)(q:Q (.int (i*j))):Op (kf S (.int i) (.int j)) Q:=⟨_,by simp only[kf,intD];rw[Qhq h],q⟩
end
theorem wm:∀n:Nat,BM (List.replicate n (.bl true))=some (List.replicate n true)
 |0=>rfl
 |n+1=>by simp only[QNq,BM];rw[wm n];rfl
end DL
namespace W28
open PySem PySem.Spec L2 DL
section
variable{S S0:aA}{Q:Res->aA->Prop}
def mE(l:List Nat):l.map da=(l.map λh:Nat=>(h:Int)).map D.int:=by rw[QPq];rfl
def hU{l:List Nat}:∀d∈l.map da,(∀k,d≠.ref k)/\bB 0 d=true:=λd b=>by
 obtain⟨a,_,rfl⟩:=Qkq.mp b
 exact⟨λk z=>(nomatch z),rfl⟩
def C3{k i:Nat}{l:List Nat}{e:Int}(x:Ex k S0 S)(hi:i≠k)(t:S[i]?=some (.lst (l.map da)))(B:0<l.length)(A:l.length<1000)
  (h:∀(m:Nat) (f:aA),m∈l->Ex k S0 f->Ex k S f->f.length=S.length->Q (.d (.int m)) f):Fn ig [.ref k,.ref i,.int e] S Q:=by
 have y:Ex k S S:=by obtain⟨a,b,c,w⟩:=x.pot;exact Ex.refl w
 have g:∀r,Ex k S r->r.length=S.length->T (cz (az cv (av (au 0) (av (au 1) aw)))) [some (.ref k),some (.ref i),some (.int e)] r (λo=>match o with
   |.nx _ f=>Op (settle S .non f) λp=>Q p.1 p.2|.rt d f=>Op (settle S d f) λp=>Q p.1 p.2|.rl l f=>Op (dj S l f) λp=>Q p.1 p.2|_=>False):=λr u F=>by
  symm
  refine yW (xs:=l.map da) u hi (u.keep _ _ hi t) (by simpa using B) (by simpa using A) hU (λd j=>eX (hU d j).2) λd f j q C n=> ?_
  obtain⟨m,s,rfl⟩:=Qkq.mp j
  dsimp only
  refine vW q x.lt (hU _ j).1 (eX (hU _ j).2) λa b c=> ?_
  exact h m _ s x.set y.set (by simp)
 refine bq ?_
 unfold kT
 apply bA (dR (w6 (ff (pe ?_))))
 refine dz t ?_
 refine⟨_,_,rfl,by rw[mE];exact dE _,?_⟩
 rw[oQ]
 show if decide (e∈l.map λh:Nat=>(h:Int))=true then _ else _
 by_cases c:e∈l.map λh:Nat=>(h:Int)
 ·rw[Qeq c,Qhq rfl]
  obtain⟨m,s,rfl⟩:=Qkq.mp c
  symm
  apply fE y (by decide) (by decide) λd f j q C n=> ?_
  refine gf ?_
  dsimp only
  by_cases v:(d:Int)=0
  ·rw[Qeq v,Qhq rfl]
   symm
   refine vW q x.lt (λk z=>(nomatch z)) rfl λa b c=> ?_
   exact h m _ s x.set y.set (by simp)
  ·rw[Qdq v,Quq (by decide)]
   refine bM ?_
   exact g f q n
 ·rw[Qdq c,Quq (by decide)]
  rw[Quq (by decide)]
  refine bM ?_
  exact g S y rfl
end
section
variable{S S0:aA}{Q:Res->aA->Prop}
def Pl:Nat->D->Prop
 |0,_=>False
 |_+1,.int _=>True
 |_+1,.str _=>True
 |_+1,.non=>True
 |n+1,.tup ds=>ds.length<=1000/\∀d∈ds,Pl n d
 |_+1,_=>False
theorem v5:∀ds:List D,ph ds ds=ds.map λd=>D.tup [d,d]
 | []=>rfl
 | d::ds=>by
   have:=v5 ds
   simp only[ph,List.zipWith_cons_cons,QDq] at this⊢
   rw[this]
theorem y0:∀(n:Nat) (d:D) {S:aA} {Q:Res->aA->Prop},Pl n d->Q (.d (.bl true)) S->Fn (et n) [d,d] S Q
 |0,_,_,_,h,_=>h.elim
 | n+1,.int i,S,Q,_,q=>by
   refine bq ?_
   unfold eI
   refine bA (dR (cm (d:=.int i) (bj rfl ⟨rfl,rfl⟩) rfl ?_))
   refine aN (λc=>by cases c) (λ_=>bM ?_)
   refine bA (dR (yV (cm (d:=.int i) (bj rfl ⟨rfl,rfl⟩) rfl ?_)))
   apply aN (λc=>by cases c) (λ_=> ?_)
   refine Bn ?_
   refine aN (λc=>by cases c) (λ_=>bM ?_)
   refine nI (qw (pQ (bj rfl ⟨_,rfl,true,rfl,?_⟩)))
   rw[Qhq rfl]
   refine qw (EC (pQ (bj rfl ⟨_,rfl,false,rfl,true,rfl,?_⟩)))
   rw[Qhq rfl]
   symm
   refine gf ?_
   rw[Qeq rfl]
   exact bH (λk z=>(nomatch z)) rfl q
 | n+1,.str i,S,Q,_,q=>by
   refine bq ?_
   unfold eI
   refine bA (dR (cm (d:=.str i) (bj rfl ⟨rfl,rfl⟩) rfl ?_))
   refine aN (λc=>by cases c) (λ_=>bM ?_)
   refine bA (dR (yV (cm (d:=.str i) (bj rfl ⟨rfl,rfl⟩) rfl ?_)))
   refine aN (λ_=> ?_) (λc=>by cases c)
   refine aN (λ_=> ?_) (λc=>by cases c)
   refine nI (qw (rp (pQ (bj rfl ⟨_,rfl,pQ (bj rfl ⟨_,rfl,.bl true,rfl,true,rfl,?_⟩)⟩))))
   rw[Qhq rfl]
   symm
   refine ef ?_
   rw[Qeq rfl]
   exact bH (λk z=>(nomatch z)) rfl q
 | n+1,.non,S,Q,_,q=>by
   refine bq ?_
   unfold eI
   refine bA (dR (cm (d:=.non) (bj rfl ⟨rfl,rfl⟩) rfl ?_))
   refine aN (λc=>by cases c) (λ_=>bM ?_)
   refine bA (dR (yV (cm (d:=.non) (bj rfl ⟨rfl,rfl⟩) rfl ?_)))
   apply aN (λc=>by cases c) (λ_=> ?_)
   refine Bn ?_
   refine aN (λ_=> ?_) (λc=>by cases c)
   refine nI (qw (rp (pQ (bj rfl ⟨_,rfl,pQ (bj rfl ⟨_,rfl,.bl true,rfl,true,rfl,?_⟩)⟩))))
   rw[Qhq rfl]
   symm
   refine⟨.bl true,rfl,?_⟩
   exact bH (λk z=>(nomatch z)) rfl q
 | n+1,.tup ds,S,Q,h,q=>by
   refine bq ?_
   unfold eI
   refine bA (dR (cm (d:=.tup ds) (bj rfl ⟨rfl,rfl⟩) rfl ?_))
   refine aN (λ_=> ?_) (λc=>by cases c)
   refine bA (dR (yV (Bi (cm (d:=.tup ds) (bj rfl ⟨rfl,rfl⟩) rfl ?_))))
   apply aN (λc=>by cases c) (λ_=> ?_)
   refine jV ?_
   rw[Qeq rfl]
   refine aN (λc=>by cases c) (λ_=>bM ?_)
   refine nI (G6 (FQ ?_))
   apply lT (α:=D) (λe=>∃a b,e= [a,b]) (λd=>D.tup [d,d]) (λ_=>.bl true) (λ_=>true) ⟨none,none,rfl⟩ (xo ?_)
   refine⟨⟨trivial,Qmq _⟩,ds,v5 ds,⟨trivial,trivial⟩,h.1,λd g e f=> ?_,?_⟩
   · obtain⟨a,b,rfl⟩:=f
     refine d_ rfl (ax (aR (ax (aR (bg ?_)))))
     apply⟨rfl,⟨_,_,rfl⟩,qg ⟨rfl,rfl,λ_=> ?_⟩⟩
     exact y0 n d (h.2 d g) ⟨rfl,rfl⟩
   · refine⟨rfl,List.replicate ds.length true,?_,?_⟩
     · rw[←wm]
       congr 1
       rw[List.filter_eq_self.mpr (λ_ _=>rfl),List.map_const']
     · have:(List.replicate ds.length true).all id=true:=by simp
       rw[this]
       exact bH (λk z=>(nomatch z)) rfl q
end
end W28
namespace DL
open PySem PySem.Spec L2
def BJ{S:aA}{k:Nat}{ds:List D}{Q:List D×Tag->Prop}(a:S[k]?=some (.frz ds))(q:Q (ds,.fz k)):Op (ql S (.ref k)) Q:=⟨_,by simp only[ql,a],q⟩
def GQ{S:aA}{k:Nat}{ds:List D}{i:Int}{d:D}{Q:D->Prop}(a:S[k]?=some (.frz ds))(h:lW ds i=some d)(q:Q d):Op (qY S (.ref k) (.int i)) Q:=⟨_,by simp only[qY,a];exact h,q⟩
def Hh{i:Int}{Q:D->Prop}(q:Q (.int (if i<0 then -i else i))):Op (Dg [.int i]) Q:=⟨_,rfl,q⟩
def Bs{b:Bool}{Q:D->Prop}(q:Q (.int (if b then 1 else 0))):Op (intOfD [.bl b]) Q:=⟨_,rfl,q⟩
def lJ{j:Nat}{n:Nat}{d:D}(h:(oE 0 (j:Int))[n]?=some d):d=.int n/\n<j:=by
 have a:n<j:=by
  have:=(gQs.mp h).1
  unfold oE at this
  simpa using this
 unfold oE at h
 rw[gQm,List.getElem?_range (by simpa using a)] at h
 cases h
 exact⟨by simp,a⟩
def vZ{j:Nat}:(oE 0 (j:Int)).length=j:=by
 unfold oE
 simp
end DL
namespace W28
open PySem PySem.Spec L2 DL
section
variable{S:aA}{Q:Res->aA->Prop}
def Ey{ns:List Int}{k:Nat}(i:S[0]?=some (.frz (ns.map D.int)))(q:∀a b:Int,Q (.l [.int a,.int b,.int 0]) S):Fn jF [.ref 0,.int k] S Q:=by
 refine bq ?_
 unfold mZ
 have f:∀e:Int,T (aE (a_ 3 (bf kf (bf oD (au 2) (bf kf (bf uq (cF (.int 10)) (cF (.int 60))) (bf uq (cF (.int 10)) (cF (.int 60))))) (AU intOfD (av (bf Ji (au 2) (bf uq (cF (.int 10)) (cF (.int 18)))) aw))))
   (D6 (fN (av (au 3) (av (bf oD (bf bK (bf bK (au 2) (bf kf (cF (.int 104729)) (au 1))) (cF (.int 7))) (cF (.int 2305843009213693951))) (av (cF (.int 0)) aw))))))
   [some (.ref 0),some (.int k),some (.int e),none] S (λo=>match o with
   |.nx _ g=>Op (settle S .non g) λp=>Q p.1 p.2|.rt d g=>Op (settle S d g) λp=>Q p.1 p.2|.rl l g=>Op (dj S l g) λp=>Q p.1 p.2|_=>False):=by
  intro e
  symm
  apply CD ⟨by decide,by decide,by decide⟩ ?_
  apply CD ⟨by decide,by decide,by decide⟩ ?_
  refine ER (IntMulOk.of_bits (by decide +kernel) (by decide +kernel)) ?_
  refine pH (show(0:Int)<10^(60:Int).toNat*10^(60:Int).toNat by decide +kernel) ?_
  generalize e%(10^(60:Int).toNat*10^(60:Int).toNat)=c1
  symm
  refine CD ⟨by decide,by decide,by decide⟩ ?_
  generalize (10:Int)^(18:Int).toNat=c2
  symm
  refine Bs ?_
  have h:DB c1 (if decide (c2<=e)=true then 1 else 0):=by
   right
   split <;>decide
  generalize (if decide (c2<=e)=true then(1:Int) else 0)=c3 at h⊢
  apply rD h ?_
  apply rD (.inl ⟨by decide,by decide⟩) ?_
  apply pH (by decide) ?_
  refine⟨by show 3<=_;decide,?_⟩
  exact Cu rfl (q _ _)
 symm
 apply BJ i ?_
 rw[lQm]
 by_cases c:(k:Int)<ns.length
 ·rw[Qeq c,Qhq rfl]
  have j:k<ns.length:=by omega
  symm
  refine GQ i (aI (x:=.int ns[k]) (by rw[gQm,gQe j];rfl)) ?_
  symm
  refine Hh ?_
  exact f _
 ·rw[Qdq c,Quq (by decide)]
  refine bM ?_
  exact f 0
end
section
variable{S:aA}{Q:Res->aA->Prop}
def jD{n:Nat}{l:List Int}(h:l.length<=1000):Pl (n+2) (cb l):=⟨by simpa using h,λd b=>by
 obtain⟨a,_,rfl⟩:=Qkq.mp b
 exact trivial⟩
def mq{α:Type}{n:Nat}{f:α->D}{l:List α}(h:l.length<=1000)(b:∀a∈l,Pl n (f a)):Pl (n+1) (.tup (l.map f)):=⟨by simpa using h,λd c=>by
 obtain⟨a,e,rfl⟩:=Qkq.mp c
 exact b a e⟩
def Cs{w:cN}{n:Nat}{s:aP}(o:iL w)(x:cG w n s)(G:n<=100):Pl 9 s.d:=by
 have z:=o.l1
 have J:=o.l2
 have P:=o.l3
 have L:=o.l4
 have C:=x.lr
 have H:=x.lp
 have A:=x.ls
 have F:=x.lh
 refine⟨by show 4<=1000;decide,λd a=> ?_⟩
 simp only[Qsq,QXq,or_false] at a
 rcases a with rfl|rfl|rfl|rfl
 ·refine mq (n:=7) (by omega) λt k=> ?_
  obtain⟨i,m,e⟩:=QbQ k
  have j:s.aj[i]?=some t:=by rw[gQe m,e]
  have g:w.aj[i]?=some (w.aj[i]'(by omega)):=gQe (by omega)
  have c:=x.rm i _ t g j
  have b:=o.rm _ (mQg g)
  have q:=b.l1
  have y:=b.l2
  have v:=c.lv
  have I:=c.lb
  have M:=c.br
  have B:=c.bl
  refine⟨by show 5<=1000;decide,λd a=> ?_⟩
  simp only[Qsq,QXq,or_false] at a
  rcases a with rfl|rfl|rfl|rfl|rfl
  ·exact jD (by omega)
  ·exact trivial
  ·exact jD (by omega)
  ·exact jD (by omega)
  ·refine mq (n:=5) (by omega) λl u=> ?_
   have:=c.bb l u
   refine mq (n:=4) (by omega) λp h=> ?_
   refine⟨by show 2<=1000;decide,λd a=> ?_⟩
   simp only[Qsq,QXq,or_false] at a
   rcases a with rfl|rfl <;>exact trivial
 ·refine mq (n:=7) (by omega) λp h=> ?_
  have:=x.ps p h
  refine⟨by show 2<=1000;decide,λd a=> ?_⟩
  simp only[Qsq,QXq,or_false] at a
  rcases a with rfl|rfl
  ·exact trivial
  ·exact jD (by omega)
 ·exact jD (by omega)
 ·refine mq (n:=7) (by omega) λp h=> ?_
  obtain⟨i,m,e⟩:=QbQ h
  have j:s.af[i]?=some (p.1,p.2):=by rw[gQe m,e]
  obtain⟨K,N,g,r⟩:=x.whand j
  have q:=(o.hd _ (mQg g)).l1
  have y:=r.lv
  have v:=r.lf
  refine⟨by show 2<=1000;decide,λd a=> ?_⟩
  simp only[Qsq,QXq,or_false] at a
  rcases a with rfl|rfl
  ·exact jD (by dsimp only at q;omega)
  ·refine mq (n:=5) (by omega) λf R=> ?_
   refine⟨by show 5<=1000;decide,λd a=> ?_⟩
   simp only[Qsq,QXq,or_false] at a
   rcases a with rfl|rfl|rfl|rfl|rfl <;>exact trivial
end
abbrev lM(q:Nat):bN:=⟨-1,-1,q,0,0⟩
def pG(ts:List (Str×Nat))(a:List (List Rw)):cN:=⟨[],ts,[],a.map λp=>([],p)⟩
def om(ps:List (Int×List Int))(sp:List Nat):aP:=⟨[],ps,[],sp.map λq=>([],[lM q])⟩
def xQ(ns:List Str):Rw->Prop
 |.take x=>x∈ns
 |.give x=>x∈ns
 |.pass x y=>x∈ns/\y∈ns
 |.say (.num v)=>v<=9
 |_=>False
def fg(ps:List (Int×List Int))(j:Nat):Int×List Int:=(ps[j]?).getD (0,[])
def Hn(ns:List Str)(ps:List (Int×List Int))(h:Nat):Rw->List (Int×List Int)
 |.take x=>ps.set (bE ns x) (du (fg ps (bE ns x)) h)
 |.give x=>ps.set (bE ns x) (cJ (fg ps (bE ns x)))
 |.pass x y=>(ps.set (bE ns x) (cJ (fg ps (bE ns x)))).set (bE ns y) (du (fg (ps.set (bE ns x) (cJ (fg ps (bE ns x)))) (bE ns y)) h)
 |_=>ps
def FT:Rw->Option Int
 |.say (.num v)=>some v
 |_=>none
structure EH(ts:List (Str×Nat))(prs:List (List Rw)):Prop where
 nd:(ts.map (·.1)).Nodup
 l1:ts.length<=4
 l0:0<prs.length
 l2:prs.length<=4
 tv:∀p∈ts,p.2<=9
 pl:∀pr∈prs,0<pr.length/\pr.length<=12
 rw:∀pr∈prs,∀r∈pr,xQ (ts.map (·.1)) r
section
variable{ts:List (Str×Nat)}{prs:List (List Rw)}{ps:List (Int×List Int)}{sp:List Nat}{h q:Nat}{pr:List Rw}{r:Rw}
def EH.ok(a:EH ts prs):iL (pG ts prs):=by
 have f:=a.l1
 refine⟨by show([]:List Str).Nodup;simp,Nat.zero_le _,by show ts.length<=6;omega,Nat.zero_le _,by show(prs.map _).length<=4;rw[lQm];exact a.l2,by show 0<(prs.map _).length;rw[lQm];exact a.l0,a.tv,λp d=>(nomatch d),λr c=>(nomatch c),λh e=> ?_⟩
 obtain⟨pr,b,rfl⟩:=Qkq.mp (show h∈prs.map _ from e)
 refine⟨λp d=>(nomatch d),Nat.zero_le _,(a.pl pr b).2,(a.pl pr b).1,λr c=> ?_⟩
 have:=a.rw pr b r c
 cases r with
 |take x=>exact⟨rfl,this⟩
 |give x=>exact⟨rfl,this⟩
 |pass x y=>exact⟨rfl,this.1,this.2⟩
 | say t=>
   cases t with
   |num v=>exact⟨rfl,this,by show 1<=4;decide⟩
   |_=>exact this.elim
 |_=>exact this.elim
def A4(a:sp[h]?=some q):(om ps sp).af[h]?=some ([],[lM q]):=by
 show(sp.map _)[h]?=_
 rw[gQm,a]
 rfl
def Ew(a:prs[h]?=some pr):progOf (pG ts prs) h (lM q)=some pr:=by
 unfold progOf
 rw[Qhq (show(lM q).room= -1 from rfl)]
 show((prs.map _)[h]?).map _=_
 rw[gQm,a]
 rfl
def G4(e:prs[h]?=some pr)(g:sp[h]?=some q)(c:pr[q]?=some r)(ok:xQ (ts.map (·.1)) r):gV (pG ts prs) (om ps sp) h=(om (Hn (ts.map (·.1)) ps h r) (sp.set h (q+1)),FT r):=by
 have b:=A4 (ps:=ps) g
 have d:=(gQs.mp c).1
 have a:gE (om ps sp) h=lM q:=iR b rfl
 have f:wb (om ps sp) h=om ps (sp.set h (q+1)):=by
  unfold wb
  rw[a,jG b]
  unfold om
  rw[List.map_set]
  rfl
 unfold gV
 rw[a,Quq (λz=>z.1 rfl),Ew e]
 show(if ((q:Int)=(pr.length:Int)) then _ else match pr[((q:Int)).toNat]? with|none=>_|some r=>_)=_
 rw[Quq (by omega),show((q:Int)).toNat=q by omega,c,f]
 cases r with
 |take x=>rfl
 |give x=>rfl
 |pass x y=>rfl
 | say t=>
   cases t with
   | num v=>
     have i:dP (pG ts prs) (om ps sp) h (.num v)=v:=by
       unfold dP
       rw[a,Qhq (show(lM q).room= -1 from rfl)]
       rfl
     show(_,some (dP _ _ _ _))=_
     rw[i]
     rfl
   |_=>exact ok.elim
 |_=>exact ok.elim
def Hs:held (om ps sp)=ps.flatMap (·.2):=by
 unfold held
 show ps.flatMap (·.2)++ [].flatMap _=_
 simp
def p6(prs:List (List Rw))(ps:List (Int×List Int))(sp:List Nat):List Nat:=(List.range sp.length).filter λh=>decide ((sp[h]?).getD 0<((prs[h]?).getD []).length)&& !(ps.any λp=>decide ((h:Int)∈p.2))
def C4(k:sp.length=prs.length)(a:∀(h q:Nat) (pr:List Rw),sp[h]?=some q->prs[h]?=some pr->q<=pr.length):uV (pG ts prs) (om ps sp)=p6 prs ps sp:=by
 unfold uV p6
 rw[show(om ps sp).af.length=sp.length by show(sp.map _).length=_;rw[lQm]]
 refine List.filter_congr λh f=> ?_
 have f:=List.mem_range.mp f
 have d:=gQe f
 have b:=gQe (l:=prs) (i:=h) (by omega)
 have a:=a h _ _ d b
 generalize sp[h]=q at d a
 generalize prs[h]=pr at b a
 have e:tY (pG ts prs) (om ps sp) h=decide (q=pr.length):=by
  have g:uS (om ps sp) h=some (lM q):=by unfold uS;rw[A4 d];rfl
  unfold tY
  rw[g]
  show(decide ((lM q).room= -1)&&decide ((lM q).row=(((progOf (pG ts prs) h (lM q)).getD []).length:Int)))=_
  rw[Ew b]
  show(true&&decide ((q:Int)=(pr.length:Int)))=_
  rw[Bool.true_and]
  simp only[Int.natCast_inj]
 have j:decide ((h:Int)∈held (om ps sp))=ps.any λp=>decide ((h:Int)∈p.2):=by
  rw[Hs]
  rw[Bool.eq_iff_iff]
  simp only[decide_eq_true_eq,QOq,List.any_eq_true]
 rw[e,j,d,b]
 show _=(decide (q<pr.length)&&_)
 have:decide (q<pr.length)= !decide (q=pr.length):=by
  by_cases c:q=pr.length
  ·rw[Qeq c,Qdq (by omega)];rfl
  ·rw[Qdq c,Qeq (by omega)];rfl
 rw[this,Bool.and_comm]
end
end W28
namespace DL
open PySem PySem.Spec L2
section
variable{Γ:cp}{S:aA}
def G0{f g:aU}{Q:D->aA->Prop}(h:E f Γ S λx b=>E g Γ b λy S2=>∃k l z v,x=.ref k/\y=.str z/\(S2[k]?=some (.dct l)\/S2[k]?=some (.fdc l))/\iM l (.inr z)=some v/\Q v S2):E (BA f g) Γ S Q:=by
 obtain⟨x,b,c,y,S2,d,k,l,z,v,rfl,rfl,a,h2,q⟩:=h
 rcases a with a|a <;>exact⟨_,_,by unfold BA;rw[c];simp only[Qbq];rw[d];simp only[Qbq,a,kc];rw[h2];rfl,q⟩
def GW{f:aU}{Q:(List D×(aA->Prop))->aA->Prop}(h:E f Γ S λx b=>∃k l,x=.ref k/\((b[k]?=some (.dct l)/\Q (l.map (λp=>kD p.1),λc=>c[k]?=some (.fdc l)) (b.set k (.fdc l)))\/(b[k]?=some (.fdc l)/\Q (l.map (λp=>kD p.1),λc=>c[k]?=some (.fdc l)) b))):E (Gn f) Γ S Q:=by
 obtain⟨x,b,d,k,l,rfl,a⟩:=h
 rcases a with⟨a,q⟩|⟨a,q⟩
 ·exact⟨_,_,by unfold Gn;rw[d];simp only[Qbq,a],q⟩
 ·exact⟨_,_,by unfold Gn;rw[d];simp only[Qbq,a],q⟩
end
end DL
namespace W28
open PySem PySem.Spec L2 DL
def fU:List Str->Nat->List (Key×D)
 | [],_=> []
 |x::r,b=>(.inr x,.ref (b+1))::fU r (b+2)
theorem o6:∀{ns:List Str} {b j:Nat} {x:Str},ns[j]?=some x->(fU ns b)[j]?=some (.inr x,.ref (b+2*j+1))
 |_::_,b,0,_,e=>by cases e;rfl
 | _::r,b,j+1,x,e=>by
   have:=o6 (ns:=r) (b:=b+2) (j:=j) (by simpa using e)
   simp only[fU,List.getElem?_cons_succ]
   rw[this]
   congr 4
   omega
theorem eB:∀{ns:List Str} {b:Nat},(fU ns b).map (·.1)=ns.map Sum.inr
 | [],_=>rfl
 |x::r,b=>by simp only[fU,QDq];rw[eB]
theorem y3:∀{l:List (Key×D)} {j:Nat} {k:Key} {v:D},(l.map (·.1)).Nodup->l[j]?=some (k,v)->iM l k=some v
 |p::l,0,k,v,_,e=>by cases e;simp[iM]
 | p::l,j+1,k,v,nd,e=>by
   have e:l[j]?=some (k,v):=by simpa using e
   simp only[QDq,List.nodup_cons] at nd
   have a:=y3 nd.2 e
   unfold iM at a⊢
   rw[List.find?_cons_of_neg (by
     intro z
     have:=QZq z
     exact nd.1 (this▸Qkq.mpr ⟨_,mQg e,rfl⟩))]
   exact a
def B1{ns:List Str}{b:Nat}{x:Str}(nd:ns.Nodup)(c:x∈ns):iM (fU ns b) (.inr x)=some (.ref (b+2*bE ns x+1)):=by
 refine y3 ?_ (o6 (e_ c).2)
 rw[eB]
 exact List.Pairwise.map _ (λa b h z=>h (Sum.inr.inj z)) nd
structure cH(ns:List Str)(base:Nat)(ps:List (Int×List Int))(sp:List Nat)(S:aA):Prop where
 len:ps.length=ns.length
 b:∀j p,ps[j]?=some p->S[base+2*j]?=some (.lst (p.2.map D.int))
 a:∀j p,ps[j]?=some p->S[base+2*j+1]?=some (.lst [.int p.1,.ref (base+2*j)])
 d:S[base+2*ns.length]?=some (.dct (fU ns base))\/S[base+2*ns.length]?=some (.fdc (fU ns base))
 s:S[base+2*ns.length+1]?=some (.lst (sp.map da))
structure Kp(base:Nat)(S S':aA):Prop where
 len:S'.length=S.length
 eq:∀k,k<base->S'[k]?=S[k]?
 cl:iK S S'
def Kp.refl{base:Nat}{S:aA}:Kp base S S:=⟨rfl,λ_ _=>rfl,kK⟩
def Kp.trans{base:Nat}{S b S2:aA}(x:Kp base S b)(y:Kp base b S2):Kp base S S2:=⟨y.len.trans x.len,λk a=>(y.eq k a).trans (x.eq k a),by have:=x.len;have:=y.len;omega,λk o a e=>by
 rcases y.cl.2 k o (by rw[x.len];exact a) e with h|h
 ·exact x.cl.2 k o a h
 ·exact .inr (by rw[x.len] at h;exact h)⟩
def Kp.set{base k:Nat}{S:aA}{o:O}(a:base<=k)(h:zK S.length o=true):Kp base S (S.set k o):=⟨by simp,λj b=>QKq (by omega),my h⟩
def Kp.ex{base d:Nat}{f S g:aA}(x:Ex d f S)(y:Kp base S g)(h:f.length<=base)(l:d<f.length):Ex d f g:=by
 refine⟨by rw[y.len];exact x.len,λj o i e=> ?_,?_⟩
 ·have m:=(gQs.mp e).1
  rw[y.eq j (by omega)]
  exact x.keep j o i e
 ·obtain⟨a,b,c,k⟩:=x.pot
  exact⟨a,b,c,by rw[y.eq d (by omega)];exact k⟩
def g_{base:Nat}{S a:aA}{d:D}{Q:Res->aA->Prop}(x:Kp base S a)(hd:∀k,d≠.ref k)(b:bB 0 d=true)(q:Q (.d d) a):Op (settle S d a) λp=>Q p.1 p.2:=
 eD x.cl (by rw[←x.len,QEq]) hd (eX b) q
section
variable{ns:List Str}{base h:Nat}{ps:List (Int×List Int)}{sp:List Nat}{S:aA}{Q:Res->aA->Prop}{x:Str}{p:Int×List Int}{j:Nat}
def cH.lt(c:cH ns base ps sp S):base+2*ns.length+1<S.length:=(gQs.mp c.s).1
def cH.putB{l:List Int}(c:cH ns base ps sp S)(k:ps[j]?=some p):cH ns base (ps.set j (p.1,l)) sp (S.set (base+2*j) (.lst (l.map D.int)))/\Kp base S (S.set (base+2*j) (.lst (l.map D.int))):=by
 have n:=(gQs.mp k).1
 have f:=c.len
 have m:=c.lt
 refine⟨⟨by simpa using f,λi g e=> ?_,λi g e=> ?_,?_,?_⟩,Kp.set (by omega) ?_⟩
 ·rcases get_set e with⟨rfl,rfl⟩|⟨hn,e⟩
  ·exact Qyq (by omega)
  ·rw[QKq (by omega)]
   exact c.b i g e
 ·rw[QKq (by omega)]
  rcases get_set e with⟨rfl,rfl⟩|⟨hn,e⟩
  ·exact c.a i p k
  ·exact c.a i g e
 ·rw[QKq (by omega)];exact c.d
 ·rw[QKq (by omega)];exact c.s
 ·exact aK λ_ _=>rfl
def cH.putA{v:Int}(c:cH ns base ps sp S)(k:ps[j]?=some p):cH ns base (ps.set j (v,p.2)) sp (S.set (base+2*j+1) (.lst [.int v,.ref (base+2*j)]))/\Kp base S (S.set (base+2*j+1) (.lst [.int v,.ref (base+2*j)])):=by
 have m:=(gQs.mp k).1
 have f:=c.len
 have l:=c.lt
 refine⟨⟨by simpa using f,λi g e=> ?_,λi g e=> ?_,?_,?_⟩,Kp.set (by omega) ?_⟩
 ·rw[QKq (by omega)]
  rcases get_set e with⟨rfl,rfl⟩|⟨hn,e⟩
  ·exact c.b i p k
  ·exact c.b i g e
 ·rcases get_set e with⟨rfl,rfl⟩|⟨hn,e⟩
  ·exact Qyq (by omega)
  ·rw[QKq (by omega)]
   exact c.a i g e
 ·rw[QKq (by omega)];exact c.d
 ·rw[QKq (by omega)];exact c.s
 ·simp only[zK,bh,bB,Bool.and_true,Bool.true_and]
  exact Qeq (by omega)
def cH.putS{sp':List Nat}(c:cH ns base ps sp S):cH ns base ps sp' (S.set (base+2*ns.length+1) (.lst (sp'.map da)))/\Kp base S (S.set (base+2*ns.length+1) (.lst (sp'.map da))):=by
 have f:=c.len
 have k:=c.lt
 refine⟨⟨f,λi g e=> ?_,λi g e=> ?_,?_,?_⟩,Kp.set (by omega) (aK λ_ _=>rfl)⟩
 ·have:=(gQs.mp e).1
  rw[QKq (by omega)]
  exact c.b i g e
 ·have:=(gQs.mp e).1
  rw[QKq (by omega)]
  exact c.a i g e
 ·rw[QKq (by omega)];exact c.d
 ·exact Qyq k
def cH.put0(c:cH ns base ps sp S)(a:ps[j]?=some p):cH ns base (ps.set j p) sp S:=by
 have:ps.set j p=ps:=by
  have b:=(gQs.mp a).1
  rw[gQe b] at a
  rw[←QdQ a,List.set_getElem_self]
 rw[this]
 exact c
def cH.ex{f:Nat}{g:aA}(c:cH ns base ps sp S)(x:Ex f S g)(i:f<base):cH ns base ps sp g:=
 ⟨c.len,λj p e=>x.keep _ _ (by omega) (c.b j p e),λj p e=>x.keep _ _ (by omega) (c.a j p e),c.d.imp (x.keep _ _ (by omega)) (x.keep _ _ (by omega)),x.keep _ _ (by omega) c.s⟩
def cH.app{G:aA}(c:cH ns base ps sp S):cH ns base ps sp (S++G):=
 ⟨c.len,λj p e=>bx (c.b j p e),λj p e=>bx (c.a j p e),c.d.imp bx bx,bx c.s⟩
def Af(c:cH ns base ps sp S)(e:ps[j]?=some p)(o:p.1<=9)(r:p.2.length<=900)(q:∀i,cH ns base (ps.set j (cJ p)) sp i->Kp base S i->Q (.d .non) i):Fn eZ [.ref (base+2*j+1)] S Q:=by
 refine bq ?_
 unfold iY
 symm
 refine dt (c.a j p e) rfl ?_
 refine dz (c.b j p e) ⟨⟨rfl,c.b j p e⟩,?_⟩
 obtain⟨v,g⟩:=p
 cases g with
 | cons y l=>
   apply aN (λ_=> ?_) (λz=>by cases z)
   apply wH ?_
   refine dt (c.a j _ e) rfl ?_
   apply⟨_,_,rfl,c.b j _ e,?_⟩
   refine⟨_,c.b j _ e,?_⟩
   refine HD (d:=(l.map D.int,D.int y)) ?_ ?_
   · simp only[kR]
     rw[Qhq ⟨by decide,by decide⟩,lQm]
     have:seqIndex? (0:Int) (y::l).length=some 0:=Et (j:=0) (by simp) (by have:(y::l).length<=900:=r;omega)
     rw[this]
     rfl
   obtain⟨m,f⟩:=c.putB (l:=l) e
   exact g_ f (λk z=>(nomatch z)) rfl (q _ m f)
 | nil=>
   apply aN (λz=>by cases z) (λ_=> ?_)
   apply dt (c.a j _ e) (d:=.int v) rfl ?_
   have n:cJ (v,[])=(if 9<v+1 then 9 else v+1,[]):=rfl
   refine aN (λz=> ?_) (λz=>bM ?_)
   · have z:=QZq z
     symm
     apply dt (c.a j _ e) (d:=.int v) rfl ?_
     refine⟨_,_,_,0,rfl,rfl,c.a j _ e,rfl,?_⟩
     obtain⟨m,f⟩:=c.putA (v:=v+1) e
     rw[n,Quq (by omega)] at q
     exact g_ f (λk z=>(nomatch z)) rfl (q _ m f)
   · have z:=QaQ z
     have o:v<=9:=o
     rw[n,Qhq (by omega),show(9:Int)=v by omega] at q
     exact g_ (base:=base) Kp.refl (λk z=>(nomatch z)) rfl (q _ (c.put0 e) Kp.refl)
def z_(c:cH ns base ps sp S)(e:ps[j]?=some p)(m:p.2.length<=900)(q:∀i,cH ns base (ps.set j (du p h)) sp i->Kp base S i->Q (.d .non) i):Fn eT [.ref (base+2*j+1),.int h] S Q:=by
 refine bq ?_
 unfold jt
 symm
 apply dt (c.a j p e) (d:=.int p.1) rfl ?_
 unfold du at q
 refine aN (λz=> ?_) (λz=> ?_)
 ·have z:p.1>0:=QZq z
  rw[Qhq (show 0<p.1 by omega)] at q
  symm
  apply dt (c.a j _ e) (d:=.int p.1) rfl ?_
  refine⟨_,_,_,0,rfl,rfl,c.a j _ e,rfl,?_⟩
  obtain⟨g,f⟩:=c.putA (v:=p.1-1) e
  exact g_ f (λk z=>(nomatch z)) rfl (q _ g f)
 ·have z:¬p.1>0:=QaQ z
  rw[Quq (show¬0<p.1 by omega)] at q
  symm
  apply wH ?_
  refine dt (c.a j _ e) rfl ?_
  apply⟨_,_,rfl,c.b j _ e,?_⟩
  refine⟨_,c.b j _ e,wZ (aM (by rw[lQm];omega)) ?_⟩
  obtain⟨g,f⟩:=c.putB (l:=p.2++ [(h:Int)]) e
  rw[Qzq] at g f
  exact g_ f (λk z=>(nomatch z)) rfl (q _ g f)
end
end W28
namespace DL
open PySem PySem.Spec L2
def GZ{b:cp}{S:aA}{f:dg}{Q:D->aA->Prop}(h:E f b S λp a=>p.2.isL=true/\∃bs,BM p.1=some bs/\Q (.bl (bs.any id)) a):E (DU f) b S Q:=by
 obtain⟨p,a,c,l,bs,d,q⟩:=h
 exact⟨_,a,by unfold DU;rw[c];simp only[Qbq];rw[Qhq l,d];rfl,q⟩
theorem yM{α:Type}{f:α->Bool}:∀l:List α,BM (l.map λx=>.bl (f x))=some (l.map f)
 | []=>rfl
 | a::l=>by
   simp only[QDq,BM]
   rw[yM l]
   rfl
def BK{n:cp}{S:aA}{js:List (Option Nat)}{f:aU}{g:jB}{d:aU}{Q:List D->aA->Prop}{k:Nat}{l:List (Key×D)}(P:cp->Prop)(G:Key×D->D)(B:P (kg js n))(C:E f n S λx r=>x=.ref k/\r=S)(b:aA)(t:(S[k]?=some (.dct l)/\b=S.set k (.fdc l))\/(S[k]?=some (.fdc l)/\b=S))(hz:b[k]?=some (.fdc l))(v:l.length<=1000)
  (he:∀p∈l,∀c,P c->Tg g (kD p.1) c b λa S2=>S2=b/\P a/\E d a b λy i=>y=G p/\i=b) (q:Q (l.map G) b):E (bP js (Gn f) g cA d) n S Q:=by
 have e:∃j:List (Key×D),l.map (λp=>kD p.1)=j.map (λp=>kD p.1)/\b[k]?=some (.fdc l)/\j.length<=1000/\(∀x∈j,∀c,P c->Tg g (kD x.1) c b λa S2=>S2=b/\P a/\E cA a b λk i=>i=b/\k=true/\(true=true->E d a b λy i=>y=G x/\i=b))/\Q ((j.filter λ_=>true).map G) b:=
  ⟨l,rfl,hz,v,λx z c o=>by
   obtain⟨a,S2,m,w,u,F⟩:=he x z c o
   exact⟨a,S2,m,w,u,_,_,rfl,rfl,rfl,λ_=>F⟩,by rw[List.filter_eq_self.mpr (λ_ _=>rfl)];exact q⟩
 refine lT P (λp:Key×D=>kD p.1) G (λ_=>true) B (GW (C.mono λx r A=> ?_))
 obtain⟨m,s⟩:=A
 subst m s
 refine⟨k,l,rfl,?_⟩
 rcases t with⟨h,rfl⟩|⟨h,rfl⟩
 ·exact .inl ⟨h,e⟩
 ·exact .inr ⟨h,e⟩
end DL
namespace W28
open PySem PySem.Spec L2 DL
theorem vA:∀(l:List Nat) (n j:Nat) {d:D},(gh n (l.map da))[j]?=some d->∃h,l[j]?=some h/\d=.tup [.int (n+j:Nat),.int h]
 | [],_,_,_,e=>by simp[gh] at e
 | a::l,n,0,_,e=>by
   simp[gh] at e
   exact⟨a,rfl,by rw[←e];rfl⟩
 | a::l,n,j+1,d,e=>by
   obtain⟨h,c,b⟩:=vA l (n+1) j (d:=d) (by simpa [gh] using e)
   exact⟨h,c,by rw[b,show n+1+j=n+(j+1) by omega]⟩
theorem wy:∀(l:List D) (n:Nat),(gh n l).length=l.length
 | [],_=>rfl
 |a::l,n=>by simp[gh,wy l (n+1)]
def Fb{ns:List Str}{j:Nat}{x:Str}(nd:ns.Nodup)(h:ns[j]?=some x):bE ns x=j:=by
 have:=e_ (mQg h)
 have a:=(gQs.mp h).1
 exact(List.getElem_inj (h₀:=this.1) (h₁:=a) nd).mp (by
  have b:=this.2
  rw[gQe this.1] at b
  rw[gQe a] at h
  exact(QdQ b).trans (QdQ h).symm)
def ze{ns:List Str}{ps:List (Int×List Int)}(nd:ns.Nodup)(b:ps.length=ns.length):ns.map (λx=>fg ps (bE ns x))=ps:=by
 apply List.ext_getElem?
 intro j
 rw[gQm]
 cases e:ns[j]? with
 | none=>
   have:=List.getElem?_eq_none_iff.mp e
   rw[List.getElem?_eq_none_iff.mpr (by omega)]
   rfl
 | some x=>
   have:=(gQs.mp e).1
   have a:=gQe (l:=ps) (i:=j) (by omega)
   rw[Option.map_some,Fb nd e]
   unfold fg
   rw[a]
   rfl
def DE{ns:List Str}{ps:List (Int×List Int)}{j:Int}(nd:ns.Nodup)(a:ps.length=ns.length):(ns.map λx=>decide (j∈(fg ps (bE ns x)).2)).any id=ps.any λp=>decide (j∈p.2):=by
 have e:=ze nd a
 have b:(ns.map λx=>decide (j∈(fg ps (bE ns x)).2))=(ns.map λx=>fg ps (bE ns x)).map λp=>decide (j∈p.2):=by rw[QPq];rfl
 rw[b,e,List.any_map]
 rfl
section
variable{ts:List (Str×Nat)}{prs:List (List Rw)}{base h:Nat}{ps:List (Int×List Int)}{sp:List Nat}{S:aA}{Q:Res->aA->Prop}{x:Str}{q:Nat}{pr:List Rw}{r:Rw}
abbrev bZ(ts:List (Str×Nat)):List Str:=ts.map (·.1)
def eM{j:Nat}(h:j<ps.length):ps[j]?=some (fg ps j):=by
 unfold fg
 rw[gQe h]
 rfl
def CH{e:cp}{f g:aU}{R:D->aA->Prop}(nd:(bZ ts).Nodup)(c:cH (bZ ts) base ps sp S)(m:x∈bZ ts)(l:E f e S λd a=>d=.ref (base+2*(bZ ts).length)/\a=S)(k:E g e S λd a=>d=.str x/\a=S)(q:R (.ref (base+2*bE (bZ ts) x+1)) S):E (BA f g) e S R:=by
 refine G0 (l.mono λd a b=> ?_)
 obtain⟨i,j⟩:=b
 subst i j
 refine k.mono λd a b=> ?_
 obtain⟨i,j⟩:=b
 subst i j
 exact⟨_,_,_,_,rfl,rfl,c.d,B1 nd m,q⟩
def VB(ps:List (Int×List Int)):Prop:=∀p∈ps,(0<=p.1/\p.1<=9)/\p.2.length<=100
def zv(L:EH ts prs)(c:cH (bZ ts) base ps sp S)(C:VB ps)(u:prs[h]?=some pr)(H:sp[h]?=some q)(P:pr[q]?=some r)(R:q<=900)
  (k:∀a,cH (bZ ts) base (Hn (bZ ts) ps h r) (sp.set h (q+1)) a->Kp base S a->Q (.d (Iv h (FT r))) a):Fn f_ [(pG ts prs).d,.ref (base+2*(bZ ts).length),.ref (base+2*(bZ ts).length+1),.int h] S Q:=by
 have ok:=L.rw pr (mQg u) r (mQg P)
 have K:=L.nd
 have Y:=c.len
 refine bq ?_
 unfold jf
 symm
 apply ar rfl ?_
 refine ar (d:=fo ([],pr)) (aI (by show(((prs.map _)).map fo)[h]?=_;rw[QPq,gQm,u];rfl)) ?_
 symm
 apply ar (d:=.tup (pr.map Rw.d)) rfl ?_
 refine dt c.s (d:=da q) (aI (by rw[gQm,H];rfl)) ?_
 refine ar (d:=r.d) (aI (by rw[gQm,P];rfl)) ?_
 symm
 refine dt c.s (d:=.int q) (aI (by rw[gQm,H];rfl)) ?_
 have X:=(gQs.mp H).1
 symm
 refine⟨_,_,_,h,rfl,rfl,c.s,by unfold yu;rw[Qhq (by omega),Qhq (by rw[lQm];omega)];simp,?_⟩
 rw[show(q:Int)+1=((q+1:Nat):Int) by omega,show(sp.map da).set h (.int ((q+1:Nat):Int))=(sp.set h (q+1)).map da by rw[List.map_set];rfl]
 obtain⟨f,n⟩:=c.putS (sp':=sp.set h (q+1))
 generalize (S.set (base+2*(bZ ts).length+1) (.lst ((sp.set h (q+1)).map da)))=i at f n⊢
 have g:∀{y:Str},y∈bZ ts->∀{b:List (Int×List Int)},b.length=ps.length->bE (bZ ts) y<b.length:=λj b e=>by have:=(e_ j).1;omega
 have B:∀{y:Str} {i:aA} {A:D->aA->Prop} {l:D},y∈bZ ts->cH (bZ ts) base ps (sp.set h (q+1)) i->lW (match l with|.tup m=>m|_=> []) 1=some (.str y)->(∃m,l=.tup m)→
   (∀a,cH (bZ ts) base (ps.set (bE (bZ ts) y) (cJ (fg ps (bE (bZ ts) y)))) (sp.set h (q+1)) a->Kp base i a->A .non a)→
   E (az eZ (av (BA (au 1) (bf qY (au 4) (cF (.int 1)))) aw)) [some (pG ts prs).d,some (.ref (base+2*(bZ ts).length)),some (.ref (base+2*(bZ ts).length+1)),some (.int h),some l] i A:=λ{y i A l} j f ha hd k=>by
  obtain⟨m,rfl⟩:=hd
  refine Bv (gw (CH K f j (bj rfl ⟨rfl,rfl⟩) (rp (bj rfl (CL (ar ha ⟨rfl,rfl⟩)))) (zg ?_)))
  have o:=mQg (eM (g j rfl))
  exact Af f (eM (g j rfl)) (C _ o).1.2 (by have:=(C _ o).2;omega) λa J I=>k a J I
 have G:∀{y:Str} {b:List (Int×List Int)} {i:aA} {A:D->aA->Prop} {l:D},y∈bZ ts->b.length=ps.length->(∀p∈b,p.2.length<=100)->cH (bZ ts) base b (sp.set h (q+1)) i->lW (match l with|.tup m=>m|_=> []) (-1)=some (.str y)->(∃m,l=.tup m)→
   (∀a,cH (bZ ts) base (b.set (bE (bZ ts) y) (du (fg b (bE (bZ ts) y)) h)) (sp.set h (q+1)) a->Kp base i a->A .non a)→
   E (az eT (av (BA (au 1) (bf qY (au 4) (kY (cF (.int 1))))) (av (au 3) aw))) [some (pG ts prs).d,some (.ref (base+2*(bZ ts).length)),some (.ref (base+2*(bZ ts).length+1)),some (.int h),some l] i A:=λ{y b i A l} j hpl vb' f ha hd k=>by
  obtain⟨m,rfl⟩:=hd
  refine Bv (gw (CH K f j (bj rfl ⟨rfl,rfl⟩) (rp (bj rfl (jX (CL ⟨1,rfl,ar ha ⟨rfl,rfl⟩⟩)))) (gw (bj rfl (zg ?_)))))
  have o:=mQg (eM (g j hpl))
  exact z_ f (eM (g j hpl)) (by have:=vb' _ o;omega) λa J I=>k a J I
 symm
 cases r with
 | say t=>
   cases t with
   | num v=>
     apply ar (d:=.str "say") rfl ?_
     refine ef ?_
     rw[Qeq rfl]
     apply aN (λ_=> ?_) (λz=>by cases z)
     apply ar (d:=.int v) rfl ?_
     refine⟨by show 2<=_;decide,?_⟩
     exact g_ n (λk z=>(nomatch z)) rfl (k _ f n)
   |_=>exact ok.elim
 | give y=>
   have ok:y∈bZ ts:=ok
   apply ar (d:=.str "give") rfl ?_
   refine ef ?_
   rw[Qdq (by decide +kernel)]
   refine aN (λz=>by cases z) (λ_=>bM ?_)
   apply bA (dR (ff (pe ?_)))
   apply ar (d:=.str "give") rfl ?_
   refine⟨by show 2<=_;decide,?_⟩
   refine cQ ⟨_,_,rfl,cP ["give","pass"],?_⟩
   rw[iE]
   refine aN (λ_=> ?_) (λz=>by simp at z)
   refine vJ (B ok f rfl ⟨_,rfl⟩ λN F w=> ?_)
   apply bA (dR (ff (pe ?_)))
   apply ar (d:=.str "give") rfl ?_
   refine⟨by show 2<=_;decide,?_⟩
   refine cQ ⟨_,_,rfl,cP ["take","pass"],?_⟩
   rw[iE]
   apply aN (λz=>absurd (show decide (("give":Str)∈(["take","pass"]:List Str))=true from z) (by decide +kernel)) (λ_=>bM ?_)
   exact g_ (n.trans w) (λk z=>(nomatch z)) rfl (k _ F (n.trans w))
 | take y=>
   have ok:y∈bZ ts:=ok
   apply ar (d:=.str "take") rfl ?_
   refine ef ?_
   rw[Qdq (by decide +kernel)]
   refine aN (λz=>by cases z) (λ_=>bM ?_)
   apply bA (dR (ff (pe ?_)))
   apply ar (d:=.str "take") rfl ?_
   refine⟨by show 2<=_;decide,?_⟩
   refine cQ ⟨_,_,rfl,cP ["give","pass"],?_⟩
   rw[iE]
   refine aN (λz=>absurd (show decide (("take":Str)∈(["give","pass"]:List Str))=true from z) (by decide +kernel)) (λ_=>bM ?_)
   apply bA (dR (ff (pe ?_)))
   apply ar (d:=.str "take") rfl ?_
   refine⟨by show 2<=_;decide,?_⟩
   refine cQ ⟨_,_,rfl,cP ["take","pass"],?_⟩
   rw[iE]
   refine aN (λ_=> ?_) (λz=>by simp at z)
   apply vJ (G ok rfl (λp u=>(C p u).2) f rfl ⟨_,rfl⟩ λN F w=> ?_)
   exact g_ (n.trans w) (λk z=>(nomatch z)) rfl (k _ F (n.trans w))
 | pass y z=>
   have ok:y∈bZ ts/\z∈bZ ts:=ok
   apply ar (d:=.str "pass") rfl ?_
   refine ef ?_
   rw[Qdq (by decide +kernel)]
   refine aN (λz=>by cases z) (λ_=>bM ?_)
   apply bA (dR (ff (pe ?_)))
   apply ar (d:=.str "pass") rfl ?_
   refine⟨by show 2<=_;decide,?_⟩
   refine cQ ⟨_,_,rfl,cP ["give","pass"],?_⟩
   rw[iE]
   refine aN (λ_=> ?_) (λz=>by simp at z)
   refine vJ (B ok.1 f rfl ⟨_,rfl⟩ λN F w=> ?_)
   apply bA (dR (ff (pe ?_)))
   apply ar (d:=.str "pass") rfl ?_
   refine⟨by show 2<=_;decide,?_⟩
   refine cQ ⟨_,_,rfl,cP ["take","pass"],?_⟩
   rw[iE]
   refine aN (λ_=> ?_) (λz=>by simp at z)
   refine vJ (G ok.2 (by simp) (λp u=> ?_) F rfl ⟨_,rfl⟩ λW U M=> ?_)
   · rcases QTq u with u|rfl
     · exact(C p u).2
     · have o:=(C _ (mQg (eM (g ok.1 rfl)))).2
       generalize fg ps (bE (bZ ts) y)=b at o⊢
       unfold cJ
       split
       · rename_i e;rw[e] at o;simp at o⊢;omega
       · simp
   symm
   exact g_ ((n.trans w).trans M) (λk z=>(nomatch z)) rfl (k _ U ((n.trans w).trans M))
 |_=>exact ok.elim
def cH.freeze(c:cH (bZ ts) base ps sp S):∃g,cH (bZ ts) base ps sp g/\Kp base S g/\∀G:aA,(g++G)[base+2*(bZ ts).length]?=some (.fdc (fU (bZ ts) base))/\(((S++G)[base+2*(bZ ts).length]?=some (.dct (fU (bZ ts) base))/\g++G=(S++G).set (base+2*(bZ ts).length) (.fdc (fU (bZ ts) base)))\/((S++G)[base+2*(bZ ts).length]?=some (.fdc (fU (bZ ts) base))/\g++G=S++G)):=by
 have n:=c.len
 have t:=c.lt
 rcases c.d with f|f
 ·refine⟨S.set (base+2*(bZ ts).length) (.fdc (fU (bZ ts) base)),⟨n,λi o k=> ?_,λi o k=> ?_,.inr (Qyq (by omega)),?_⟩,Kp.set (by omega) ?_,λG=>⟨bx (pR f),.inl ⟨bx f,(List.set_append_left _ _ (by omega)).symm⟩⟩⟩
  ·have:=(gQs.mp k).1
   rw[QKq (by omega)]
   exact c.b i o k
  ·have:=(gQs.mp k).1
   rw[QKq (by omega)]
   exact c.a i o k
  ·rw[QKq (by omega)];exact c.s
  ·show bh S.length ((fU (bZ ts) base).map (·.2))=true
   refine oH λd f=> ?_
   obtain⟨u,p,rfl⟩:=Qkq.mp f
   obtain⟨j,l⟩:=List.getElem?_of_mem p
   have m:j<(bZ ts).length:=by
    have:=(gQs.mp l).1
    have e:=congrArg List.length (eB (ns:=bZ ts) (b:=base))
    rw[lQm,lQm] at e
    omega
   rw[o6 (gQe m)] at l
   cases l
   exact Qeq (by omega)
 ·exact⟨S,c,Kp.refl,λG=>⟨bx f,.inr ⟨bx f,rfl⟩⟩⟩
def DP(G:EH ts prs)(c:cH (bZ ts) base ps sp S)(hl:sp.length=prs.length)
  (k:∀m,cH (bZ ts) base ps sp m->Kp base S m->Q (.l ((p6 prs ps sp).map da)) m):Fn jE [(pG ts prs).d,.ref (base+2*(bZ ts).length),.ref (base+2*(bZ ts).length+1)] S Q:=by
 have N:=G.nd
 have I:=c.len
 have l4:=G.l2
 have l1:=G.l1
 have nl:(bZ ts).length<=4:=by rw[lQm];exact l1
 refine bq ?_
 unfold mP
 symm
 refine⟨by show 0<=_;decide,?_⟩
 refine bA (oV (DK ?_))
 refine jW (bj rfl (dz (bx c.s) ?_))
 let B:Nat->Bool:=λh=>decide ((sp[h]?).getD 0<((prs[h]?).getD []).length)&& !(ps.any λp=>decide ((h:Int)∈p.2))
 refine⟨λj f m=>(∃M z,f= [some (pG ts prs).d,some (.ref (base+2*(bZ ts).length)),some (.ref (base+2*(bZ ts).length+1)),some (.ref S.length),M,z])/\∃n,m=n++ [O.lst (((List.range j).filter B).map da)]/\cH (bZ ts) base ps sp n/\Kp base S n,⟨⟨_,_,rfl⟩,S,rfl,c,Kp.refl⟩,λj f m h=> ?_,?_,?_⟩
 ·obtain⟨_,n,rfl,c2,_⟩:=h
  exact bx c2.s
 ·rintro j d f m Y ⟨⟨M,z,rfl⟩,n,rfl,c2,k2⟩
  obtain⟨q,P,rfl⟩:=vA sp 0 j Y
  rw[Nat.zero_add]
  have hj:=(gQs.mp P).1
  have H:=gQe (l:=prs) (i:=j) (by omega)
  generalize prs[j]=pr at H
  have A:B j=(decide (q<pr.length)&& !(ps.any λp=>decide ((j:Int)∈p.2))):=by
   show(decide ((sp[j]?).getD 0<((prs[j]?).getD []).length)&&_)=_
   rw[P,H]
   rfl
  have J:((List.range (j+1)).filter B).map da=((List.range j).filter B).map da++if B j=true then [da j] else []:=by
   rw[List.range_succ,List.filter_append,Qzq]
   cases t:B j <;>simp[t]
  refine d_ rfl (ax (aR (ax (aR (bg ?_)))))
  apply dR (w6 (ff ?_))
  apply ar rfl ?_
  refine ar (d:=fo ([],pr)) (aI (by show(((prs.map _)).map fo)[j]?=_;rw[QPq,gQm,H];rfl)) ?_
  symm
  apply ar (d:=.tup (pr.map Rw.d)) rfl ?_
  rw[lQm]
  refine aN (λo=> ?_) (λo=> ?_)
  ·have o:(q:Int)<(pr.length:Int):=QZq o
   obtain⟨v,u,C,w⟩:=c2.freeze
   have y:=k2.trans C
   have w:=w [O.lst (((List.range j).filter B).map da)]
   refine Bi (Ep (GZ (FQ ?_)))
   refine BK (λf=>∃b,f= [b,some (.ref (base+2*(bZ ts).length)),some (.int (j:Nat))]) (λp=>match p.1 with|.inr x=>.bl (decide ((j:Int)∈(fg ps (bE (bZ ts) x)).2))|.inl _=>.non) ⟨none,rfl⟩ (bj rfl ⟨rfl,rfl⟩) (v++ [O.lst (((List.range j).filter B).map da)]) w.2 w.1 ?_ (λp L f K=> ?_) ?_
   ·have e:=congrArg List.length (eB (ns:=bZ ts) (b:=base))
    rw[lQm,lQm] at e
    omega
   ·obtain⟨b,rfl⟩:=K
    have X:p.1∈(bZ ts).map Sum.inr:=by rw[←eB (b:=base)];exact Qkq.mpr ⟨p,L,rfl⟩
    obtain⟨x,R,F⟩:=Qkq.mp X
    rw[←F]
    refine aR ⟨rfl,⟨_,rfl⟩,?_⟩
    have W:=(e_ R).1
    refine pe (bj rfl (jW (rp (CH N u.app R (bj rfl ⟨rfl,rfl⟩) (bj rfl ⟨rfl,rfl⟩) (CL ?_)))))
    refine dt (u.app.a _ _ (eM (by omega))) rfl ?_
    refine dz (u.app.b _ _ (eM (by omega))) ?_
    refine⟨_,_,rfl,dE _,?_⟩
    rw[oQ]
    exact⟨rfl,rfl⟩
   have Z:(fU (bZ ts) base).map (λp:Key×D=>match p.1 with|.inr x=>D.bl (decide ((j:Int)∈(fg ps (bE (bZ ts) x)).2))|.inl _=>.non)=(bZ ts).map λx=>.bl (decide ((j:Int)∈(fg ps (bE (bZ ts) x)).2)):=by
    have:=congrArg (List.map λk:Key=>match k with|.inr x=>D.bl (decide ((j:Int)∈(fg ps (bE (bZ ts) x)).2))|.inl _=>.non) (eB (ns:=bZ ts) (b:=base))
    rw[QPq,QPq] at this
    exact this
   rw[Z]
   refine⟨rfl,_,yM _,?_⟩
   have g:((bZ ts).map λx=>decide ((j:Int)∈(fg ps (bE (bZ ts) x)).2)).any id=ps.any λp=>decide ((j:Int)∈p.2):=by
    exact DE N I
   rw[g]
   refine sS ?_
   have U:(v++ [O.lst (((List.range j).filter B).map da)])[S.length]?=some (.lst (((List.range j).filter B).map da)):=by rw[←y.len];exact bt
   refine aN (λt=> ?_) (λt=> ?_)
   ·symm
    apply wH ?_
    apply⟨_,_,rfl,U,?_⟩
    refine⟨_,U,wZ (aM ?_) ?_⟩
    ·rw[lQm]
     have:=List.length_filter_le B (List.range j)
     rw[QVq] at this
     omega
    ·refine⟨⟨_,_,rfl⟩,v,?_,u,y⟩
     rw[J,A,t,Qeq (by omega),←y.len,List.set_append_right _ _ (Qmq _)]
     simp
     rfl
   ·refine bM ⟨⟨_,_,rfl⟩,v,?_,u,y⟩
    rw[J,A,t,Bool.and_false]
    simp
  ·refine bM ?_
   refine⟨⟨_,_,rfl⟩,n,?_,c2,k2⟩
   have o:¬(q:Int)<(pr.length:Int):=QaQ o
   rw[J,A,Qdq (by omega)]
   simp
 ·rintro f m ⟨⟨M,z,rfl⟩,n,rfl,c2,k2⟩
  rw[wy]
  have er:((List.range (sp.map da).length).filter B)=p6 prs ps sp:=by rw[lQm];rfl
  rw[er]
  symm
  refine qu (Ac k2.cl) (Qmq _) (by rw[←k2.len];exact bt) (aK λ_ _=>rfl) ?_
  rw[←k2.len,List.take_append_of_le_length (Qmq _),QEq]
  exact k n c2 k2
def AJ(j:EH ts prs)(c:cH (bZ ts) base ps sp S)(w:sp.length=prs.length)(k:Q (.d (om ps sp).d) S):Fn fW [(pG ts prs).d,.ref (base+2*(bZ ts).length),.ref (base+2*(bZ ts).length+1)] S Q:=by
 have i:=j.nd
 have l:=c.len
 have v:=j.l2
 have A:=j.l1
 refine bq ?_
 unfold i0
 symm
 refine kP (α:=Str×Nat) (λe=>∃a b,e= [a,b,some (.ref (base+2*(bZ ts).length))]) nX (λp=>sm (fg ps (bE (bZ ts) p.1))) ⟨_,_,rfl⟩ ?_
 refine jW (rp (bj rfl (CL (ar rfl (cQ ?_)))))
 refine⟨ts,rfl,trivial,by omega,λp u e f=> ?_,?_⟩
 ·obtain⟨a,b,rfl⟩:=f
  have m:p.1∈bZ ts:=Qkq.mpr ⟨p,u,rfl⟩
  have o:=(e_ m).1
  have g:bE (bZ ts) p.1<ps.length:=by omega
  refine d_ rfl (ax (aR (ax (aR (bg ⟨rfl,⟨_,_,rfl⟩,?_⟩)))))
  refine vp (gw (rp (CH i c m (bj rfl ⟨rfl,rfl⟩) (bj rfl ⟨rfl,rfl⟩) (CL (dt (c.a _ _ (eM (by omega))) rfl ?_)))))
  refine gw (Fe (An (jW (rp (CH i c m (bj rfl ⟨rfl,rfl⟩) (bj rfl ⟨rfl,rfl⟩) (CL (dt (c.a _ _ (eM (by omega))) rfl (dz (c.b _ _ (eM g)) ⟨rfl,?_⟩))))))))
  exact zg ⟨by show 2<=_;decide,rfl,rfl⟩
 have t:ts.map (λp=>sm (fg ps (bE (bZ ts) p.1)))=ps.map sm:=by
  have:=congrArg (List.map sm) (ze i l)
  rw[QPq,QPq] at this
  exact this
 rw[t]
 symm
 repeat (refine⟨nQl (aM (by simp)),?_⟩;symm)
 refine kP (α:=Nat) (λe=>∃a,e= [a]) da (λq=>wL ([],[lM q])) ⟨_,rfl⟩ ?_
 refine jW (bj rfl (dz c.s ?_))
 refine⟨sp,rfl,c.s,by omega,λq y e f=> ?_,?_⟩
 ·obtain⟨a,rfl⟩:=f
  refine aR ⟨rfl,⟨_,rfl⟩,?_⟩
  refine vp (gw (vp (zg ⟨by show 0<=_;decide,gw (vp (gw (vp (gw (jX (CL ⟨1,rfl,gw (jX (CL ⟨1,rfl,?_⟩))⟩))))))⟩)))
  symm
  refine⟨by show 5<=_;decide,?_⟩
  symm
  refine⟨by show 1<=_;decide,?_⟩
  symm
  exact⟨by show 2<=_;decide,rfl,rfl⟩
 symm
 repeat (refine⟨nQl (aM (by simp)),?_⟩;symm)
 have n:(om ps sp).d=.tup [.tup [],.tup (ps.map sm),.tup [],.tup (sp.map λq=>wL ([],[lM q]))]:=by
  unfold om aP.d
  show D.tup [.tup [],.tup (ps.map sm),.tup [],.tup ((sp.map λq=>([],[lM q])).map wL)]=_
  rw[QPq]
  rfl
 refine bH (λk z=>(nomatch z)) ?_ ?_
 ·rw[←n];exact aP.low _
 ·rw[←n];exact k
end
end W28
namespace DL
open PySem PySem.Spec L2
theorem yR{α:Type}(d:α):∀n:Nat,(List.replicate n [d]).flatten=List.replicate n d
 |0=>rfl
 |n+1=>by rw[QNq,QNq,List.flatten_cons,yR d n];rfl
def ET{a:cp}{S:aA}{f:dg}{g:aU}{Q:List D->aA->Prop}(h:E f a S λp b=>E g a b λr S2=>∃(n:Nat) (d:D),r=.int n/\p.1= [d]/\(p.2.isM=true/\p.2.stays S2 p.1/\n<=1000)/\Q (List.replicate n d) S2):E (Eb f g) a S Q:=by
 obtain⟨p,b,c,r,S2,e,n,d,rfl,h0,⟨h1,h2,h3⟩,q⟩:=h
 refine⟨_,S2,?_,q⟩
 unfold Eb
 rw[c]
 simp only[Qbq]
 rw[e]
 simp only[Qbq]
 rw[Qhq ⟨h1,h2,by omega,by omega,by rw[h0];simp only[Qnq,QGq,Int.toNat_natCast];exact nQl (aM (by omega))⟩]
 rw[h0,show((n:Int)).toNat=n by omega,yR]
theorem zip_map{α a:Type}(f:α->D)(g:a->D):∀(xs:List α) (ys:List a),ph (xs.map f) (ys.map g)=(xs.zip ys).map λp=>D.tup [f p.1,g p.2]
 | [],_=>rfl
 |_::_,[]=>rfl
 | x::xs,y::ys=>by
   have:=zip_map f g xs ys
   simp only[ph,QDq,List.zipWith_cons_cons,List.zip_cons_cons] at this⊢
   rw[this]
end DL
namespace W28
open PySem PySem.Spec L2 DL
section
variable{S S0:aA}{Q:Res->aA->Prop}{k lp:Nat}{ns:List Str}
def wc(x:Ex k S0 S)(f:lp≠k)(hP:S[lp]?=some (.lst (ns.map D.str)))(P:0<ns.length)(a5:ns.length<=6)
  (h:∀(pr:List Rw) (o:aA),0<pr.length->pr.length<=12->(∀r∈pr,xQ ns r)->Ex k S0 o->Ex k S o->o.length=S.length->Q (.d (.tup (pr.map Rw.d))) o):
  Fn eJ [.ref k,.ref lp] S Q:=by
 have y:Ex k S S:=by obtain⟨a,b,c,hh⟩:=x.pot;exact Ex.refl hh
 have kl:=x.lt
 have a2:=(gQs.mp hP).1
 refine bq ?_
 unfold gy
 symm
 refine⟨by decide,?_⟩
 apply bA (oV (yr ?_))
 apply fE (y.app (G:= [O.lst []])) (by decide) (by decide) λv S1 hv e1 H l1=> ?_
 rw[show(2:Int)+(v:Int)=((2+v:Nat):Int) by omega]
 refine⟨((2+v:Nat):Int),rfl,by omega,?_⟩
 have R:S1[S.length]?=some (.lst (([]:List Rw).map Rw.d)):=H.keep _ _ (by omega) bt
 have U:S1[lp]?=some (.lst (ns.map D.str)):=H.keep _ _ f (bx hP)
 refine⟨λj w o=>(∃A F,w= [some (.ref k),some (.ref lp),some (.ref S.length),A,F])/\∃pr:List Rw,pr.length=j/\(∀r∈pr,xQ ns r)/\o[S.length]?=some (.lst (pr.map Rw.d))/\o[lp]?=some (.lst (ns.map D.str))/\Ex k S o,⟨⟨_,_,rfl⟩,[],rfl,λ_ h=>(nomatch h),R,U,e1⟩,λ_ _ _ _=>trivial,?_,?_⟩
 ·rintro j d w o J ⟨⟨A,F,rfl⟩,pr,hlen,hrw,hR,hP',ex⟩
  obtain⟨rfl,hj⟩:=lJ J
  have m:∀{B:aA} {N:Res->aA->Prop},Ex k S B->B[lp]?=some (.lst (ns.map D.str))->(∀(z:Str) (i:aA),z∈ns->Ex k S i->Ex k B i->N (.d (.str z)) i)->Fn cv [.ref k,.ref lp] B N:=λ{B N} C h5 hq=>by
   refine yW (xs:=ns.map D.str) C f h5 (by simpa using P) (by simp;omega) (λd J=> ?_) (λd J=> ?_) λa8 S7 Z e7 q l7=> ?_
   ·obtain⟨s,_,rfl⟩:=Qkq.mp J
    exact⟨λk z=>(nomatch z),rfl⟩
   ·obtain⟨s,_,rfl⟩:=Qkq.mp J
    rfl
   ·obtain⟨s,hs,rfl⟩:=Qkq.mp Z
    exact hq s S7 hs e7 q
  have t:∀{i:aA} (r:Rw) (A F:Option D),xQ ns r->i[S.length]?=some (.lst (pr.map Rw.d))->i[lp]?=some (.lst (ns.map D.str))->Ex k S i->∃ds,i[S.length]?=some (.lst ds)/\Op (nZ ds [r.d]) λp=>(∃Y M,[some (.ref k),some (.ref lp),some (.ref S.length),A,F]= [some (.ref k),some (.ref lp),some (.ref S.length),Y,M])/\∃pr:List Rw,pr.length=j+1/\(∀r∈pr,xQ ns r)/\(i.set S.length (.lst p.1))[S.length]?=some (.lst (pr.map Rw.d))/\(i.set S.length (.lst p.1))[lp]?=some (.lst (ns.map D.str))/\Ex k S (i.set S.length (.lst p.1)):=λ{i} r A F hr h6 hp6 u=>by
   refine⟨_,h6,wZ (aM (by rw[lQm];omega)) ?_⟩
   refine⟨⟨_,_,rfl⟩,pr++ [r],by simp[hlen],λr' n=> ?_,?_,FU (by omega) hp6,u.put (Qmq _) kl⟩
   ·rcases mQa.mp n with n|n
    ·exact hrw r' n
    ·rw[Qfq.mp n];exact hr
   ·rw[pR h6];simp
  apply aR ?_
  apply fE ex (by decide) (by decide) λa7 B a1 C I l5=> ?_
  have g:=I.keep _ _ (show S.length≠k by omega) hR
  have l:=I.keep _ _ f hP'
  refine aN (λ_=> ?_) (λ_=> ?_)
  ·symm
   apply wH ?_
   apply⟨_,_,rfl,g,?_⟩
   apply m C l λz i K u e=> ?_
   refine⟨by show 2<=_;decide,?_⟩
   symm
   exact t (.take z) _ _ K (e.keep _ _ (show S.length≠k by omega) g) (e.keep _ _ f l) u
  ·symm
   refine aN (λ_=> ?_) (λ_=> ?_)
   ·symm
    apply wH ?_
    apply⟨_,_,rfl,g,?_⟩
    apply m C l λz i K u e=> ?_
    refine⟨by show 2<=_;decide,?_⟩
    symm
    exact t (.give z) _ _ K (e.keep _ _ (show S.length≠k by omega) g) (e.keep _ _ f l) u
   ·symm
    refine gf ?_
    refine aN (λ_=> ?_) (λ_=> ?_)
    ·symm
     apply wH ?_
     apply⟨_,_,rfl,g,?_⟩
     refine m C l λz i K u e=> ?_
     have X:=e.keep _ _ (show S.length≠k by omega) g
     have L:=e.keep _ _ f l
     symm
     apply m u L λz' S7 W e7 q=> ?_
     refine⟨by show 3<=_;decide,?_⟩
     symm
     exact t (.pass z z') _ _ ⟨K,W⟩ (q.keep _ _ (show S.length≠k by omega) X) (q.keep _ _ f L) e7
    ·symm
     apply wH ?_
     apply⟨_,_,rfl,g,?_⟩
     apply fE C (by decide) (by decide) λv9 i a6 u e l6=> ?_
     refine⟨by show 2<=_;decide,?_⟩
     symm
     exact t (.say (.num v9)) _ _ (show v9<=9 by omega) (e.keep _ _ (show S.length≠k by omega) g) (e.keep _ _ f l) u
 ·rintro w o ⟨⟨A,F,rfl⟩,pr,hlen,hrw,hR,hP',ex⟩
  rw[vZ] at hlen
  symm
  refine dz hR ⟨rfl,?_⟩
  refine vW ex kl (λk z=>(nomatch z)) ?_ λa b c=> ?_
  ·simp only[bB];exact aK λr _=>eX r.low
  ·exact h pr _ (by omega) (by omega) hrw x.set y.set (by simp)
def Fp:(six.map (("p":Str)++·)).Nodup:=by decide +kernel
def EU{v:Nat}(h:(v:Int)<6):∃n:Nat,n<=9/\lW ([.int 0,.int 1,.int 9,.int 8,.int 2,.int 0]:List D) (v:Int)=some (.int n):=by
 rcases v with _|_|_|_|_|_|v
 ·exact⟨0,by omega,rfl⟩
 ·exact⟨1,by omega,rfl⟩
 ·exact⟨9,by omega,rfl⟩
 ·exact⟨8,by omega,rfl⟩
 ·exact⟨2,by omega,rfl⟩
 ·exact⟨0,by omega,rfl⟩
 ·omega
def zH(x:Ex k S0 S)(h:∀(ts:List (Str×Nat)) (e:List (List Rw)) (o:aA),EH ts e->Ex k S0 o->Q (.d (pG ts e).d) o):Fn eY [.ref k] S Q:=by
 have y:Ex k S S:=by obtain⟨a,b,c,hh⟩:=x.pot;exact Ex.refl hh
 have kl:=x.lt
 refine bq ?_
 unfold ji
 symm
 apply fE y (by decide) (by decide) λv S1 hv e1 a3 l1=> ?_
 refine Bc e1 (by omega) (by omega) (by decide +kernel) λns A q a4 e2 a6 l2=> ?_
 have R:ns.Nodup:=by
  obtain⟨l,B⟩:=q
  exact(List.nodup_append.mp (B.symm.nodup Fp)).1
 have F:0<ns.length:=by omega
 have a1:ns.length<=4:=by omega
 symm
 have Z:Ex k S (A++ [O.lst (ns.map D.str)]):=e2.app
 have w:(A++ [O.lst (ns.map D.str)])[S.length]?=some (.lst (ns.map D.str)):=by rw[show S.length=A.length by omega];exact bt
 rw[show A.length=S.length by omega]
 generalize (A++ [O.lst (ns.map D.str)])=S3 at Z w⊢
 apply hG (yr ?_)
 apply fE Z (by decide) (by decide) λP S4 a2 e4 I l4=> ?_
 rw[show(1:Int)+(P:Int)=((1+P:Nat):Int) by omega]
 refine⟨((1+P:Nat):Int),rfl,by omega,?_⟩
 have X:=I.keep _ _ (show S.length≠k by omega) w
 refine⟨λm f o i=>(∃a,f= [a,some (.ref k),some (.ref S.length)])/\∃e:List (List Rw),i=e.map (λp=>fo ([],p))/\e.length=m/\(∀s∈e,0<s.length/\s.length<=12)/\(∀s∈e,∀r∈s,xQ ns r)/\Ex k S o/\o[S.length]?=some (.lst (ns.map D.str)),⟨⟨none,rfl⟩,[],rfl,rfl,λ_ h=>(nomatch h),λ_ h=>(nomatch h),e4,X⟩,λ_ _ _ _ _=>trivial,?_,?_⟩
 ·rintro m d f o i J ⟨⟨a,rfl⟩,e,rfl,hlen,h9,hrw,ex,hN'⟩
  obtain⟨rfl,hm⟩:=lJ J
  apply aR ?_
  rw[Qhq rfl]
  symm
  refine⟨by show 0<=_;decide,?_⟩
  symm
  apply wc ex (by omega) hN' F (by omega) λs S5 p0 M N L H l5=> ?_
  refine⟨by show 2<=_;decide,?_⟩
  refine⟨aM (by rw[lQm];omega),⟨_,rfl⟩,e++ [s],by simp[fo],by simp[hlen],λz g=> ?_,λz g=> ?_,L,H.keep _ _ (by omega) hN'⟩
  ·rcases mQa.mp g with g|g
   ·exact h9 z g
   ·rw[Qfq.mp g];exact⟨p0,M⟩
  ·rcases mQa.mp g with g|g
   ·exact hrw z g
   ·rw[Qfq.mp g];exact N
 rintro f S5 i ⟨-,e,rfl,hlen,h9,hrw,L,hN5⟩
 rw[vZ] at hlen
 symm
 refine hG (uU ?_)
 refine jW (bj rfl (dz hN5 ?_))
 refine⟨λm f o i=>(∃a,f= [a,some (.ref k)])/\∃j:List Nat,i=j.map da/\j.length=m/\(∀v∈j,v<=9)/\Ex k S o/\o[S.length]?=some (.lst (ns.map D.str)),⟨⟨none,rfl⟩,[],rfl,rfl,λ_ h=>(nomatch h),L,hN5⟩,λ_ _ _ _ ⟨_,_,_,_,_,_,h⟩=>h,?_,?_⟩
 ·rintro m d f o i J ⟨⟨a,rfl⟩,j,rfl,n,hv9,ex,hN'⟩
  have hm:m<ns.length:=by
   have:=(gQs.mp J).1
   simpa using this
  apply aR ?_
  rw[Qhq rfl]
  symm
  refine⟨by show 6<=_;decide,?_⟩
  symm
  have lS:=ex.lt
  refine fE (ex.app (G:= [O.lst [.int 0,.int 1,.int 9,.int 8,.int 2,.int 0]])) (by decide) (by decide) λv6 S6 W C u l6=> ?_
  dsimp only
  obtain⟨n6,K,ha⟩:=EU W
  refine dt (u.keep _ _ (by omega) bt) ha ?_
  refine⟨aM (by rw[lQm];omega),⟨_,rfl⟩,j++ [n6],by simp[da],by simp[n],λz g=> ?_,C,u.keep _ _ (by omega) (bx hN')⟩
  rcases mQa.mp g with g|g
  ·exact hv9 z g
  ·rw[Qfq.mp g];exact K
 rintro f S6 i ⟨-,j,rfl,n,hv9,C,hN6⟩
 have n:j.length=(ns.map D.str).length:=n
 rw[lQm] at n
 symm
 repeat (refine⟨nQl (aM (by simp)),?_⟩;symm)
 have a5:=C.len
 have a7:=(gQs.mp hN6).1
 refine lT (α:=Str×Nat) (λf=>∃a b,f= [a,b]) nX nX (λ_=>true) ⟨_,_,rfl⟩ (xo ?_)
 refine jW (bj rfl (dz (bx hN6) ?_))
 refine jW (bj rfl (dz bt ?_))
 refine⟨⟨bx hN6,by simp[n]⟩,?_⟩
 refine⟨ns.zip j,?_,⟨bx hN6,bt⟩,by simp;omega,λp B f U=> ?_,?_⟩
 ·show ph (ns.map D.str) (j.map da)=_
  rw[zip_map]
  rfl
 ·obtain⟨a,b,rfl⟩:=U
  refine d_ rfl (ax (aR (ax (aR (bg ⟨rfl,⟨_,_,rfl⟩,?_⟩)))))
  apply qg ⟨rfl,rfl,λ_=> ?_⟩
  exact⟨by show 2<=_;decide,rfl,rfl⟩
 rw[List.filter_eq_self.mpr (λ_ _=>rfl)]
 symm
 repeat (refine⟨nQl (aM (by simp)),?_⟩;symm)
 have t:(ns.zip j).map (·.1)=ns:=List.map_fst_zip (by omega)
 have wo:EH (ns.zip j) e:=⟨by rw[t];exact R,by rw[List.length_zip];omega,by omega,by omega,λp B=>hv9 _ (QeQ (show(p.1,p.2)∈_ from B)).2,h9,by rw[t];exact hrw⟩
 have Y:(pG (ns.zip j) e).d=.tup [.tup [],.tup ((ns.zip j).map nX),.tup [],.tup (e.map λp=>fo ([],p))]:=by
  unfold pG cN.d
  show D.tup [.tup [],.tup ((ns.zip j).map nX),.tup [],.tup ((e.map λp=>([],p)).map fo)]=_
  rw[QPq]
  rfl
 refine vW C.app kl (λk z=>(nomatch z)) ?_ λa b c=> ?_
 ·rw[←Y];exact eX (cN.low _)
 ·rw[←Y];exact h _ _ _ wo x.set
end
end W28
namespace DL
open PySem PySem.Spec L2
def JB{b:cp}{S:aA}{f:dg}{Q:D->aA->Prop}(h:E f b S λp a=>p.2.isL=true/\∃l,jj p.1=some l/\Q (.ref a.length) (a++ [.dct (bC [] l)])):E (IE f) b S Q:=by
 obtain⟨p,a,c,e,l,d,q⟩:=h
 exact⟨_,_,by unfold IE;rw[c];simp only[Qbq];rw[Qhq e,d];rfl,q⟩
def Hf{c:cp}{S:aA}{a:Bool}{f g:dg}{Q:D->aA->Prop}(h:E f c S λp d=>E g c d λr S2=>(p.2.isL=true/\r.2.isL=true/\p.2.stays S2 p.1)/\∃b vs,gI p.1=some b/\gI r.1=some vs/\Q (.bl (if a then !yO b vs else yO b vs)) S2):E (eqQ a f g) c S Q:=by
 obtain⟨p,d,e,r,S2,k,l,b,vs,j,i,q⟩:=h
 exact⟨_,S2,by unfold eqQ;rw[e];simp only[Qbq];rw[k];simp only[Qbq];rw[Qhq l,j,i];rfl,q⟩
theorem vF:∀l:List Int,yO (l.map V.int) (l.map V.int)=true
 | []=>rfl
 | a::l=>by
   have:=vF l
   simp[yO,oz,this]
theorem rJ:∀{m l:List (Key×D)},((l++m).map (·.1)).Nodup->bC l m=l++m
 | [],l,_=>by simp[bC]
 | p::m,l,nd=>by
   have c:¬(l.any λa=>decide (a.1=p.1))=true:=λz=>by
     obtain⟨a,b,e⟩:=List.any_eq_true.mp z
     rw[Qzq,List.nodup_append] at nd
     exact nd.2.2 a.1 (Qkq.mpr ⟨a,b,rfl⟩) p.1 (by simp) (QZq e)
   have e:putD l p.1 p.2=l++ [p]:=by unfold putD;rw[Quq c]
   show bC (putD l p.1 p.2) m=_
   rw[e,rJ (l:=l++ [p]) (by rw[Qvq];exact nd),Qvq]
   rfl
end DL
namespace W28
open PySem PySem.Spec L2 DL
def rh:List Str->Nat->List D
 | [],_=> []
 |x::r,b=>.tup [.str x,.ref (b+1)]::rh r (b+2)
theorem oZ:∀(ns:List Str) (b:Nat),jj (rh ns b)=some (fU ns b)
 | [],_=>rfl
 | x::r,b=>by
   simp only[rh,jj,kc,Qbq]
   rw[oZ r (b+2)]
   rfl
theorem u5:∀(ns:List Str) (x:Str) (b:Nat),rh (ns++ [x]) b=rh ns b++ [.tup [.str x,.ref (b+2*ns.length+1)]]
 | [],x,b=>rfl
 | y::r,x,b=>by
   simp only[List.cons_append,rh,u5 r x (b+2),Qnq]
   rw[show b+2+2*r.length+1=b+2*(r.length+1)+1 by omega]
theorem vn:∀(ns:List Str) (b:Nat),(rh ns b).length=ns.length
 | [],_=>rfl
 |x::r,b=>by simp[rh,vn r (b+2)]
def V9(ps:List (Int×List Int)):Prop:=∀p∈ps,0<=p.1/\p.1<=9
def xl{p:Int×List Int}(h:0<=p.1/\p.1<=9):0<=(cJ p).1/\(cJ p).1<=9:=by
 obtain⟨v,l⟩:=p
 have h:0<=v/\v<=9:=h
 cases l with
 |cons y l=>exact h
 | nil=>
   show 0<=(if 9<v+1 then 9 else v+1:Int)/\(if 9<v+1 then 9 else v+1:Int)<=9
   split <;>omega
def Bk{p:Int×List Int}{h:Int}(a:0<=p.1/\p.1<=9):0<=(du p h).1/\(du p h).1<=9:=by
 unfold du
 split
 ·show 0<=p.1-1/\p.1-1<=9;omega
 ·exact a
def V9.set{ps:List (Int×List Int)}{j:Nat}{p:Int×List Int}(a:V9 ps)(h:0<=p.1/\p.1<=9):V9 (ps.set j p):=λq b=>by
 rcases QTq b with b|rfl
 ·exact a q b
 ·exact h
def V9.get{ps:List (Int×List Int)}{j:Nat}(a:V9 ps):0<=(fg ps j).1/\(fg ps j).1<=9:=by
 unfold fg
 cases e:ps[j]? with
 |none=>exact⟨by decide,by decide⟩
 |some p=>exact a p (mQg e)
def V9.do{ps:List (Int×List Int)}{ns:List Str}{h:Nat}{r:Rw}(a:V9 ps):V9 (Hn ns ps h r):=by
 cases r with
 |take x=>exact a.set (Bk a.get)
 |give x=>exact a.set (xl a.get)
 |pass x y=>exact(a.set (xl a.get)).set (Bk (V9.get (a.set (xl a.get))))
 |_=>exact a
section
variable{S S0:aA}{Q:Res->aA->Prop}
def HV{w:cN}{n h:Nat}{s:aP}{e:Option Int}(o:iL w)(x:cG w n s)(b:n<=100):Pl 10 (D9 s h e):=by
 refine⟨by show 2<=1000;decide,λd a=> ?_⟩
 simp only[Qsq,QXq,or_false] at a
 rcases a with rfl|rfl
 ·exact Cs o x b
 ·cases e with
  |none=>exact trivial
  | some v=>
    refine⟨by show 2<=1000;decide,λd a=> ?_⟩
    simp only[Qsq,QXq,or_false] at a
    rcases a with rfl|rfl <;>exact trivial
end
def CN(ts:List (Str×Nat)):List (Int×List Int):=ts.map λp=>((p.2:Int),[])
def AO{ts:List (Str×Nat)}{a:List (List Rw)}:cR (pG ts a)=om (CN ts) (List.replicate a.length 0):=by
 unfold cR pG om CN
 show(⟨[],ts.map _,[],(a.map λp=>(([]:List (Str×Nat)),p)).map _⟩:aP)=⟨[],_,[],_⟩
 rw[QPq,QlQ]
 congr 1
 show List.map (λ_=>(([]:List Int),[lM 0])) a=_
 exact List.map_const' ..
def Cf:∀ns:List Int,ns.length<=63->∃g,DJ [.ref 0] [.frz (ns.map D.int)]=some (.d (.bl true),g):=by
 intro ns d5
 suffices h:Fn DJ [.ref 0] [.frz (ns.map D.int)] λr _=>r=.d (.bl true) by
  obtain⟨r,g,e,rfl⟩:=h
  exact⟨g,e⟩
 refine bq ?_
 unfold EX
 refine bA (oV ?_)
 apply yr ?_
 apply BJ rfl ?_
 apply A2 ?_
 refine Ee ?_
 obtain⟨m,hm,d4⟩:∃m:Nat,(if (if (6:Int)<((ns.map D.int).length:Nat) then(6:Int) else((ns.map D.int).length:Nat))>(1:Int) then(if (6:Int)<((ns.map D.int).length:Nat) then(6:Int) else((ns.map D.int).length:Nat)) else 1)=(m:Int)/\m<=8:=by
  refine⟨(if (if (6:Int)<((ns.map D.int).length:Nat) then(6:Int) else((ns.map D.int).length:Nat))>(1:Int) then(if (6:Int)<((ns.map D.int).length:Nat) then(6:Int) else((ns.map D.int).length:Nat)) else 1).toNat,?_,?_⟩ <;>(repeat' split) <;>omega
 refine⟨m,congrArg D.int hm,by omega,?_⟩
 refine⟨λn s g=>(∃a1 a2 a3 a4 a5 a6 a7 M P x y,s= [some (.ref 0),a1,a2,a3,a4,a5,a6,a7,M,P,x,y])/\g[0]?=some (.frz (ns.map D.int)),⟨⟨_,_,_,_,_,_,_,_,_,_,_,rfl⟩,rfl⟩,λ_ _ _ _=>trivial,?_,?_⟩
 ·rintro n0 d s S J ⟨⟨a1,a2,a3,a4,a5,a6,a7,M,P,x,y,rfl⟩,hS⟩
  obtain⟨rfl,_⟩:=lJ J
  apply aR ?_
  apply Ey hS λpa pb=> ?_
  have B:Ex S.length (S++ [lX pa pb 0]) (S++ [lX pa pb 0]):=Ex.refl bt
  have b5:(S++ [lX pa pb 0])[0]?=some (.frz (ns.map D.int)):=bx hS
  have h0:0≠S.length:=by
   have:=(gQs.mp hS).1
   omega
  show Fn eY [.ref S.length] (S++ [lX pa pb 0]) _
  generalize S.length=kp at B h0⊢
  generalize S++ [lX pa pb 0]=S1 at B b5⊢
  have b0:=B.lt
  refine zH B λts f u F e3=> ?_
  have ok:=F.ok
  have l1:=F.l1
  have l2:=F.l2
  have l3:=e3.len
  have R:(bZ ts).length=ts.length:=lQm ..
  symm
  refine JB (FQ (hG (uU (jW (rp (bj rfl (CL (ar rfl (cQ ?_)))))))))
  refine⟨λj s g X=>(∃a b,s= [a,b])/\X=rh ((bZ ts).take j) u.length/\g.length=u.length+2*j/\Ex kp S1 g/\∀i p,(CN ts)[i]?=some p->i<j->g[u.length+2*i]?=some (.lst (p.2.map D.int))/\g[u.length+2*i+1]?=some (.lst [.int p.1,.ref (u.length+2*i)]),⟨⟨_,_,rfl⟩,rfl,rfl,e3,λi p _ h=>by omega⟩,λ_ _ _ _ _=>trivial,?_,?_⟩
  ·rintro j d s g X J ⟨⟨a,b,rfl⟩,rfl,hl,ex,H⟩
   have J:(ts.map nX)[j]?=some d:=J
   rw[gQm] at J
   obtain⟨p,w,rfl⟩:=oQm.mp J
   have N:=(gQs.mp w).1
   apply d_ rfl (ax (aR (ax (aR (bg ?_)))))
   rw[Qhq rfl]
   symm
   refine⟨by show 0<=_;decide,?_⟩
   symm
   refine⟨by show 2<=_;decide,?_⟩
   symm
   refine⟨by show 2<=_;decide,?_⟩
   refine⟨aM (by rw[vn,Qxq];omega),⟨_,_,rfl⟩,?_,by simp;omega,ex.app.app,λi p' hi d1=> ?_⟩
   ·have hn:(bZ ts)[j]?=some p.1:=by rw[gQm,w];rfl
    rw[QYq,hn,Option.toList_some,u5,Qxq,Nat.min_eq_left (by omega)]
    congr 3
    simp
    omega
   ·by_cases c:i<j
    ·obtain⟨h1,h2⟩:=H i p' hi c
     exact⟨bx (bx h1),bx (bx h2)⟩
    ·have:i=j:=by omega
     subst this
     unfold CN at hi
     rw[gQm,w] at hi
     cases hi
     have e1:g.length=u.length+2*i:=hl
     refine⟨bx (by rw[←e1];exact bt),?_⟩
     have:=bt (S:=g++ [O.lst []]) (o:=O.lst [.int (p.2:Nat),.ref g.length])
     rw[show(g++ [O.lst []]).length=u.length+2*i+1 by simp;omega] at this
     rw[←e1]
     rw[←e1] at this
     exact this
  rintro s I X ⟨-,rfl,C,e4,H⟩
  have C:I.length=u.length+2*(ts.map nX).length:=C
  have H:∀i p,(CN ts)[i]?=some p->i<(ts.map nX).length->_:=H
  rw[lQm] at C H
  show(Tag.isL .fr=true)/\∃l,jj (rh ((bZ ts).take (ts.map nX).length) u.length)=some l/\_
  rw[lQm,List.take_of_length_le (by omega)]
  refine⟨rfl,_,oZ _ _,?_⟩
  rw[rJ (by
   rw[List.nil_append,eB]
   exact List.Pairwise.map _ (λa b h z=>h (Sum.inr.inj z)) F.nd),List.nil_append]
  symm
  apply ET ?_
  refine⟨by show 1<=_;decide,?_⟩
  symm
  apply ar rfl ?_
  have b7:((pG ts f).af.map fo).length=f.length:=by show((f.map _).map _).length=_;simp
  apply⟨f.length,.int 0,congrArg (λz:Nat=>D.int z) b7,rfl,⟨rfl,trivial,by omega⟩,?_⟩
  have er:List.replicate f.length (D.int 0)=(List.replicate f.length 0).map da:=by rw[QlQ];rfl
  rw[er]
  have c5:cH (bZ ts) u.length (CN ts) (List.replicate f.length 0) (I++ [O.dct (fU (bZ ts) u.length)]++ [O.lst ((List.replicate f.length 0).map da)]):=by
   refine⟨by rw[R];exact lQm ..,λj p N=> ?_,λj p N=> ?_,.inl (bx ?_),?_⟩
   ·have Q:j<ts.length:=by have:=(gQs.mp N).1;unfold CN at this;rwa [lQm] at this
    exact bx (bx (H j p N Q).1)
   ·have Q:j<ts.length:=by have:=(gQs.mp N).1;unfold CN at this;rwa [lQm] at this
    exact bx (bx (H j p N Q).2)
   ·rw[R,←C];exact bt
   ·have:=bt (S:=I++ [O.dct (fU (bZ ts) u.length)]) (o:=O.lst ((List.replicate f.length 0).map da))
    rw[show(I++ [O.dct (fU (bZ ts) u.length)]).length=u.length+2*(bZ ts).length+1 by rw[R];simp;omega] at this
    exact this
  have e5:Ex kp S1 (I++ [O.dct (fU (bZ ts) u.length)]++ [O.lst ((List.replicate f.length 0).map da)]):=e4.app.app
  refine Cj ok ?_
  dsimp only
  rw[AO]
  have b2:I.length=u.length+2*(bZ ts).length:=by omega
  have Z:(I++ [O.dct (fU (bZ ts) u.length)]).length=u.length+2*(bZ ts).length+1:=by simp;omega
  rw[b2,Z]
  have b1:cG (pG ts f) 1 (om (CN ts) (List.replicate f.length 0)):=by rw[←AO];exact zx ok
  generalize (I++ [O.dct (fU (bZ ts) u.length)]++ [O.lst ((List.replicate f.length 0).map da)])=S5 at c5 e5⊢
  generalize u.length=base at l3 c5⊢
  clear H C e4 b2 Z e3 hS
  symm
  refine jX (CL ⟨1,rfl,?_⟩)
  apply oV (yr ?_)
  refine⟨((60:Nat):Int),rfl,by omega,?_⟩
  refine⟨λj s g=>∃(ps:List (Int×List Int)) (v:List Nat) (A:Int) (M P x y:Option D),s= [some (.ref 0),some (.int n0),some (.ref kp),some (pG ts f).d,some (.ref (base+2*(bZ ts).length)),some (.ref (base+2*(bZ ts).length+1)),some (om ps v).d,some (.int A),M,P,x,y]/\cH (bZ ts) base ps v g/\V9 ps/\v.length=f.length/\(∀(h q:Nat) (K:List Rw),v[h]?=some q->f[h]?=some K->q<=K.length)/\cG (pG ts f) (1+j) (om ps v)/\Ex kp S1 g,⟨_,_,_,_,_,_,_,rfl,c5,λp w=> ?_,QIq,λh q K U _=> ?_,b1,e5⟩,λ_ _ _ _=>trivial,?_,?_⟩
  ·unfold CN at w
   obtain⟨t,ht,rfl⟩:=Qkq.mp w
   have:=F.tv t ht
   exact⟨by show(0:Int)<=(t.2:Nat);omega,by show((t.2:Nat):Int)<=9;omega⟩
  ·have:=QkQ (mQg U)
   omega
  ·rintro j d s g J ⟨ps,v,A,M,P,x,y,rfl,c,v9,hsl,hle,xs,ex⟩
   obtain⟨rfl,N⟩:=lJ J
   apply aR ?_
   have L:=C4 (ts:=ts) (ps:=ps) hsl hle
   refine DP F c hsl λS6 c6 k6=> ?_
   have e6:=Kp.ex ex k6 (by omega) b0
   symm
   apply Hf ?_
   apply xs.mays ok (by omega) _ _ ?_
   refine dz bt ?_
   rw[L]
   refine⟨⟨rfl,rfl,trivial⟩,_,_,by rw[mE];exact dE _,by rw[mE];exact dE _,?_⟩
   rw[vF]
   refine aN (λc=>by cases c) (λ_=>bM ?_)
   refine dR (ff (CQ (jW (bj rfl (dz bt ⟨⟨rfl,bt⟩,?_⟩)))))
   refine aN (λcn=> ?_) (λcn=>bM ?_)
   ·have c3:0<(p6 f ps v).length:=by
     cases e:p6 f ps v with
     |nil=>rw[e] at cn;cases cn
     |cons a l=>simp
    have d3:(p6 f ps v).length<=4:=by
     have:=List.length_filter_le (λh:Nat=>decide ((v[h]?).getD 0<((f[h]?).getD []).length)&& !(ps.any λp=>decide ((h:Int)∈p.2))) (List.range v.length)
     rw[QVq] at this
     unfold p6
     omega
    have c4:=e6.lt
    symm
    refine C3 (e6.app (G:= [O.lst ((p6 f ps v).map da)])) (by omega) bt c3 (by omega) λh S7 hh e7 c2 l7=> ?_
    have c7:=(c6.app (G:= [O.lst ((p6 f ps v).map da)])).ex c2 (by omega)
    have Y:h∈uV (pG ts f) (om ps v):=by rw[L];exact hh
    unfold p6 at hh
    obtain⟨c1,W⟩:=List.mem_filter.mp hh
    have b6:=List.mem_range.mp c1
    have U:=gQe b6
    have w:=gQe (l:=f) (i:=h) (by omega)
    generalize v[h]=q at U
    generalize f[h]=K at w
    rw[U,w] at W
    have c0:q<K.length:=by
     rw[QCq] at W
     exact QZq W.1
    have hr:=gQe c0
    generalize K[q]=r at hr
    have b3:=mQg w
    have d2:=(F.pl K b3).2
    have es:=G4 (ts:=ts) (ps:=ps) w U hr (F.rw K b3 r (mQg hr))
    obtain⟨b4,x'⟩:=Dt ok xs (by omega) Y (A4 U) rfl
    rw[es] at b4 x'
    have vb:VB ps:=λp w=>⟨v9 p w,by have:=xs.ps p w;omega⟩
    symm
    refine zv F c7 vb w U hr (by omega) λS8 c8 k8=> ?_
    have e8:=Kp.ex e7 k8 (by omega) b0
    symm
    apply xU (xs.mays ok (by omega)) Y b4 ?_
    refine AJ F c8 (by rw[List.length_set];exact hsl) ?_
    symm
    refine⟨by show 2<=_;decide,?_⟩
    symm
    refine y0 10 (D9 (om (Hn (bZ ts) ps h r) (v.set h (q+1))) h (FT r)) (HV ok x' (by omega)) ?_
    dsimp only
    refine sS ?_
    apply aN (λc=>by cases c) (λ_=>bM ?_)
    refine ar (d:=(om (Hn (bZ ts) ps h r) (v.set h (q+1))).d) rfl ?_
    refine⟨_,_,_,_,_,_,_,rfl,c8,v9.do,by rw[List.length_set];exact hsl,λh' q' b8 g1 g2=> ?_,x',e8⟩
    rcases get_set g1 with⟨rfl,rfl⟩|⟨_,g1⟩
    ·rw[w] at g2
     cases g2
     omega
    ·exact hle h' q' b8 g1 g2
   ·exact⟨ps,v,A,_,_,_,_,rfl,c6.app,v9,hsl,hle,xs.mono (by omega),e6.app⟩
  ·rintro s g ⟨ps,v,A,M,P,x,y,rfl,c,v9,hsl,hle,xs,ex⟩
   exact⟨⟨_,_,_,_,_,_,_,_,_,_,_,rfl⟩,ex.keep _ _ h0 b5⟩
 ·rintro s g ⟨⟨a1,a2,a3,a4,a5,a6,a7,M,P,x,y,rfl⟩,hS⟩
  symm
  have hl:=(gQs.mp hS).1
  refine eD (S2:= [.frz (ns.map D.int)]) ⟨by show 1<=g.length;omega,λk o hk e=> ?_⟩ ?_ (λk z=>(nomatch z)) rfl rfl
  ·have hk:k<1:=hk
   have:k=0:=by omega
   subst this
   rw[hS] at e
   exact .inl e
  ·cases g with
   |nil=>simp at hl
   | cons a l=>
     simp at hS
     subst hS
     rfl
end W28
open PySem PySem.W PyProof.Rows L2 DL
theorem PySem.Challenge.cw_calledroom_k21_passes_holds : PySem.Challenge.rw_calledroom_k21_passes.Holds := by
  w_on; o_law; k_head; (case hw => w_witness2)
  k_fill
  refine DL.GE (l := PySem.Challenge.rw_calledroom_k21_passes) (k := 14) rfl rfl ⟨rfl, by decide, by decide⟩ (λw h Y => PySem.W.kIn_of Y) (λw => ?nl) ?F
  case nl => rfl
  case F =>
    intro w mg fa h KX G hmg
    refine' W28.all_mk KX G hmg ?_ ?_ ?_ ?_ ?_ ?_ ?_ ?_ ?_ ?_ ?_ ?_ ?_ ?_ ?_ ?_ ?_ ?_ ?_ ?_ ?_ ?_ ?_ ?_ ?_ ?_ ?_ ?_ ?_ ?_ ?_ ?_ ?_ ?_ ?_ ?_ ?_ ?_ ?_ ?_ ?_ ?_ ?_ ?_ ?_ ?_ ?_ ?_ ?_ ?_ ?_ ?_ ?_ ?_ ?_ ?_ ?_ ?_ ?_ ?_ ?_ ?_ ?_ ?_ ?_ ?_ ?_ ?_ ?_ ?_ ?_ ?_ ?_ ?_ ?_ ?_ ?_ ?_ ?_ ?_ ?_ ?_ ?_ W28.Cf
    any_goals first | exact DL.aO.of (by k_is) (by k_is) (by k_is) (by k_is) | k_is
