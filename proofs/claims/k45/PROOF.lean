import PyProof.Rows.All
import Wide.FinOn
import KE.KEqDict
import KE.KSortTup
import KE.KUnpack
import KE.KDictOf
import KE.KFromBytes
import KE.KIsAll
import PySem.Challenge.RW_calledroom_k45_whole_rings_stay
set_option Elab.async false
set_option linter.all false
set_option compiler.extract_closed false
set_option maxRecDepth 100000
set_option maxHeartbeats 8000000
namespace PySem.W.Fast
def cM:=trivial
def tw4246205685207037926:=cM
def tw2754396633016773994:=cM
def tw1725605242132089963:=cM
def tw10446426915561159748:=cM
def tw4208417800868665148:=cM
def tw7496667121882345218:=cM
def tw7506272963513656748:=cM
def tw9432681200523031434:=cM
def tw15613628811683813885:=cM
def tw14107238386799116394:=cM
def tw14972017138517087782:=cM
def tw7936172633255880688:=cM
def tw15364356344973147175:=cM
def tw744690160827657866:=cM
def tw8694386452842786292:=cM
def tw13101152603797115253:=cM
def tw2576719156838462776:=cM
def tw13285452246527349874:=cM
def tw3698956547887969034:=cM
def tw8677272706038662473:=cM
def tw16183393267268443755:=cM
def tw947826970501653148:=cM
def tw3415044930285146492:=cM
def tw15230487559759609782:=cM
def tw7599959340919379394:=cM
def tw17284623130977343714:=cM
def tw5682648724102249351:=cM
def tw4741055243498701092:=cM
def tw16537505820769150252:=cM
def tw10554606836699469128:=cM
def tw1756774709341073816:=cM
def tw11799181430938725216:=cM
def tw3959564897317850440:=cM
def tw9803610988186468232:=cM
def tw10856127353200458569:=cM
def tw407832082831327015:=cM
def tw12787019779775688326:=cM
def tw5790280886242600749:=cM
def tw10427024870152812248:=cM
def tw10275912468694228665:=cM
def tw8390320061184342580:=cM
def tw582251691664053650:=cM
def tw16235422095657160363:=cM
def tw14228236222126102694:=cM
def tw15363349864938998495:=cM
def tw18319632928989284650:=cM
def tw5443922313573954623:=cM
def tw12548353944477909572:=cM
def tw2892233537241943282:=cM
def tw6949747602511489723:=cM
def tw5542592197848203473:=cM
def tw11598751233719206698:=cM
def tw3218127338444818758:=cM
def tw7803593936227290068:=cM
def tw17721159702283709481:=cM
def tw18413535028861497939:=cM
def tw291832201658017998:=cM
def tw2273949624938249818:=cM
def tw1653435846163747:=cM
def tw3300010841138947192:=cM
def tw13767497889935890438:=cM
def tw13191672720509147201:=cM
def tw9356996903311079778:=cM
def tw12558083972228907898:=cM
def tw5627003973713513576:=cM
def tw5789567812768353782:=cM
def tw8498268677015258723:=cM
def tw9302986758072081952:=cM
def tw5681536098550275792:=cM
def tw5843245733524667097:=cM
def tw2076088926432645082:=cM
def tw7875542664068535038:=cM
def tw7640881507247590113:=cM
def tw15861656371459996018:=cM
def tw4642287497603862002:=cM
def tw10698421595490528909:=cM
def tw13236444771061113719:=cM
def tw10414198296677078788:=cM
def tw6642721456012981656:=cM
def tw9667319846245593285:=cM
def tw5887461778361500006:=cM
def tw8326342343747574284:=cM
def tw15820956374468552052:=cM
def tw18198287552782168063:=cM
def tw12655290931860228227:=cM
def tw13146367523858564108:=cM
def tw1205261774249913713:=cM
def tw4410300476721024584:=cM
def tw6037087110462852495:=cM
def tw854129573587809531:=cM
def tw3444213259416516645:=cM
def tw3580830881687391726:=cM
def tw14136925230019327071:=cM
def tw1029112947582588077:=cM
def tw1062280561705830926:=cM
def tw13227088480597133918:=cM
def tw8540022258155577354:=cM
def tw8312917121083541857:=cM
def tw15465263470007493477:=cM
def tw14609410526878912689:=cM
def tw16092095744319557269:=cM
def tw10386161390981802183:=cM
def tw1270741389241404080:=cM
def tw5517432733399508448:=cM
def tw11485127297177369677:=cM
def tw9817253757323647438:=cM
def tw3547071275870410947:=cM
def tw5376863324880239022:=cM
def tw10525964727392977849:=cM
def tw13685694432339377136:=cM
def tw10267965910820370441:=cM
def tw15285575033219270650:=cM
def tw1408497741624610032:=cM
def tw9372999528597788222:=cM
def tw9903201122697267739:=cM
def tw15056926960899248814:=cM
def tw17479634559158956667:=cM
def tw5040183205600635432:=cM
def tw8681628330393100208:=cM
def tw15919692361751462356:=cM
def tw11921656039494731738:=cM
def tw11399702795553265467:=cM
def tw124486248059933928:=cM
def tw1654624731200606626:=cM
def tw12181651586833377494:=cM
def tw8126229464913832306:=cM
def tw13158611813700393138:=cM
def tw9931813374423483827:=cM
def tw6035024393722532456:=cM
def tw6145175996316036724:=cM
def tw3184557027982244763:=cM
def tw15347217571155600076:=cM
def tw6458548129929186333:=cM
def tw2421390659681936338:=cM
def tw10664828885880661738:=cM
def tw18067123666015106602:=cM
def tw7716510482339370507:=cM
def tw11175478360902509294:=cM
def tw5940142070451689179:=cM
def tw8011466559800228032:=cM
def tw16776575936300705907:=cM
def tw5651617902307388424:=cM
def tw17720318488836009641:=cM
def tw14042457970817474416:=cM
def tw11824668521934206989:=cM
def tw2559635395674294581:=cM
def tw1673152691133450787:=cM
def tw17498735080896020995:=cM
def tw13279060962500523022:=cM
def tw5260953769929417171:=cM
def tw7634308089565302555:=cM
def tw8871913155797581449:=cM
def tw7299265923561993980:=cM
def tw8708674973945402301:=cM
def tw2763893079847583181:=cM
def tw9408309041978384640:=cM
def tw15558126716849467294:=cM
def tw17688157393665089952:=cM
def tw5548222686463452740:=cM
def tw1601098003409740595:=cM
def tw5360549202674894937:=cM
def tw13411843601380575169:=cM
def tw862919407496103428:=cM
def tw9669683815825088703:=cM
def tw15911277983631851903:=cM
def tw824894051214604508:=cM
def tw12924281878620160021:=cM
def tw12192280029053963131:=cM
def tw2925418760154071906:=cM
def tw867476261382486693:=cM
def tw7256517125069185794:=cM
def tw17237437683199007731:=cM
def tw14803799286744608134:=cM
def tw6589388280516781910:=cM
def tw12228827852137073021:=cM
def tw28640000259688973:=cM
def tw16064073038316109679:=cM
def tw7109919882424904982:=cM
def tw6939225647446259281:=cM
def tw6939146582060178774:=cM
def tw113656706253361721:=cM
def tw11011634295555914422:=cM
def tw16166281673616613499:=cM
def tw9549272684074319771:=cM
def tw17476736991561207:=cM
def tw12623767906522412231:=cM
def tw5409517142677017309:=cM
def tw5003055595960288300:=cM
def tw12470514472299144130:=cM
def tw3408783790340543546:=cM
def tw18186231345045570686:=cM
def tw13588163077312853261:=cM
def tw2607648922671930142:=cM
def tw10769678146144120221:=cM
def tw4985272701880381291:=cM
def tw124366622741998027:=cM
def tw136939035231725644:=cM
def tw12651314921681036036:=cM
def tw139077944200085243:=cM
def tw10830838480406427298:=cM
def tw16419554296272913965:=cM
def tw11164840857568931555:=cM
def tw14660453051105531553:=cM
def tw7864594355179169909:=cM
def tw17447699432411140978:=cM
def tw5889708517901784859:=cM
def tw3836260931282642056:=cM
def tw10349505113494585469:=cM
def tw567192648573139848:=cM
def tw9209263126822346740:=cM
def tw10403528320120881299:=cM
def tw15499422560345620954:=cM
def tw14370822988559537851:=cM
def tw8610884028400433475:=cM
def tw7965244714227972871:=cM
def tw10098543458677602315:=cM
def tw3793158279206596990:=cM
def tw7778804788063463759:=cM
def tw14330907895275124388:=cM
def tw2263945634799632638:=cM
def tw3598915402350511719:=cM
def tw1781056788843133404:=cM
def tw9446276668443903922:=cM
def tw1327393632608638309:=cM
def tw8490628425334968147:=cM
def tw11926542034772832057:=cM
def tw8605319979777568094:=cM
def tw14316164797785053306:=cM
def tw6165024025726128581:=cM
def tw11458371029239676738:=cM
def tw8328590860334531353:=cM
def tw1261538921650856617:=cM
def tw17314670315817561785:=cM
def tw11506705370898207992:=cM
def tw8516748126990740612:=cM
def tw1315252676591661292:=cM
def tw4417118875334886797:=cM
def tw4015235173188814563:=cM
def tw12014978160528420370:=cM
def tw8854027248316199144:=cM
def tw6557687203797775745:=cM
def tw10814805807137473775:=cM
def tw14111999230851119107:=cM
def tw708591204578776774:=cM
def tw11640735958047755336:=cM
def tw13824449285499470656:=cM
def tw13454439765859111886:=cM
def tw13863831867168786869:=cM
def tw9033425952624483213:=cM
def tw15080714800519229005:=cM
def tw4387068520292206760:=cM
def tw5769012310117513418:=cM
def tw1105345886778883880:=cM
def tw14236523014426779894:=cM
end PySem.W.Fast
set_option bootstrap.genMatcherCode false
def cS(h:True:=by first|show .inl L|show .inr L|assumption):=h
def cU(h:True:=by decide):=h
def cY(h:True:=by first|show nobehind _ (!1) (!1)|rfl):=h
def db(h:True:=by rfl):=h
def dl(h:True:=by intro _;rfl):=h
def dz(h:True:=by first|show Or.inl L|show Or.inr (Or.inl L)|show Or.inr (Or.inr L)):=h
def dL(h:True:=by intro _ _;rfl):=h
def dO(h:True:=by size_fits):=h
def ec(h:True:=by first|show Or.inl L|show Or.inr L):=h
def ef(h:True:=by decide +kernel):=h
def ei(h:True:=by first|decide|omega):=h
def ej(h:True:=by repeat (first|show AJ|show mh ?_)):=h
set_option compiler.extract_closed false
open Lean in
def pQ9:Nat->Syntax->MacroM (TSyntax `rcasesPat)
 |0,_=>Macro.throwUnsupported
 |n+1,s=>match s with
  |`(#[$a,*])=>do
   let b<-a.getElems.mapM λx=>do
    let p<-pQ9 n x
    `(Parser.Tactic.rcasesPatLo|$p:rcasesPat)
   `(rcasesPat|⟨$b,*⟩)
  |`($i:ident)=>`(rcasesPat|$i:ident)
  |`(_)=>`(rcasesPat|_)
  |_=>Macro.throwUnsupported
theorem z5{P:Prop}(h:∀G:Prop,(P->G)->G):P:=h P id
open Lean in
local macro_rules|`(tactic|let#[$a,*]:=$e)=>do
 let p<-pQ9 9 (<-`(#[$a,*]))
 if a.getElems.size<4 then `(tactic|set_option tactic.hygienic false in obtain $p:rcasesPat:=$e) else
 `(tactic|first|(refine z5 fun G k=>?_;(set_option tactic.hygienic false in obtain $p:rcasesPat:=$e);refine k ?_;clear k G)|set_option tactic.hygienic false in obtain $p:rcasesPat:=$e)
local macro_rules|`(#[$a,*])=>`(⟨$a,*⟩)
open Lean in
local macro_rules|`(fun $a*=>$b)=>do
 if a.any (·.raw.isOfKind `Lean.Parser.Term.hole) then
  let c:=a.map λx=>if x.raw.isOfKind `Lean.Parser.Term.hole then ⟨mkIdent `z0⟩ else x
  `(fun $c*=>$b) else Macro.throwUnsupported
open Lean Parser.Tactic in
local macro_rules|`(tactic|erw[$a,*]$[$l:location]?)=>do
 let b<-a.getElems.mapM λr=>match r with
  |`(rwRule|$t:term)=>`(simpLemma|$t:term)
  |`(rwRule|←$t:term)=>`(simpLemma|←$t:term)
  |_=>Macro.throwUnsupported
 let c:Syntax.TSepArray `Lean.Parser.Tactic.simpLemma ",":=.ofElems b
 `(tactic|simp only[$c,*]$[$l:location]?)
local macro_rules|`(!0)=>`(by omega)
local macro_rules|`(!1)=>`(by decide)
open PySem PySem.Spec
abbrev X0:=Value->Shared->Prop
abbrev X1:=PySem.W.Frag
abbrev X2:=List (Addr×Obj)
abbrev X3:=Str->Option Value
abbrev X4:=Shared
abbrev X5:=List Value
abbrev X6:=List Str
abbrev X7:=List Addr
abbrev X8:=Addr
abbrev X9:=Program
abbrev X_:=Around
abbrev Xa:=Array Value
abbrev Xb:=Option Int
abbrev Xc:=World
abbrev Xd:=Value
abbrev Xe:=Heap
abbrev Xf:=Bool->Shared->Prop
abbrev L{α:Sort u}{a:α}:a=a:=rfl
local macro_rules|`(tactic|let $x:ident:=$e)=>`(tactic|have $x:ident:=$e)
noncomputable section
local macro_rules|`(tactic|omega)=>`(tactic|lia)
local macro_rules|`(tactic|show $e)=>`(tactic|refine $e)
open PySem PySem.Spec
abbrev gQm:=@List.getElem?_map
abbrev lQm:=@List.length_map
abbrev mQg:=@List.mem_of_getElem?
abbrev oQm:=@Option.map_eq_some_iff
abbrev gQe:=@List.getElem?_eq_getElem
abbrev gQs:=@List.getElem?_eq_some_iff
abbrev lQa:=@List.length_append
abbrev nQl:=@Nat.le_of_lt
abbrev mQa:=@List.mem_append
abbrev Qaq:=@PySem.wpAny_bind
abbrev Qbq:=@Option.bind_some
abbrev Qcq:=@PySem.Heap.get?_push_of_some
abbrev Qdq:=@decide_eq_false
abbrev Qeq:=@decide_eq_true
abbrev Qfq:=@List.mem_singleton
abbrev Qgq:=@PySem.wpAny_pure
abbrev Qhq:=@if_pos
abbrev Qiq:=@PySem.Heap.lt_size
abbrev Qjq:=@List.size_toArray
abbrev Qkq:=@List.mem_map
abbrev Qlq:=@List.getD_eq_getElem?_getD
abbrev Qmq:=@Nat.le_refl
abbrev Qnq:=@List.length_cons
abbrev Qoq:=@List.mem_append_right
abbrev Qpq:=@List.mem_cons_of_mem
abbrev Qqq:=@Nat.lt_of_lt_of_le
abbrev Qrq:=@PySem.Heap.get?_push_size
abbrev Qsq:=@List.mem_cons
abbrev Qtq:=@Bool.false_ne_true
abbrev Quq:=@if_neg
abbrev Qvq:=@List.append_assoc
abbrev Qwq:=@Nat.ne_of_lt
abbrev Qxq:=@List.length_take
abbrev Qyq:=@List.getElem?_set_self
abbrev Qzq:=@List.map_append
abbrev QAq:=@Nat.le_trans
abbrev QBq:=@List.mem_cons_self
abbrev QCq:=@Bool.and_eq_true
abbrev QDq:=@List.map_cons
abbrev QEq:=@List.take_length
abbrev QFq:=@PySem.W.mg_none_of
abbrev QGq:=@List.length_nil
abbrev QHq:=@List.getElem?_append_left
abbrev QIq:=@List.length_replicate
abbrev QJq:=@List.Perm.append_right
abbrev QKq:=@List.getElem?_set_ne
abbrev QLq:=@PySem.wpAny_holding
abbrev QMq:=@PySem.wpAny_field
abbrev QNq:=@List.replicate_succ
abbrev QOq:=@List.mem_flatMap
abbrev QPq:=@List.map_map
abbrev QQq:=@List.getElem?_append_right
abbrev QRq:=@PySem.wpAny_mono
abbrev QSq:=@List.flatMap_cons
abbrev QTq:=@List.mem_or_eq_of_mem_set
abbrev QUq:=@List.all_eq_true
abbrev QVq:=@List.length_range
abbrev QWq:=@List.drop_eq_getElem_cons
abbrev QXq:=@List.not_mem_nil
abbrev QYq:=@List.take_add_one
abbrev QZq:=@of_decide_eq_true
abbrev QaQ:=@of_decide_eq_false
abbrev QbQ:=@List.getElem_of_mem
abbrev QcQ:=@List.mem_of_getLast?
abbrev QdQ:=@Option.some.inj
abbrev QeQ:=@List.of_mem_zip
abbrev QfQ:=@List.getLast?_map
abbrev QgQ:=@PySem.wpAny_ite_false
abbrev QhQ:=@PySem.wpAny_newObj_type
abbrev QiQ:=@PySem.wpAny_callSpecial?_slot
abbrev QjQ:=@List.Sublist.refl
abbrev QkQ:=@List.eq_of_mem_replicate
abbrev QlQ:=@List.map_replicate
namespace L2
open PyProof.Rows
abbrev Key:=Sum Int Str
noncomputable def qK:Key->Value->Bool
 |.inl k,v=>Value.isInt k v
 |.inr x,v=>Value.isStrOf x v
noncomputable def OX(w:Xc):Key->Int
 |.inl k=>hashInt k
 |.inr x=>hashStr w x
def dv:∀{k:Key} {v:Xd},qK k v=true->(∃i t,k=Sum.inl i/\v=Value.int i t)\/(∃x t,k=Sum.inr x/\v=Value.str x t)
 | .inl i,v,h=>by
   let#[t,e]:=Value.isInt_shape (k:=i) (v:=v) h
   show .inl #[i,t,L,e]
 | .inr x,v,h=>by
   let#[t,e]:=Value.isStrOf_shape (x:=x) (v:=v) h
   show .inr #[x,t,L,e]
def Dd(i:Int)(t:Tok):qK (.inl i) (.int i t)=true:=by simp[qK,Value.isInt]
def pN(x:Str)(t:Tok):qK (.inr x) (.str x t)=true:=by simp[qK,Value.isStrOf]
def KH(a b:Int):decide ((Sum.inl a:Key)=Sum.inl b)=(a==b):=by
 by_cases e:a=b
 ·subst e;simp
 ·have h:¬(Sum.inl a:Key)=Sum.inl b:=λq=>e (Sum.inl.inj q)
  rw[Qdq h]
  show(beq_eq_false_iff_ne.mpr e).symm
def K8(a b:Str):decide ((Sum.inr a:Key)=Sum.inr b)=decide (a=b):=by
 by_cases e:a=b
 ·subst e;simp
 ·have h:¬(Sum.inr a:Key)=Sum.inr b:=λq=>e (Sum.inr.inj q)
  rw[Qdq h,Qdq e]
def KY(a:Int)(b:Str):decide ((Sum.inl a:Key)=Sum.inr b)=false:=Qdq (λq=>nomatch q)
def Lc(a:Str)(b:Int):decide ((Sum.inr a:Key)=Sum.inl b)=false:=Qdq (λq=>nomatch q)
noncomputable def bT(prog:X9)(w:Xc):PySem.KeyKind prog w Key where
 is:=qK
 hash:=OX w
 inj:=λv a b g f=>by
  rcases dv g with⟨i,t,rfl,rfl⟩|⟨x,t,rfl,rfl⟩
  ·rcases dv f with⟨j,u,rfl,e⟩|⟨y,u,rfl,e⟩
   ·injection e with c _;rw[c]
   ·show nomatch e
  ·rcases dv f with⟨j,u,rfl,e⟩|⟨y,u,rfl,e⟩
   ·show nomatch e
   ·injection e with c _;rw[c]
 byValue:=λk v h=>by
  rcases dv h with⟨i,t,rfl,rfl⟩|⟨x,t,rfl,rfl⟩ <;>rfl
 pyHash:=λd h=>by
  rcases dv d with⟨i,t,rfl,rfl⟩|⟨x,t,rfl,rfl⟩
  ·show wpAny_pyHash_int h
  ·show wpAny_pyHash_str h
 eqBool:=λl d h=>by
  rcases dv l with⟨i,t,rfl,rfl⟩|⟨x,t,rfl,rfl⟩
  ·rcases dv d with⟨j,u,rfl,rfl⟩|⟨y,u,rfl,rfl⟩
   ·rw[KH] at h;show wpAny_eqBool_int h
   ·rw[KY] at h;show SeqAt.EqAt.int_str i t y u _ _ _ _ h
  ·rcases dv d with⟨j,u,rfl,rfl⟩|⟨y,u,rfl,rfl⟩
   ·rw[Lc] at h;show SeqAt.EqAt.str_int x t j u _ _ _ _ h
   ·rw[K8] at h;show wpAny_eqBool_str h
 «strs»:=λk x t v h=>by
  rcases dv h with⟨i,u,rfl,e⟩|⟨y,u,rfl,e⟩
  ·show nomatch e
  ·injection e with c _
   subst c
   cases v <;>rfl
def yB(prog:X9)(w:Xc)(i:Int)(t:Tok):(bT prog w).is (.inl i) (.int i t)=true:=Dd i t
def yV(prog:X9)(w:Xc)(x:Str)(t:Tok):(bT prog w).is (.inr x) (.str x t)=true:=pN x t
inductive V where
 |non|bl (b:Bool)|int (i:Int)|str (x:Str)|byt (b:Array UInt8)|flt (b:UInt64)|ref (a:X8)|ty (n:String)
 deriving DecidableEq
def RelV:V->Value->Prop
 |.non,u=>u=Value.none
 |.bl b,u=>u=Value.bool b
 |.int i,u=>∃t,u=Value.int i t
 |.str x,u=>∃t,u=Value.str x t
 |.byt b,u=>∃t,u=Value.bytes b t
 |.flt b,u=>∃t,u=Value.float b t
 |.ref a,u=>u=Value.ref a
 |.ty n,u=>u=Value.type n
abbrev bL:List V->List Value->Prop:=Paired RelV
def bL.length(r:bL xs a):xs.length=a.length:=Paired.length r
theorem bL.get:∀{xs:List V} {a:X5} {i:Nat} {x:V},bL xs a->xs[i]?=some x->∃u,a[i]?=some u/\RelV x u
 |_,_,_,_,.nil,e=>by simp at e
 |_,_,0,_,.cons r _,e=>by simp at e;subst e;show#[_,L,r]
 | _,_,i+1,x,.cons _ t,e=>by
   let#[u,c,b]:=bL.get (i:=i) (x:=x) t (by simpa using e)
   show#[u,by simpa using c,b]
theorem bL.set(r:RelV x u):∀{xs:List V} {a:X5} (i:Nat),bL xs a->bL (xs.set i x) (a.set i u)
 |_,_,_,.nil=>.nil
 |_,_,0,.cons _ t=>.cons r t
 |_,_,i+1,.cons q t=>.cons q (bL.set r i t)
theorem bL.append:∀{xs ys:List V} {a ws:X5},bL xs a->bL ys ws->bL (xs++ys) (a++ws)
 |_,_,_,_,.nil,s=>s
 |_,_,_,_,.cons r t,s=>.cons r (bL.append t s)
theorem bL.take:∀{xs:List V} {a:X5} (n:Nat),bL xs a->bL (xs.take n) (a.take n)
 |_,_,0,_=>.nil
 |_,_,_+1,.nil=>.nil
 |_,_,n+1,.cons r t=>.cons r (bL.take n t)
theorem bL.drop:∀{xs:List V} {a:X5} (n:Nat),bL xs a->bL (xs.drop n) (a.drop n)
 |_,_,0,r=>r
 |_,_,_+1,.nil=>.nil
 |_,_,n+1,.cons _ t=>bL.drop n t
def rY:Option V->Option Value->Prop
 |some v,some u=>RelV v u
 |none,none=>True
 |_,_=>False
def KV:List (a×V)->List (a×Value)->Prop:=Paired λ(p:a×V) (q:a×Value)=>p.1=q.1/\RelV p.2 q.2
noncomputable def kV:Key->V
 |.inl i=>.int i
 |.inr x=>.str x
inductive HO where
 |lst (xs:List V)
 |tup (xs:List V)
 |dK (kvs:List (Key×V))|dT (kvs:List (List Key×V))
 |set (S:Int->Bool) (n:Nat)
 |ins (C dx:X8) (fs:List (Str×V))
 |own (x:X8)
 |xd (fs:List (Str×V))
 |met (f x:X8)
 |rng (lo hi:Int)
 |frz (o:Obj) (u:HO)
 |tbl (ps:Xa)
 |ext (φ:Heap->Prop)
abbrev Hp:=Addr->Option HO
noncomputable def upd(H:Hp)(a:X8)(o:HO):Hp:=λb=>if b=a then some o else H b
def bz:upd H a o a=some o:=by unfold upd;rw[Qhq L]
def bc(h:b≠a):upd H a o b=H b:=by unfold upd;rw[Quq h]
def FG{H:Hp}(h:H a=some o)(h':H b=some u)(d:o≠u):a≠b:=by
 intro e;subst e;rw[h] at h';show d (QdQ h')
def eY{H:Hp}(h:H a=some o)(h':H b=none):a≠b:=by
 intro e;subst e;rw[h] at h';cases h'
def uE(h:Xe)(a:X8)(items:Xa):Prop:=∃o,h.get? a=some o/\o.cls=.type "tuple" /\o.dict=none/\∃n,o.data=.seq items n
def uE.it(x:uE h a items):IsTup h a items:=by
 let#[o,e,c,_,d]:=x
 show#[o,e,c,d]
def uE.new(h:Xe)(items:Xa):uE (h.push {cls:=.type "tuple",data:=.seq items}) h.objs.size items:=#[_,Qrq _ L,L,L,_,L]
section
variable(P:X9)(w:Xc)
def cV(H:Hp)(h:Xe)(a:X8):HO->Prop
 |.lst d=>d.length<=sizeLine/\∃(c:X5) (n:Nat),bL d c/\h.get? a=some {cls:=.type "list",data:=.seq c.toArray n}
 |.tup d=>d.length<=sizeLine/\∃c:List Value,bL d c/\uE h a c.toArray
 |.dK b=>b.length<=sizeLine/\(a==sysModules)=false/\∃l,KV b l/\h.DictOf (bT P w) a l
 |.dT b=>b.length<=sizeLine/\(a==sysModules)=false/\∃d:List (List Key×Addr×Value),
   Paired (λ(p:List Key×V) (q:List Key×Addr×Value)=>p.1=q.1/\H q.2.1=some (.tup (p.1.map kV))/\RelV p.2 q.2.2) b d∧
   ∃o r z,h.get? a=some o/\o.ExactDict/\o.data=.dict r z/\r.toList=d.map (entryOfKey<|tupleKind<|bT P w)/\(d.map (·.1)).Nodup
 |.set S n=>h.SetOf (intKind P w) a S n
 |.ins C i g=>H i=some (.own a)/\g.length<=1000/\i≠a/\h.get? a=some (PySem.W.instObj C i)∧
   ∃e,h.Ns1 i e/\(∀f,rY (g.lookup f)<|e f)/\PySem.Within e (g.map (·.1))
 |.own _=>∃o,h.get? a=some o
 |.xd g=>∃e,h.Ns1 a e/\∀f,rY (g.lookup f) (e f)
 |.rng A y=>∃t u v,h.get? a=some {cls:=.type "range",data:=.fields (List.toArray [.int A t,.int y u,.int 1 v])}
 |.frz o u=>h.get? a=some o/\cV H h a u
 |.tbl s=>h.get? a=some {cls:=.none,data:=.fields s}
 |.met f x=>h.get? a=some (PySem.W.methodObj (.ref f)<|.ref x)
 |.ext j=>j h/\(∃o,h.get? a=some o)/\∀m k:Heap,j m->(∀o,m.get? a=some o->k.get? a=some o)->j k
def n_(H:Hp)(h:Xe):Prop:=∀a o,H a=some o->cV P w H h a o
end
theorem cV.lt(x:cV P w H h a o):a<h.objs.size:=by
 cases o with
 |lst c=>let#[_,_,_,_,e]:=x;show Qiq e
 |tup c=>let#[_,_,_,p]:=x;show p.it.lt
 |dK b=>let#[_,_,_,_,o,_,_,e,_]:=x;show Qiq e
 |dT b=>let#[_,_,_,_,o,_,_,e,_]:=x;show Qiq e
 |set S n=>let#[o,_,_,_,e,_]:=x;show Qiq e
 |ins C m d=>let#[_,_,_,e,_]:=x;show Qiq e
 |own y=>let#[_,e]:=x;show Qiq e
 |xd d=>let#[_,#[_,_,_,e,_],_]:=x;show Qiq e
 |rng q l=>let#[_,_,_,e]:=x;show Qiq e
 |frz k u=>let#[e,_]:=x;show Qiq e
 |tbl j=>show Qiq (show h.get? a=some _ from x)
 |met f y=>show Qiq (show h.get? a=some _ from x)
 |ext i=>let#[_,#[_,e],_]:=x;show Qiq e
theorem Paired.mapP{F G:α->c->Prop}:∀{l₁:List α} {l₂:List c},Paired F l₁ l₂->(∀a b,F a b->G a b)->Paired G l₁ l₂
 |_,_,.nil,_=>.nil
 |_,_,.cons r t,f=>.cons (f _ _ r) (Paired.mapP t f)
def cV.stay{g:Hp}{h':Xe}(x:cV P w H h a o)(k:∀b u,(b=a\/H b=some (.own a))->h.get? b=some u->h'.get? b=some u)
  (M:∀b,H b=some (.own a)->g b=some (.own a)) (ht:∀b xs,H b=some (.tup xs)->g b=some (.tup xs)):cV P w g h' a o:=by
 induction o with
 |lst xs=>let#[z,m,n,r,e]:=x;show#[z,m,n,r,k _ _ (.inl L) e]
 |tup xs=>let#[z,m,r,i,e,c]:=x;show#[z,m,r,i,k _ _ (.inl L) e,c]
 |dK s=>let#[z,y,I,r,i,j,l,e,c]:=x;show#[z,y,I,r,i,j,l,k _ _ (.inl L) e,c]
 | dT s=>
   let#[z,y,xs,r,i,j,l,e,c]:=x
   show#[z,y,xs,Paired.mapP r λp q z=>#[z.1,ht _ _ z.2.1,z.2.2],i,j,l,k _ _ (.inl L) e,c]
 |set S n=>let#[i,j,l,t,e,c]:=x;show#[i,j,l,t,k _ _ (.inl L) e,c]
 | ins C X N=>
   let#[d,z,J,e,A,#[B,j,l,K,c],r]:=x
   show#[M _ d,z,J,k _ _ (.inl L) e,A,#[B,j,l,k _ _ (.inr d) K,c],r]
 |own y=>let#[i,e]:=x;show#[i,k _ _ (.inl L) e]
 |xd N=>let#[A,#[B,j,l,e,c],r]:=x;show#[A,#[B,j,l,k _ _ (.inl L) e,c],r]
 |rng Y U=>let#[t,u,v,e]:=x;show#[t,u,v,k _ _ (.inl L) e]
 |frz i u Q=>let#[e,q]:=x;show#[k _ _ (.inl L) e,Q q]
 | tbl F=>
   have e:h.get? a=some {cls:=.none,data:=.fields F}:=x
   show h'.get? a=some {cls:=.none,data:=.fields F}
   show k a _ (.inl L) e
 | met f y=>
   have e:h.get? a=some (PySem.W.methodObj (.ref f)<|.ref y):=x
   show h'.get? a=some (PySem.W.methodObj (.ref f)<|.ref y)
   show k a _ (.inl L) e
 |ext R=>let#[p,#[o,e],G]:=x;show#[G _ _ p λo q=>k _ _ (.inl L) q,#[o,k _ _ (.inl L) e],G]
def n_.lt(x:n_ P w H h)(e:H a=some o):a<h.objs.size:=(x a o e).lt
def n_.fresh(x:n_ P w H h)(e:h.objs.size<=a):H a=none:=by
 cases q:H a with
 |none=>rfl
 |some u=>show absurd (Qqq (x.lt q) e) (Nat.lt_irrefl _)
def n_.kept{h':Xe}(x:n_ P w H h)(k:∀b u,h.get? b=some u->h'.get? b=some u):n_ P w H h':=λa o e=>
 (x a o e).stay (λb u _ q=>k b u q) (λ_ q=>q) λ_ _ q=>q
def n_.laid{h':Xe}(x:n_ P w H h)(k:∀b u,h.get? b=some u->h'.get? b=some u)(j:h.objs.size<=a)(d:cV P w (upd H a o) h' a o):n_ P w (upd H a o) h':=λb u e=>by
 let i:=x.fresh j
 by_cases f:b=a
 ·subst f;rw[bz] at e;cases e;show d
 ·rw[bc f] at e
  show(x b u e).stay (λc v _ q=>k c v q) (λc q=>by rw[bc (eY q i)];show q) λc l q=>by rw[bc (eY q i)];show q
def Rd(H:Hp)(a:X8)(u:HO):Prop:=H a=some u\/∃o,H a=some (.frz o u)
def Rd.ok(r:Rd H a u)(x:n_ P w H h):cV P w H h a u:=by
 rcases r with r|⟨o,r⟩
 ·show x a u r
 ·let#[_,q]:=x a _ r
  show q
def NB:Option HO->Prop
 |some (.lst _)=>True
 |some (.dK _)=>True
 |some (.dT _)=>True
 |some (.set _ _)=>True
 |some (.ins _ _ _)=>True
 |some (.ext _)=>True
 |_=>False
def n_.write{h':Xe}(ok:n_ P w H h)(j:NB (H x))(he:e=x\/H e=some (.own x))(k:∀b u,b≠e->h.get? b=some u->h'.get? b=some u)(m:∃u,h'.get? e=some u)
  (n:cV P w (upd H x o') h' x o'):n_ P w (upd H x o') h':=λb u q=>by
 have d:∀c y,H c=some (.own y)->c≠x:=λc y r z=>by subst z;rw[r] at j;show j
 have f:∀c i,H c=some (.tup i)->c≠x:=λc i r z=>by subst z;rw[r] at j;show j
 by_cases g:b=x
 ·subst g;rw[bz] at q;cases q;show n
 ·rw[bc g] at q
  by_cases a:b=e
  ·have o:H b=some (.own x):=by
    rcases he with z|z
    ·show absurd (a.trans z) g
    ·rw[a];show z
   rw[q] at o;cases o
   let#[v,p]:=m
   show#[v,by rw[a];show p]
  ·show(ok b u q).stay (λc v l r=>k c v ?_ r) (λc r=>by rw[bc (d c b r)];show r) λc i r=>by rw[bc (f c i r)];show r
   rcases l with rfl|l
   ·show a
   ·rintro rfl
    rcases he with z|z
    ·show d c b l z
    ·rw[l] at z;cases z;show g L
structure Un(fs ex:X7)(H H':Hp)(h h':Xe):Prop where
 keep:∀b o,h.get? b=some o->H b=none->b∉fs->b∉ex->h'.get? b=some o
 slot:∀b o,h.get? b=some o->H b=none->b∈fs->b∉ex->∃sl,h'.get? b=some {o with slots:=sl}
 free:∀b o,h.get? b=some o->H b=none->b∉ex->H' b=none
 there:∀b o,h.get? b=some o->b∉ex->∃o',h'.get? b=some o'
 tups:∀b xs,H b=some (.tup xs)->H' b=some (.tup xs)
 frzs:∀b o u,H b=some (.frz o u)->H' b=some (.frz o u)
 tbls:∀b ps,H b=some (.tbl ps)->∃more,H' b=some (.tbl (ps++more))
def Un.any{fs:X7}{c:X7}{H:Hp}{H1:Hp}{h:Xe}{d:Xe}(u:Un fs c H H1 h d){b:X8}{j:Obj}(q:h.get? b=some j)(n:H b=none)(l:b∉c):∃sl,d.get? b=some {j with slots:=sl}:=by
 by_cases k:b∈fs
 ·show u.slot b j q n k l
 ·show#[j.slots,u.keep b j q n k l]
def Un.kept{h:Xe}{h':Xe}(k:∀b u,h.get? b=some u->h'.get? b=some u):Un fs c H H h h':=
 #[λb j q _ _ _=>k b j q,λb j q _ _ _=>#[j.slots,k b j q],λ_ _ _ n _=>n,λb j q _=>#[j,k b j q],λ_ _ q=>q,λ_ _ _ q=>q,λ_ l q=>#[(List.toArray []),by rw[q];simp]]
def Un.refl:Un fs c H H h h:=Un.kept λ_ _ q=>q
def Un.laid{H:Hp}{h:Xe}{h':Xe}(k:∀b u,h.get? b=some u->h'.get? b=some u)(l:h.objs.size<=a)(j:H a=none):Un fs c H (upd H a o) h h' where
 keep:=λb u q _ _ _=>k b u q
 slot:=λb u q _ _ _=>#[u.slots,k b u q]
 free:=λb u q n _=>by rw[bc (Qwq<|Qqq (Qiq q) l)];show n
 there:=λb u q _=>#[u,k b u q]
 tups:=λb m q=>by rw[bc (eY q j)];show q
 frzs:=λb u m q=>by rw[bc (eY q j)];show q
 tbls:=λb p q=>#[(List.toArray []),by rw[bc (eY q j),q];simp]
def Un.write{H:Hp}{h:Xe}{h':Xe}(l:NB (H x))(he:e=x\/H e=some (.own x))(k:∀b u,b≠e->h.get? b=some u->h'.get? b=some u)(p:∃u,h'.get? e=some u):Un fs c H (upd H x o) h h':=by
 have t:∀b,H b=none->b≠x:=λb n z=>by subst z;rw[n] at l;show l
 have s:∀b,H b=none->b≠e:=λb n z=>by
  subst z
  rcases he with r|r
  ·show t b n r
  ·rw[n] at r;cases r
 have m:∀b u,H b=some u->¬NB (some u)->b≠x:=λb u q nm z=>by subst z;rw[q] at l;show nm l
 show⟨λb u q n _ _=>k b u (s b n) q,λb u q n _ _=>⟨u.slots,k b u (s b n) q⟩,λb u q n _=>by rw[bc (t b n)];show n,λb u q _=>?_,
  λb v q=>by rw[bc (m b _ q λz=>z)];show q,λb u v q=>by rw[bc (m b _ q λz=>z)];show q,λb w q=>#[(List.toArray []),by rw[bc (m b _ q λz=>z),q];simp]⟩
 by_cases j:b=e
 ·subst j;show p
 ·show#[u,k b u j q]
noncomputable def Ot(h:Xe)(H:Hp):List Addr:=(List.range h.objs.size).filter λa=>(H a).isSome
noncomputable def xX(h:Xe)(H:Hp):Heap:=PySem.W.hideAll h (Ot h H)
def Da(h:Xe)(H:Hp):(xX h H).objs.size=h.objs.size:=PySem.W.hideAll_size _ _
def EO{h:Xe}{H:Hp}(e:h.get? b=some o)(n:H b=none):(xX h H).get? b=some o:=
 PySem.W.hideAll_get _ e λa=>by
  have q:(H b).isSome=true:=(List.mem_filter.mp a).2
  rw[n] at q;simp at q
def Hd(e:(xX h H).get? b=some o):h.get? b=some o/\H b=none:=by
 have a:h.get? b=some o:=PySem.W.of_hideAll (Ot h H) e
 show#[a,?_]
 cases q:H b with
 |none=>rfl
 | some x=>
   have c:b∈Ot h H:=List.mem_filter.mpr #[List.mem_range.mpr<|Qiq a,by simp[q]]
   have z:(xX h H).get? b=none:=PySem.W.hideAll_none (Ot h H) c
   rw[z] at e;cases e
structure Mod(K:X1)(mg:X3)(base:Xe):Prop where
 kin:K.In base
 glob:base.Ns mainGlobals mg
 blt:∃mb,base.Ns builtinsNs mb/\∀x:Str,x≠"__name__" ->mb x=bootBuiltins x
 nolimit:base.NoLimit
structure Cx where
 prog:Program
 w:World
 K:PySem.W.Frag
 mg:Str->Option Value
 base:Heap
 A:Around
 N:List Str
 s₀:Shared
 H₀:Hp
 env:Env
 outer:List Env
 stack:List Env
 ex:List Addr
 fn:Str->Bool
 calm:Bool
 pn:List (Addr×Obj)
 xe:Value->Shared->Prop
noncomputable def Fm(l:List Env):List Addr:=l.filterMap (·.frame)
noncomputable abbrev Cx.fs(X:Cx):List Addr:=Fm X.outer
def Io(a:Scope)(x:Str):Prop:=a.names.lookup x=some .local\/a.names.lookup x=some .cell\/a.names.lookup x=some .free
def Loc(a:Scope)(x:Str):Prop:=a.names.lookup x=some .local\/a.names.lookup x=some .cell
def Look(env:Env)(h:Xe)(m:X3)(x:Str)(u:Xd):Prop:=
 (env.kindOf x=some .local/\m x=some u)\/((env.kindOf x=some .cell\/env.kindOf x=some .free)/\∃c,env.cells.lookup x=some c/\h.IsCell c (some u))
structure Cx.Ok(X:Cx):Prop where
 mod:Mod X.K X.mg X.base
 kind:X.env.scope.kind=.function
 glob:X.env.globals=mainGlobals
 blt:X.env.builtins=builtinsNs
 above:X.s₀.heap.objs.size<=X.env.locals
 inj:∀x y c,X.env.cells.lookup x=some c->X.env.cells.lookup y=some c->x=y
 has:∀x,(X.env.kindOf x=some .cell\/X.env.kindOf x=some .free)->∃c,X.env.cells.lookup x=some c
 cab:∀x c,X.fn x=true->X.env.cells.lookup x=some c->X.s₀.heap.objs.size<=c
 hd:X.calm=true->X.A.handled=none
 frames:X.A.frames=some X.stack
 stk:X.stack=X.outer\/(X.stack=X.env::X.outer/\X.env.frame=some X.env.locals)
 exf:∀b∈X.ex,b≠X.env.locals/\∀x c,X.env.cells.lookup x=some c->c≠b
 bs:∀b o,X.base.get? b=some o->X.s₀.heap.get? b=some o/\X.H₀ b=none
 bsz:X.base.objs.size<=X.s₀.heap.objs.size
 noex:∀b o,X.base.get? b=some o->b∉X.ex
 exfs:∀b∈X.ex,b∉X.fs
 funs:X.s₀.heap.FunFrames X.base X.outer
 frf:∀b∈X.fs,X.H₀ b=none
structure Inv(X:Cx)(pins:X2)(σ:List (Option V))(H:Hp)(s:X4):Prop where
 ok:X.Ok
 os:s.os=X.s₀.os
 bare:AllBare s.gens
 base:Un X.fs X.ex X.H₀ H X.s₀.heap s.heap
 loc:∃m,s.heap.Ns X.env.locals m/\∀(i:Nat) (x:Str) (v:V),X.N[i]?=some x->σ[i]?=some (some v)->Io X.env.scope x->∃u,RelV v u/\Look X.env s.heap m x u
 cell:∀x c,X.env.cells.lookup x=some c->∃v,s.heap.IsCell c v
 free:H X.env.locals=none
 freeC:∀x c,X.env.cells.lookup x=some c->H c=none
 pin:∀p∈X.pn++pins,s.heap.get? p.1=some p.2/\H p.1=none/\p.1≠X.env.locals/\p.1∉X.fs/\∀v,p.2.data≠.cell v
 hok:n_ X.prog X.w H s.heap
 len:σ.length=X.N.length
def Cx.Ok.nofr{X:Cx}(ok:X.Ok)(e:X.base.get? b=some o):b∉X.fs:=λa=>by
 have:=(ok.funs.mem a).1
 rw[e] at this;cases this
def Inv.bs(I:Inv X f g H s):∀b o,X.base.get? b=some o->s.heap.get? b=some o/\H b=none:=λb o e=>
 #[I.base.keep b o (I.ok.bs b o e).1 (I.ok.bs b o e).2 (I.ok.nofr e)<|I.ok.noex b o e,I.base.free b o (I.ok.bs b o e).1 (I.ok.bs b o e).2<|I.ok.noex b o e]
def Inv.bk(I:Inv X f g H s):∀b o,X.base.get? b=some o->s.heap.get? b=some o:=λb o e=>(I.bs b o e).1
def Inv.mod(I:Inv X f g H s):Mod X.K X.mg X.base:=I.ok.mod
def Inv.kIn(I:Inv X f g H s):X.K.In s.heap:=I.ok.mod.kin.keeps I.bk
def Inv.lt(I:Inv X f g H s):X.env.locals<s.heap.objs.size:=let ⟨_,hn,_⟩:=I.loc;hn.lt
def Inv.sz(I:Inv X f g H s):X.s₀.heap.objs.size<=s.heap.objs.size:=QAq I.ok.above (nQl I.lt)
def Inv.nofs(I:Inv X f g H s)(h:s.heap.objs.size<=a):a∉X.fs:=λc=>by
 let#[_,o,b,_]:=I.ok.funs.mem c
 show absurd (Qqq (Qiq b)<|QAq I.sz h)<|Nat.lt_irrefl _
def Inv.cne(I:Inv X f g H s):∀x c,X.env.cells.lookup x=some c->c≠X.env.locals:=λx c e z=>by
 let#[v,o,h,d]:=I.cell x c e
 let#[m,#[k,j,i,b,a,_],_]:=I.loc
 rw[z,b] at h;cases h;rw[a] at d;cases d
theorem Inv.funs(I:Inv X f g H s):s.heap.FunFrames X.base X.outer:=by
 have h:∀(l:List Env),(∀b∈Fm l,b∈X.fs)->X.s₀.heap.FunFrames X.base l->s.heap.FunFrames X.base l:=by
  intro l
  induction l with
  |nil=>intro _ _;trivial
  | cons m r t=>
    intro i hl
    let#[k,#[L,o,d,q,n,j],p]:=hl
    have c:L∈X.fs:=i L (by unfold Fm;rw[List.filterMap_cons,d];show QBq)
    let#[sl,e]:=I.base.slot L o n (I.ok.frf L c) c λz=>I.ok.exfs L z c
    show#[k,#[L,_,d,q,e,j],t (λb a=>i b (by unfold Fm;rw[List.filterMap_cons,d];show Qpq _ a)) p]
 show h X.outer (λ_ a=>a) I.ok.funs
def Inv.stack(I:Inv X f g H s):s.heap.FunFrames X.base X.stack:=by
 rcases I.ok.stk with e|⟨e,a⟩
 ·rw[e];show I.funs
 ·rw[e]
  let#[m,b,_]:=I.loc
  show .cons (by rw[I.ok.kind];decide) a b ?_ I.funs
  show Heap.get?_none_of_le<|QAq I.ok.bsz I.ok.above
def Inv.stkSub(I:Inv X f g H s):∀b∈Fm X.stack,b∈X.env.locals::X.fs:=λb a=>by
 rcases I.ok.stk with e|⟨e,c⟩
 ·rw[e] at a;show Qpq _ a
 ·rw[e] at a
  unfold Fm at a
  rw[List.filterMap_cons,c] at a
  show a
def Inv.stkFree(I:Inv X f g H s):∀b∈Fm X.stack,H b=none:=λb a=>by
 rcases Qsq.mp (I.stkSub b a) with e|a
 ·rw[e];show I.free
 ·let#[_,o,c,_]:=I.ok.funs.mem a
  show I.base.free b o c (I.ok.frf b a) λz=>I.ok.exfs b z a
def Inv.step{X:Cx}{f:X2}{g:List (Option V)}{H:Hp}{B:Hp}{s:X4}{h':Xe}{g':Array GenState}{t':Nat}{d':Drawn}{ch:X7}(I:Inv X f g H s)
  (A:∀b∈ch,(b∈X.ex\/X.s₀.heap.objs.size<=b)/\b≠X.env.locals/\(∀x c,X.env.cells.lookup x=some c->c≠b)/\∀p∈X.pn++f,p.1≠b)
  (y:∀b o,b≠X.env.locals->b∉X.fs->b∉ch->s.heap.get? b=some o->H b=none->h'.get? b=some o)
  (G:∀b o,b≠X.env.locals->b∈X.fs->b∉ch->s.heap.get? b=some o->H b=none->∃sl,h'.get? b=some {o with slots:=sl}) (h:∀b o,b∉ch->s.heap.get? b=some o->H b=none->B b=none)
  (K:∀b o,b∉ch->s.heap.get? b=some o->∃o',h'.get? b=some o')
  (R:∀b xs,H b=some (.tup xs)->B b=some (.tup xs)) (P:∀b o u,H b=some (.frz o u)->B b=some (.frz o u)) (S:∀b ps,H b=some (.tbl ps)->∃more,B b=some (.tbl (ps++more)))
  (ns:∀m,s.heap.Ns X.env.locals m->h'.Ns X.env.locals m) (W:n_ X.prog X.w B h') (hg:AllBare g'):
  Inv X f g B {s with heap:=h',gens:=g',drawn:=d',toks:=t'}:=by
 have N:∀b o,X.s₀.heap.get? b=some o->b≠X.env.locals:=λb o e=>Qwq (Qqq (Qiq e) I.ok.above)
 have C:∀b o,X.s₀.heap.get? b=some o->b∉X.ex->b∉ch:=λb o e a J=>by
  rcases(A b J).1 with z|z
  ·show a z
  ·show absurd (Qqq (Qiq e) z)<|Nat.lt_irrefl _
 have j:∀x c,X.env.cells.lookup x=some c->∀v,s.heap.IsCell c v->h'.IsCell c v:=λx c e v qq=>by
  let#[o,M,U]:=qq
  have t:c∉ch:=λz=>(A c z).2.2.1 x c e L
  by_cases hc:c∈X.fs
  ·let#[sl,q]:=G c o (I.cne x c e) hc t M (I.freeC x c e)
   show#[_,q,U]
  ·show#[o,y c o (I.cne x c e) hc t M<|I.freeC x c e,U]
 show#[I.ok,I.os,hg,#[λb o e n J a=>?_,λb o e n J a=>?_,λb o e n a=>?_,λb o e a=>?_,λb xs e=>R b xs<|I.base.tups b xs e,λb o xs e=>P b o xs<|I.base.frzs b o xs e,λb ps e=>?_],?_,λx c e=>?_,?_,λx c e=>?_,λp hp=>?_,W,I.len]
 ·show y b o (N b o e) J (C b o e a) (I.base.keep b o e n J a)<|I.base.free b o e n a
 ·let#[sl,F]:=I.base.slot b o e n J a
  let#[Y,Q]:=G b _ (N b o e) J (C b o e a) F (I.base.free b o e n a)
  show#[Y,Q]
 ·let#[o',F]:=I.base.there b o e a
  show h b o' (C b o e a) F<|I.base.free b o e n a
 ·let#[o',F]:=I.base.there b o e a
  show K b o' (C b o e a) F
 ·let#[m1,F]:=I.base.tbls b ps e
  let#[m2,Q]:=S b _ F
  show#[m1++m2,by rw[Q,Array.append_assoc]]
 ·let#[m,hn,hl]:=I.loc
  show#[m,ns m hn,λi x v F Q e3=>?_]
  let#[u,r,l]:=hl i x v F Q e3
  show#[u,r,?_]
  rcases l with l|⟨k,c,e,z⟩
  ·show .inl l
  ·show .inr #[k,c,e,j x c e _ z]
 ·let#[v,z]:=I.cell x c e
  show#[v,j x c e v z]
 ·let#[m,#[o,_,_,M,_],_]:=I.loc
  show h _ o (λz=>(A _ z).2.1 L) M I.free
 ·let#[v,o,M,U]:=I.cell x c e
  show h c o (λz=>(A c z).2.2.1 x c e L) M<|I.freeC x c e
 ·let#[e,n,Z,nf,d]:=I.pin p hp
  have t:p.1∉ch:=λz=>(A p.1 z).2.2.2 p hp L
  show#[y p.1 p.2 Z nf t e n,h p.1 p.2 t e n,Z,nf,d]
def Inv.un(I:Inv X f g H s)(u:Un X.fs [] H B s.heap h')(i:n_ X.prog X.w B h'):Inv X f g B {s with heap:=h',toks:=t'}:=by
 let#[m,#[o,q,x,j,r],_]:=id I.loc
 let#[sl,l]:=u.any j I.free (by simp)
 show I.step (g':=s.gens) (d':=s.drawn) (ch:= []) (λ_ z=>nomatch z) (λb o _ c _ e n=>u.keep b o e n c (by simp)) (λb o _ c _ e n=>u.slot b o e n c (by simp)) (λb o _ e n=>u.free b o e n (by simp)) (λb o _ e=>u.there b o e (by simp)) u.tups u.frzs u.tbls (λv p=>by
  let#[t,h,d,a,k]:=p
  rw[j] at a;cases a
  show#[_,h,d,l,k]) i I.bare
def Inv.call(I:Inv X f g H s)(u:Un (Fm X.stack) ch H B s.heap h')(l:n_ X.prog X.w B h')(y:AllBare g')
  (h:∀b∈ch,(b∈X.ex\/X.s₀.heap.objs.size<=b)/\b≠X.env.locals/\(∀x c,X.env.cells.lookup x=some c->c≠b)/\∀p∈X.pn++f,p.1≠b):
  Inv X f g B {s with heap:=h',gens:=g',drawn:=d',toks:=t'}:=by
 let#[m,#[o,C,J,q,r],_]:=id I.loc
 let#[sl,j]:=u.any q I.free λz=>(h _ z).2.1 L
 show I.step (ch:=ch) h (λb o j v a e n=>u.keep b o e n (λz=>(Qsq.mp (I.stkSub b z)).elim j v) a) (λb o _ _ a e n=>u.any e n a) (λb o a e n=>u.free b o e n a) (λb o a e=>u.there b o e a) u.tups u.frzs u.tbls (λG A=>by
  let#[F,k,i,d,t]:=A
  rw[q] at d;cases d
  show#[_,k,i,j,t]) l y
def Inv.turned{h':Xe}(I:Inv X f g H s)(k:∀b o,b≠it->s.heap.get? b=some o->h'.get? b=some o)(A:H it=none)(h:it≠X.env.locals)
  (l:it∈X.ex\/X.s₀.heap.objs.size<=it) (i:∀x c,X.env.cells.lookup x=some c->c≠it) (y:∀p∈X.pn++f,p.1≠it):Inv X f g H {s with heap:=h',toks:=t'}:=by
 have d:∀b u,H b=some u->b≠it:=λb u e z=>by rw[z,A] at e;cases e
 show I.step (g':=s.gens) (d':=s.drawn) (ch:= [it]) (λb j=>?_) (λb o _ _ a e _=>k b o (λz=>a (by simp[z])) e) (λb o _ _ a e _=>#[o.slots,k b o (λz=>a (by simp[z])) e]) (λ_ _ _ _ n=>n)
  (λb o a e=>#[o,k b o (λz=>a (by simp[z])) e]) (λ_ _ e=>e) (λ_ _ _ e=>e) (λb G e=>#[(List.toArray []),by rw[e];simp]) (λm C=>?_) (λb u e=>?_) I.bare
 ·have e:b=it:=by simpa using j
  subst e
  show#[l,h,i,y]
 ·let#[o,w,F,t,r]:=C
  show#[o,w,F,k _ o (Ne.symm h) t,r]
 ·show(I.hok b u e).stay (λc v a q=>k c v ?_ q) (λ_ q=>q) λ_ _ q=>q
  rcases a with z|z
  ·rw[z];show d b u e
  ·show d c _ z
def Inv.tok(I:Inv X f g H s)(t:Nat):Inv X f g H {s with toks:=t}:=I.un (h':=s.heap) (t':=t) Un.refl I.hok
def Inv.kept{h':Xe}(I:Inv X f g H s)(k:∀b u,s.heap.get? b=some u->h'.get? b=some u):Inv X f g H {s with heap:=h',toks:=t'}:=I.un (Un.kept k) (I.hok.kept k)
def Inv.laid{h':Xe}(I:Inv X f g H s)(k:∀b u,s.heap.get? b=some u->h'.get? b=some u)(c:s.heap.objs.size<=a)(d:cV X.prog X.w (upd H a o) h' a o):
  Inv X f g (upd H a o) {s with heap:=h',toks:=t'}:=I.un (Un.laid k c<|I.hok.fresh c) (I.hok.laid k c d)
def Inv.write{h':Xe}(I:Inv X f g H s)(d:NB (H x))(he:e=x\/H e=some (.own x))(k:∀b u,b≠e->s.heap.get? b=some u->h'.get? b=some u)(a:∃u,h'.get? e=some u)
  (c:cV X.prog X.w (upd H x o) h' x o):Inv X f g (upd H x o) {s with heap:=h',toks:=t'}:=I.un (Un.write d he k a) (I.hok.write d he k a c)
def Inv.pins_of(I:Inv X f g H s)(h:∀p∈a,s.heap.get? p.1=some p.2/\H p.1=none/\p.1≠X.env.locals/\p.1∉X.fs/\∀v,p.2.data≠.cell v):Inv X a g H s:=
 #[I.ok,I.os,I.bare,I.base,I.loc,I.cell,I.free,I.freeC,λp b=>(mQa.mp b).elim (λz=>I.pin p<|List.mem_append_left _ z) (h p),I.hok,I.len]
def zJ{N:X6}(d:N.Nodup){i j:Nat}{x:Str}(a:N[i]?=some x)(b:N[j]?=some x):i=j:=by
 let#[k,c]:=gQs.mp a
 let#[h,e]:=gQs.mp b
 show(List.getElem_inj d).mp (c.trans e.symm)
def Dq{E:X0}{Q:Unit->Shared->Prop}(I:Inv X f g H s)(hN:X.N.Nodup)(hi:X.N[i]?=some x)(G:Loc X.env.scope x)(r:RelV v u)
  (h:∀s',Inv X f (g.set i<|some v) H s'->(∃a,Heap.SameBut a s.heap s'.heap/\(a=X.env.locals\/X.env.cells.lookup x=some a))->Q () s') (hf:autoParam (X.fn x=true\/X.env.scope.names.lookup x=some .local) cS._auto_1):wpAny M A (storeName X.env x u) Q E s:=by
 let#[m,hn,hl]:=id I.loc
 have a3:(X.env.scope.kind==.class||(X.env.scope.kind==.module&&X.env.locals !=X.env.globals))=false:=by rw[I.ok.kind];rfl
 have R:i<g.length:=by rw[I.len];show(gQs.mp hi).1
 let U:=I.cne
 have t:∀{a:X8} {h':Xe},(∃o,s.heap.get? a=some o/\H a=none)->Heap.SameBut a s.heap h'->n_ X.prog X.w H h':=λ{a h'} ha l b ob e=>by
  let#[_,_,J]:=ha
  show(I.hok b ob e).stay (λc w' F q=>(l.2 c ?_).trans q) (λ_ q=>q) λ_ _ q=>q
  rintro rfl
  rcases F with rfl|F
  ·rw[J] at e;cases e
  ·rw[J] at F;cases F
 rcases G with P|P
 ·show wpAny_storeName_local P hn (λh' a4 l=>?_) a3
  let#[oL,_,_,a5,_]:=id hn
  show h _ #[I.ok,I.os,I.bare,#[λb o e n S G=>?_,λb o e n S G=>?_,I.base.free,λb o e G=>?_,I.base.tups,I.base.frzs,I.base.tbls],#[_,a4,λj y v' C K e3=>?_],λy c e=>?_,I.free,I.freeC,λp hp=>?_,t #[oL,a5,I.free] l,by simpa using I.len] #[_,l,.inl L]
  ·show(l.2 b<|Qwq<|Qqq (Qiq e) I.ok.above).trans (I.base.keep b o e n S G)
  ·let#[sl,C]:=I.base.slot b o e n S G
   show#[sl,(l.2 b<|Qwq<|Qqq (Qiq e) I.ok.above).trans C]
  ·let#[o',C]:=I.base.there b o e G
   show#[o',(l.2 b<|Qwq<|Qqq (Qiq e) I.ok.above).trans C]
  ·by_cases W:j=i
   ·subst W
    rw[hi] at C;cases C
    rw[Qyq R] at K
    cases K
    show#[u,r,.inl #[P,by simp]]
   ·rw[QKq (Ne.symm W)] at K
    let#[u',r',q]:=hl j y v' C K e3
    show#[u',r',?_]
    rcases q with⟨k,e⟩|⟨k,c,e,z⟩
    ·show .inl #[k,?_]
     have:y≠x:=λe=>W (zJ hN C (e▸hi))
     simp[this,e]
    ·show .inr #[k,c,e,z.sameBut l<|U y c e]
  ·let#[w',z]:=I.cell y c e
   show#[w',z.sameBut l<|U y c e]
  ·let#[e,n,ne,nf,d]:=I.pin p hp
   show#[(l.2 p.1 ne).trans e,n,ne,nf,d]
 ·have Y:X.fn x=true:=by
   rcases hf with z|z
   ·show z
   ·rw[z] at P;cases P
  let#[c,F]:=I.ok.has x (.inl P)
  let#[w',z]:=I.cell x c F
  show wpAny_storeName_cell I.ok.kind P F z (λh' a2 l=>?_)
  let#[oc,Z,a0]:=id z
  show h {s with heap:=h'} #[I.ok,I.os,I.bare,#[λb o e n S G=>?_,λb o e n S G=>?_,I.base.free,λb o e G=>?_,I.base.tups,I.base.frzs,I.base.tbls],#[m,hn.sameBut l<|Ne.symm<|U x c F,λj y v' C K e3=>?_],λy c' e=>?_,I.free,I.freeC,λp hp=>?_,t #[oc,Z,I.freeC x c F] l,by simpa using I.len] #[c,l,.inr F]
  ·show(l.2 b<|Qwq<|Qqq (Qiq e)<|I.ok.cab x c Y F).trans (I.base.keep b o e n S G)
  ·let#[sl,C]:=I.base.slot b o e n S G
   show#[sl,(l.2 b<|Qwq<|Qqq (Qiq e)<|I.ok.cab x c Y F).trans C]
  ·let#[o',C]:=I.base.there b o e G
   show#[o',(l.2 b<|Qwq<|Qqq (Qiq e)<|I.ok.cab x c Y F).trans C]
  ·by_cases W:j=i
   ·subst W
    rw[hi] at C;cases C
    rw[Qyq R] at K
    cases K
    show#[u,r,.inr #[.inl P,c,F,a2]]
   ·rw[QKq (Ne.symm W)] at K
    let#[u',r',q]:=hl j y v' C K e3
    show#[u',r',?_]
    rcases q with q|⟨k,c',e,z'⟩
    ·show .inl q
    ·show .inr #[k,c',e,z'.sameBut l ?_]
     rintro rfl
     show W<|zJ hN C (I.ok.inj _ _ _ e F▸hi)
  ·by_cases a1:c'=c
   ·subst a1;show#[_,a2]
   ·let#[w2,z2]:=I.cell y c' e
    show#[w2,z2.sameBut l a1]
  ·let#[e,n,ne,nf,d]:=I.pin p hp
   show#[(l.2 p.1 ?_).trans e,n,ne,nf,d]
   intro q
   rw[q,Z] at e
   have q':oc=p.2:=QdQ e
   show d w' (by rw[<-q'];show a0)
def lq{E:X0}{Q:Unit->Shared->Prop}(I:Inv X f g H s)(c:X.N.Nodup)(hi:X.N[i]?=some x)(d:Loc X.env.scope x)(r:RelV v u)
  (h:∀s',Inv X f (g.set i<|some v) H s'->Q () s') (a:autoParam (X.fn x=true\/X.env.scope.names.lookup x=some .local) cS._auto_1):wpAny M A (storeName X.env x u) Q E s:=
 Dq I c hi d r (λs' b _=>h s' b) a
def Inv.call'{s':X4}(I:Inv X f g H s)(h:s'.os=s.os)(u:Un (Fm X.stack) ch H B s.heap s'.heap)(a:n_ X.prog X.w B s'.heap)(i:AllBare s'.gens)
  (d:∀b∈ch,(b∈X.ex\/X.s₀.heap.objs.size<=b)/\b≠X.env.locals/\(∀x c,X.env.cells.lookup x=some c->c≠b)/\∀p∈X.pn++f,p.1≠b):Inv X f g B s':=by
 let#[h',g',d',t',j]:=s'
 have e:j=s.os:=h
 subst e
 show I.call (g':=g') (t':=t') (d':=d') u a i d
abbrev XK:=Value->Option Addr->Hp->Prop
abbrev St:=List (Option V)
abbrev VK:=V->Hp->Prop
abbrev TE:=St->Hp->VK->Prop
abbrev TT:=St->Hp->(Bool->Hp->Prop)->Prop
abbrev TA:=St->Hp->(List V->Hp->Prop)->Prop
structure Ends where
 nx:St->Hp->Prop
 rt:VK
 bk:St->Hp->Prop:=λ_ _=>False
 ct:St->Hp->Prop:=λ_ _=>False
abbrev TS:=Ends->St->Hp->Prop
def EP(X:Cx)(a:X2)(c:St)(Q:VK)(u:Xd)(s':X4):Prop:=∃v b,Inv X a c b s'/\RelV v u/\Q v b
def TP(X:Cx)(a:X2)(d:St)(Q:Bool->Hp->Prop)(b:Bool)(s':X4):Prop:=∃c,Inv X a d c s'/\Q b c
def AP(X:Cx)(a:X2)(e:St)(Q:List V->Hp->Prop)(d:X5)(s':X4):Prop:=∃b c,Inv X a e c s'/\bL b d/\Q b c
def SP(X:Cx)(b:X2)(D:Ends)(f:Flow)(s':X4):Prop:=
 match f with
 |.next=>∃a c,Inv X b a c s'/\D.nx a c
 |.brk=>∃a c,Inv X b a c s'/\D.bk a c
 |.cont=>∃a c,Inv X b a c s'/\D.ct a c
 |.ret u=>∃v a c,Inv X b a c s'/\RelV v u/\D.rt v c
def PE(X:Cx)(e:Expr)(t:TE):Prop:=
 ∀(a:X2) (s:X4) (b:St) (H:Hp) (Q:VK),Inv X a b H s->t b H Q->wpAny (model X.prog X.w) X.A (eval e X.env) (EP X a b Q) X.xe s
def PT(X:Cx)(e:Expr)(t:TT):Prop:=
 ∀(a:X2) (s:X4) (b:St) (H:Hp) (Q:Bool->Hp->Prop),Inv X a b H s->t b H Q->wpAny (model X.prog X.w) X.A (isTrue e X.env<|eval e X.env) (TP X a b Q) X.xe s
def PW(X:Cx)(e:Expr)(t:TT):Prop:=
 ∀(b:Sem Value) (a:X2) (s:X4) (c:St) (H:Hp) (Q:Bool->Hp->Prop),Inv X a c H s->t c H Q->wpAny (model X.prog X.w) X.A (isTrue e X.env b) (TP X a c Q) X.xe s
def PW.pt(h:PW X e t):PT X e t:=h _
def PA(X:Cx)(es:List Expr)(t:TA):Prop:=
 ∀(b:Pos) (a:X2) (s:X4) (c:St) (H:Hp) (Q:List V->Hp->Prop),Inv X a c H s->t c H Q->wpAny (model X.prog X.w) X.A (spliced<|backTo b<|starEach es X.env) (AP X a c Q) X.xe s
def PS(X:Cx)(st:Stmt)(t:TS):Prop:=
 ∀(a:X2) (s:X4) (b:St) (H:Hp) (D:Ends),Inv X a b H s->t D b H->wpAny (model X.prog X.w) X.A (exec st X.env) (SP X a D) X.xe s
def rq(X:Cx)(st:List Stmt)(t:TS):Prop:=
 ∀(a:X2) (s:X4) (b:St) (H:Hp) (D:Ends),Inv X a b H s->t D b H->wpAny (model X.prog X.w) X.A (execs st X.env) (SP X a D) X.xe s
def cO{Q b:α->Shared->Prop}{E:X0}(h:wpAny M A t Q E s)(c:∀a s,Q a s->b a s):wpAny M A t b E s:=QRq h c λ_ _ x=>x
def KC(i:Nat):TE:=λa H Q=>∃v,a[i]?=some (some v)/\Q v H
def tC(v:V):TE:=λ_ H Q=>Q v H
def Fd{X:Cx}(p:X.N[i]?=some x)(w:Io X.env.scope x)(j:autoParam ((x==("__debug__":Str))=false) cU._auto_1)(k:autoParam ((x==("__classdict__":Str))=false) cU._auto_1):PE X (.Name x f) (KC i):=by
 intro g s o H Q I h
 let#[v,e,h]:=h
 let#[m,q,hl]:=I.loc
 let#[u,r,l]:=hl i x v p e w
 have b:EP X g o Q u s:=#[v,H,I,r,h]
 rcases l with⟨d,t⟩|⟨d,c,n,a⟩
 ·show wpAny_Name (wpAny_loadName_local I.ok.kind d q t b) j
 ·rcases d with d|d
  ·show wpAny_Name (wpAny_loadName_cell I.ok.kind d n a b) j
  ·show wpAny_Name (wpAny_loadName_free I.ok.kind d n a b k) j
def KZ{i j f}:PE X (.Constant (.int i) j f) (tC<|.int i):=λ_ _ _ H _ I h=>wpAny_Constant_int #[.int i,H,I.tok _,#[_,L],h]
def MD{b j f}:PE X (.Constant (.bool b) j f) (tC<|.bl b):=λ_ _ _ H _ I h=>Constant_bool #[.bl b,H,I,L,h]
def KB{j f}:PE X (.Constant .none j f) (tC .non):=λ_ _ _ H _ I h=>Constant_none #[.non,H,I,L,h]
def KN{x j f}:PE X (.Constant (.str x) j f) (tC<|.str x):=λ_ _ _ H _ I h=>Calls.Constant_str #[.str x,H,I.tok _,#[_,L],h]
def Gl(X:Cx)(x:Str):Prop:=X.env.kindOf x=some .globalImplicit
def xJ{E:X0}{Q:X0}(I:Inv X a e H s)(d:Gl X x)(c:X.mg x=some u)(h:Q u s)
  (b:autoParam ((x==("__debug__":Str))=false) cU._auto_1):wpAny (model X.prog X.w) X.A (eval (.Name x f) X.env) Q E s:=
 Calls.Name_function_global I.ok.kind d (Calls.loadGlobal_global (by rw[I.ok.glob];show I.mod.glob.keeps I.bk) c h) b
def jY{E:X0}{Q:X0}(I:Inv X a g H s)(d:Gl X x)(j:X.mg x=none)(k:bootBuiltins x=some u)(h:Q u s)
  (i:autoParam (x≠"__name__") cU._auto_1) (b:autoParam ((x==("__debug__":Str))=false) cU._auto_1):wpAny (model X.prog X.w) X.A (eval (.Name x f) X.env) Q E s:=by
 let#[l,e,c]:=I.mod.blt
 show Calls.Name_function_global I.ok.kind d (Calls.loadGlobal_builtin (by rw[I.ok.glob];show I.mod.glob.keeps I.bk) j (by rw[I.ok.blt];show e.keeps I.bk) ((c x i).trans k) h) b
def BX(c:Gl X x)(b:X.mg x=some u)(r:RelV v u)(a:autoParam ((x==("__debug__":Str))=false) cU._auto_1):PE X (.Name x f) (tC v):=
 λ_ _ _ H _ I h=>xJ I c b #[v,H,I,r,h] a
def Ip(d:Gl X x)(b:X.mg x=none)(c:bootBuiltins x=some u)(r:RelV v u)(e:autoParam (x≠"__name__") cU._auto_1)(a:autoParam ((x==("__debug__":Str))=false) cU._auto_1):PE X (.Name x f) (tC v):=
 λ_ _ _ H _ I h=>jY I d b c #[v,H,I,r,h] e a
def PC(X:Cx)(h:CmpOp)(a b:Expr)(t:TE):Prop:=
 ∀ (c:X2) (s:X4) (g:St) (H:Hp) (Q:VK),Inv X c g H s->t g H Q->
   wpAny (model X.prog X.w) X.A (eval a X.env) (λv e=>wpAny (model X.prog X.w) X.A (eval b X.env) (λu d=>wpAny (model X.prog X.w) X.A (compareOp h v u) (EP X c g Q) X.xe d) X.xe e) X.xe s
def tB(t:TE):TT:=λd H Q=>t d H λx H1=>∃c,x=.bl c/\Q c H1
def EX(h:PC X i a b t)(g:autoParam (behindInMarks i b=false) cY._auto_1):PT X (.Compare a [i] [b] f) (tB t):=by
 intro e s r H Q I n
 show wpAny_isTrue_Compare1 (cO (h e s r H _ I n) λv y g=>cO g λu w j=>cO j λc z ⟨x,H1,l,k,m⟩=>?_) g
 let#[d,rfl,q]:=m
 cases k
 show wpAny_truthy_bool #[H1,l,q]
def Pv(t u:TT):TT:=λd H Q=>t d H λc H1=>if c=true then u d H1 Q else Q false H1
def QF(t u:TT):TT:=λd H Q=>t d H λc H1=>if c=true then Q true H1 else u d H1 Q
def Pe(t:TT):TT:=λd H Q=>t d H λc H1=>Q (!c) H1
def G7(i:PT X a k):PW X (.BoolOp .And [a] f) k:=by
 intro l d s j H Q I h
 show isTrue_and (cO (i d s j H Q I h) λc m e=>?_)
 cases c with
 |true=>show isTrue_and_nil e
 |false=>show e
def Lv(i:PT X a k):PW X (.BoolOp .Or [a] f) k:=by
 intro l d s j H Q I h
 show isTrue_or (cO (i d s j H Q I h) λc m e=>?_)
 cases c with
 |false=>show isTrue_or_nil e
 |true=>show e
def LB(l:PT X a k)(r:PW X (.BoolOp .And (b::g) f) n):PW X (.BoolOp .And (a::b::g) f) (Pv k n):=by
 intro m d s j H Q I h
 show isTrue_and (cO (l d s j H _ I h) λc q t=>?_)
 let#[H1,i,e]:=t
 cases c with
 |true=>show r m d q j H1 Q i e
 |false=>show#[H1,i,e]
def L_(l:PT X a k)(r:PW X (.BoolOp .Or (b::g) f) n):PW X (.BoolOp .Or (a::b::g) f) (QF k n):=by
 intro m d s j H Q I h
 show isTrue_or (cO (l d s j H _ I h) λc q t=>?_)
 let#[H1,i,e]:=t
 cases c with
 |true=>show#[H1,i,e]
 |false=>show r m d q j H1 Q i e
def Kv(e:PT X a k):PT X (.UnaryOp .Not a f) (Pe k):=by
 intro d s i H Q I h
 show isTrue_not<|e d s i H (λc H1=>Q (!c) H1) I h
def N1(p o:TE):TE:=λd H Q=>p d H λx H1=>∃c,x=.bl c/\if c=true then o d H1 Q else Q (.bl false) H1
def LD{op}{t:TE}(h:PE X a t):PE X (.BoolOp op [a] f) t:=λc s e H Q I d=>BoolOp_one (h c s e H Q I d)
def Lk(t:PE X a p)(m:PE X (.BoolOp .And (b::g) f) o):PE X (.BoolOp .And (a::b::g) f) (N1 p o):=by
 intro d s j H Q I h
 show BoolOp_and (cO (t d s j H _ I h) λv q r=>?_)
 let#[x,H1,i,l,e]:=r
 let#[c,rfl,e]:=e
 cases l
 show wpAny_truthy_bool ?_
 cases c with
 |true=>show m d q j H1 Q i e
 |false=>show#[.bl false,H1,i,L,e]
def QG(t:TT)(p o:TE):TE:=λd H Q=>t d H λc H1=>if c=true then p d H1 Q else o d H1 Q
def F8(u:PT X c k)(q:PE X a p)(r:PE X b o):PE X (.IfExp c a b f) (QG k p o):=by
 intro e s i H Q I h
 show wpAny_IfExp (cO (u e s i H _ I h) λd l t=>?_)
 let#[H1,m,j]:=t
 cases d with
 |true=>show q e l i H1 Q m j
 |false=>show r e l i H1 Q m j
def iX(K:X1)(H:Hp)(a:X8)(xs:List V):Prop:=
 Rd H a (.lst xs)∨
  ∃(o:Obj) (b:Xa) (n:Nat),K.lookup a=some o/\o.cls=.type "list" /\o.dict=none/\o.data=.seq b n/\b.size<=sizeLine/\bL xs b.toList
def gV(K:X1)(H:Hp)(a:X8)(xs:List V):Prop:=
 Rd H a (.tup xs)∨
  ∃(o:Obj) (b:Xa) (n:Nat),K.lookup a=some o/\o.cls=.type "tuple" /\o.data=.seq b n/\b.size<=sizeLine/\bL xs b.toList
noncomputable def ON:Value->Option V
 |.none=>some .non
 |.bool b=>some (.bl b)
 |.int i _=>some (.int i)
 |.str x _=>some (.str x)
 |.bytes b _=>some (.byt b)
 |.float b _=>some (.flt b)
 |.ref a=>some (.ref a)
 |.type n=>some (.ty n)
 |_=>none
def RelV.abs(r:RelV x u):ON u=some x:=by
 cases x with
 |non=>cases r;rfl
 |bl _=>cases r;rfl
 |int _=>let#[t,rfl]:=r;rfl
 |str _=>let#[t,rfl]:=r;rfl
 |byt _=>let#[t,rfl]:=r;rfl
 |flt _=>let#[t,rfl]:=r;rfl
 |ref _=>cases r;rfl
 |ty _=>cases r;rfl
def RelV.inj(r:RelV x u)(q:RelV y u):x=y:=QdQ (r.abs.symm.trans q.abs)
theorem bL.inj:∀{xs ys:List V} {a:X5},bL xs a->bL ys a->xs=ys
 |_,_,_,.nil,.nil=>rfl
 |_,_,_,.cons r t,.cons r' t'=>by rw[r.inj r',bL.inj t t']
def iX.of{H:Hp}{a:X8}{xs:List V}{K:X1}(h:H a=some (.lst xs)):iX K H a xs:=.inl (.inl h)
def gV.of{H:Hp}{a:X8}{xs:List V}{K:X1}(h:H a=some (.tup xs)):gV K H a xs:=.inl (.inl h)
def Inv.list(I:Inv X b c H s)(h:iX X.K H a xs):∃d:List Value,bL xs d/\PlainL s.heap a d.toArray/\xs.length<=sizeLine:=by
 rcases h with h|⟨o,d,n,g,j,f,i,k,r⟩
 ·let#[z,d,n,r,e]:=h.ok I.hok
  show#[d,r,#[_,n,e,L,L,L],z]
 ·show#[d.toList,r,#[o,n,I.kIn a o g,j,f,by simpa using i],?_]
  let e:=r.length
  erw[Array.length_toList] at e
  omega
def Inv.tuple(I:Inv X b c H s)(h:gV X.K H a xs):∃d:List Value,bL xs d/\IsTup s.heap a d.toArray/\xs.length<=sizeLine:=by
 rcases h with h|⟨o,d,n,f,i,g,j,r⟩
 ·let#[z,d,r,p]:=h.ok I.hok
  show#[d,r,p.it,z]
 ·show#[d.toList,r,#[o,I.kIn a o f,i,n,by simpa using g],?_]
  let e:=r.length
  erw[Array.length_toList] at e
  omega
def Inv.list_inj(I:Inv X b c H s)(h:iX X.K H a xs)(h':iX X.K H a ys):xs=ys:=by
 let#[g,r,#[o,n,e,_,_,d],_]:=I.list h
 let#[f,k,#[p,m,j,_,_,i],_]:=I.list h'
 rw[e] at j;cases j
 rw[d] at i
 injection i with l _
 have:g=f:=by simpa using congrArg Array.toList l
 subst this
 show r.inj k
def Inv.tuple_inj(I:Inv X b c H s)(h:gV X.K H a xs)(h':gV X.K H a ys):xs=ys:=by
 let#[g,r,#[o,e,_,n,d],_]:=I.tuple h
 let#[f,k,#[p,j,_,m,i],_]:=I.tuple h'
 rw[e] at j;cases j
 rw[d] at i
 injection i with l _
 have:g=f:=by simpa using congrArg Array.toList l
 subst this
 show r.inj k
noncomputable abbrev Cx.wish(X:Cx)(E:X0):Cx:={X with xe:=E}
noncomputable abbrev Cx.nox(X:Cx):Cx:=X.wish λ_ _=>False
def Cx.Ok.wish{X:Cx}(ok:X.Ok)(E:X0):(X.wish E).Ok:=
 #[ok.mod,ok.kind,ok.glob,ok.blt,ok.above,ok.inj,ok.has,ok.cab,ok.hd,ok.frames,ok.stk,ok.exf,ok.bs,ok.bsz,ok.noex,ok.exfs,ok.funs,ok.frf]
def Cx.Ok.unwish{X:Cx}{E:X0}(ok:(X.wish E).Ok):X.Ok:=
 #[ok.mod,ok.kind,ok.glob,ok.blt,ok.above,ok.inj,ok.has,ok.cab,ok.hd,ok.frames,ok.stk,ok.exf,ok.bs,ok.bsz,ok.noex,ok.exfs,ok.funs,ok.frf]
def Inv.wish(I:Inv X a b H s)(E:X0):Inv (X.wish E) a b H s:=#[I.ok.wish E,I.os,I.bare,I.base,I.loc,I.cell,I.free,I.freeC,I.pin,I.hok,I.len]
def Inv.unwish{X:Cx}{E:X0}(I:Inv (X.wish E) a b H s):Inv X a b H s:=#[I.ok.unwish,I.os,I.bare,I.base,I.loc,I.cell,I.free,I.freeC,I.pin,I.hok,I.len]
theorem SP.unwish{X:Cx}{E:X0}{D:Ends}(h:SP (X.wish E) a D f s'):SP X a D f s':=by
 cases f with
 |next=>let#[c,d,I,q]:=h;show#[c,d,I.unwish,q]
 |brk=>let#[c,d,I,q]:=h;show#[c,d,I.unwish,q]
 |cont=>let#[c,d,I,q]:=h;show#[c,d,I.unwish,q]
 |ret u=>let#[v,c,d,I,r,q]:=h;show#[v,c,d,I.unwish,r,q]
def rq.nox{X:Cx}{st:List Stmt}{t:TS}(h:rq X.nox st t):rq X st t:=λa s b H D I c=>
 QRq (h a s b H D (I.wish _) c) (λ_ _ q=>q.unwish) λ_ _ z=>False.elim z
def Nv:TS:=λD a H=>D.nx a H
def Pf(t u:TS):TS:=λD a H=>t {D with nx:=u D} a H
def GU:rq X [] Nv:=λ_ _ a H _ I h=>wpAny_execs_nil #[a,H,I,h]
def FW{X:Cx}{st:Stmt}{j:List Stmt}{t:TS}{u:TS}(d:PS X st t)(c:rq X j u):rq X (st::j) (Pf t u):=by
 intro a s n H D I h
 show wpAny_execs_cons (cO (d a s n H {D with nx:=u D} I h) λf l q=>?_)
 cases f with
 | next=>
   let#[b,m,k,q]:=q
   show c a l b m D k q
 |ret v=>show q
 |brk=>show q
 |cont=>show q
def HP{X:Cx}{st:Stmt}{t:TS}(b:PS X st t):rq X [st] t:=by
 intro a s c H D I h
 show wpAny_execs_cons (cO (b a s c H D I h) λf d q=>?_)
 cases f with
 |next=>show wpAny_execs_nil q
 |ret v=>show q
 |brk=>show q
 |cont=>show q
def Inv.quiet(I:Inv X a b H s):interactive X.env=false:=by simp[interactive,I.ok.kind]
def ML(i:TE):TS:=λD a H=>i a H λ_ H1=>D.nx a H1
def Hm{g:Pos}(he:PE X e i)(d:autoParam (swapsWith e none g.line X.env=pure false) db._auto_1):PS X (.Expr e g) (ML i):=by
 intro a s b H D I h
 show wpAny_Expr_any (cO (he a s b H _ I h) λv l ⟨x,H1,f,k,c⟩=>#[b,H1,f,c]) I.quiet d
def OD(i:TE):TS:=λD a H=>i a H D.rt
def Ga(he:PE X e i):PS X (.Return (some e) g) (OD i):=by
 intro a s b H D I h
 show wpAny_Return_some (cO (he a s b H _ I h) λv k ⟨x,H1,f,c,d⟩=>#[x,b,H1,f,c,d])
def O_(c:TT)(t u:TS):TS:=λD a H=>c a H λb H1=>if b=true then t D a H1 else u D a H1
def Mf(v:PT X c m)(r:rq X a t)(p:rq X b u):PS X (.If c a b g) (O_ m t u):=by
 intro f s k H D I h
 show wpAny_If (cO (v f s k H _ I h) λd o q=>?_)
 let#[H1,l,n]:=q
 cases d with
 |true=>show r f o k H1 D l n
 |false=>show p f o k H1 D l n
def KE:TS:=λ_ _ _=>False
def Ed{X:Cx}{st:Stmt}:PS X st KE:=λ_ _ _ _ _ _ h=>h.elim
abbrev TG:=V->St->Hp->(St->Hp->Prop)->Prop
abbrev Hh:=List V->St->Hp->(St->Hp->Prop)->Prop
def PG(X:Cx)(a:Expr)(t:TG):Prop:=
 ∀ (b:X2) (s:X4) (e:St) (H:Hp) (v:V) (u:Xd) (Q:St->Hp->Prop),Inv X b e H s->RelV v u->t v e H Q->
   wpAny (model X.prog X.w) X.A (assign a X.env u) (λ_ f=>∃c d,Inv X b c d f/\Q c d) X.xe s
def GN(X:Cx)(ts:List Expr)(t:Hh):Prop:=
 ∀ (a:X2) (s:X4) (f:St) (H:Hp) (d:List V) (c:X5) (Q:St->Hp->Prop),Inv X a f H s->bL d c->t d f H Q->
   wpAny (model X.prog X.w) X.A (assignInOrder ((assignEach ts X.env).map (·.2)) c) (λ_ g=>∃b e,Inv X a b e g/\Q b e) X.xe s
abbrev J9:=V->V->V->Hp->(Hp->Prop)->Prop
def MX(X:Cx)(t:J9):Prop:=
 ∀ (a:X2) (s:X4) (e:St) (H:Hp) (o i v:V) (d b u:Xd) (Q:Hp->Prop),Inv X a e H s->RelV o d->RelV i b->RelV v u->t o i v H Q->
   wpAny (model X.prog X.w) X.A (setItem d b u) (λ_ f=>∃c,Inv X a e c f/\Q c) X.xe s
abbrev Of:=V->V->Hp->VK->Prop
def P0(X:Cx)(c:Operator)(t:Of):Prop:=
 ∀ (a:X2) (s:X4) (b:St) (H:Hp) (x y:V) (v u:Xd) (Q:VK),Inv X a b H s->RelV x v->RelV y u->t x y H Q->
   wpAny (model X.prog X.w) X.A (inplaceOp c v u) (EP X a b Q) X.xe s
def oq(i:Nat):TG:=λv a H Q=>Q (a.set i<|some v) H
def xx{X:Cx}(e:X.N.Nodup)(hi:X.N[i]?=some x)(f:Loc X.env.scope x)(b:autoParam (X.fn x=true\/X.env.scope.names.lookup x=some .local) cS._auto_1):PG X (.Name x d) (oq i):=by
 intro a s j H v u Q I r h
 show wpAny_assign_Name<|lq I e hi f r (λg c=>#[_,H,c,h]) b
def PH:Hh:=λb a H Q=>b= []/\Q a H
def MG(t:TG)(u:Hh):Hh:=λb e H Q=>∃v r,b=v::r/\t v e H λa c=>u r a c Q
def GY:GN X [] PH:=by
 intro a s b H f c Q I r h
 let#[e,h]:=h
 subst e
 cases r
 show assignInOrder_nil #[b,H,I,h]
def Gn(i:PG X e t)(c:GN X es u)
  (l:autoParam ((assignEach (e::es) X.env).map (·.2)=assign e X.env::(assignEach es X.env).map (·.2)) db._auto_1):GN X (e::es) (MG t u):=by
 intro a s n H p w Q I r h
 let#[v,q,o,h]:=h
 subst o
 cases r with
 | cons r j=>
   rw[l]
   show assignInOrder_cons (cO (i a s n H _ _ _ I r h) λ_ k m=>?_)
   let#[b,H1,f,g]:=m
   show c a k b H1 _ _ Q f j g
def O0(K:X1)(n:Nat)(t:Hh):TG:=λv c H Q=>∃a b,v=.ref a/\gV K H a b/\b.length=n/\t b c H Q
def Kr{X:Cx}(B:X.calm=true)(h:GN X es t)
  (y:autoParam ((assignEach es X.env).length=n) db._auto_1) (f:autoParam ((assignEach es X.env).findIdx? (·.1)=none) db._auto_1):PG X (.Tuple es k d) (O0 X.K n t):=by
 intro c s j H v u Q I r g
 let#[a,x,A,q,hl,g]:=g
 subst A
 cases r
 let#[w,i,l,C]:=I.tuple q
 show assign_Tuple_tuple (I.ok.hd B) l (by simp[y,<-hl,i.length]) f λp z=>?_
 have m:Inv X c j H {s with heap:=p}:=I.kept (t':=s.toks) λb o e=>z b o (Qwq<|Qiq e) e
 show h c _ j H x _ Q m (by simpa using i) g
def M3(c b:TE)(t:J9):TG:=λv a H Q=>c a H λo H1=>b a H1 λi H2=>t o i v H2 λH3=>Q a H3
def J1(z:PE X o g)(hi:PE X i j)(B:MX X t)
  (F:autoParam (∀v,assign (.Subscript o i d) X.env v=(do
   let b<-holding [v] (eval o X.env)
   let e<-holding [v,b] (eval i X.env)
   standAt d
   holding [v,b,e] (setItem b e v)
   release [v,b,e] [])) dl._auto_1):PG X (.Subscript o i d) (M3 g j t):=by
 intro a s f H v u Q I r h
 rw[F]
 show Qaq<|QLq (cO (z a s f H _ I h) λb A c=>?_)
 let#[x,H1,l,k,p]:=c
 show Qaq<|QLq (cO (hi a A f H1 _ l p) λe n c=>?_)
 let#[y,H2,w,C,G]:=c
 show Qaq<|wpAny_standAt<|Qaq<|QLq (cO (B a n f H2 x y v b e u _ w k C r G) λ_ J c=>?_)
 let#[H3,m,q]:=c
 show wpAny_release #[f,H3,m,q]
def Dm(b:TE)(g:TG):TS:=λD a H=>b a H λx H1=>g x a H1 D.nx
def Lb{d:Pos}(he:PE X e c)(j:PG X b g)(p:autoParam (swapsWithSole [b] e d.line X.env=pure false) db._auto_1)(n:autoParam (swappedStores [b] e X.env=pure none) db._auto_1)
  (m:autoParam ((assignEach [b] X.env).map (·.2)= [assign b X.env]) db._auto_1):PS X (.Assign [b] e d) (Dm c g):=by
 intro a s f H D I h
 show wpAny_Assign_stores (cO (he a s f H _ I h) λv o ⟨x,H1,k,i,l⟩=>?_) p n
 rw[m]
 show cO (j a o f H1 x v _ k i l) λ_ r q=>q
def Ki{X:Cx}{d:Pos}(o:X.N.Nodup)(hi:X.N[i]?=some x)(p:Loc X.env.scope x)(he:PE X e c)(m:autoParam (swapsWith e (some<|.Name x a) d.line X.env=pure false) db._auto_1)(l:autoParam (X.fn x=true\/X.env.scope.names.lookup x=some .local) cS._auto_1):
  PS X (.Assign [.Name x a] e d) (Dm c<|oq i):=by
 intro b s n H D I h
 show wpAny_Assign_Name (cO (he b s n H _ I h) λv r ⟨y,H1,g,f,j⟩=>?_) m
 show lq g o hi p f (λq k=>#[_,H1,k,j]) l
def MA(i j:Nat)(c:TA):TS:=λD a H=>c a H λb H1=>∃v w,b= [v,w]/\D.nx ((a.set i<|some v).set j (some w)) H1
def xU{X:Cx}{d:Pos}{i j:Nat}{x y:Str}{a b:Expr}{B:TA}{m u r:Pos}{kt k2 pt2}(hc:X.calm=true)(J:X.N.Nodup)(hi:X.N[i]?=some x)(hj:X.N[j]?=some y)(n:i≠j)
  (F:X.env.scope.names.lookup x=some .local) (C:X.env.scope.names.lookup y=some .local) (ha:PA X [a,b] B)
  (S:swappedStores [.Tuple [.Name x m,.Name y u] kt r] (.Tuple [a,b] k2 pt2) X.env=pure (some [x,y]))
  (U:autoParam (swapsWithSole [.Tuple [.Name x m,.Name y u] kt r] (.Tuple [a,b] k2 pt2) d.line X.env=pure false) db._auto_1):
  PS X (.Assign [.Tuple [.Name x m,.Name y u] kt r] (.Tuple [a,b] k2 pt2) d) (MA i j B):=by
 intro c s G H D I h
 rw[exec_Assign_arm]
 show Qaq<|wpAny_standAt ?_
 rw[U]
 show Qaq<|Qgq ?_
 rw[Quq (!1)]
 show Qaq<|Tuple_ (cO (ha _ c s G H _ I h) λY k W=>?_)
 let#[vs,H1,P,K,t]:=W
 let#[v,w,Z,t]:=t
 subst Z
 obtain⟨g,f,rfl,rv,rw'⟩:∃g f,Y= [g,f]/\RelV v g/\RelV w f:=by
  cases K with
  | cons p q=>
    cases q with
    | cons p' q'=>
      cases q'
      show#[_,_,L,p,p']
 show QhQ ?_ (by show 2<=_;decide)
 have R:Inv X c G H1 {k with heap:=k.heap.push {cls:=.type "tuple",data:=.seq [g,f].toArray}}:=P.kept (t':=k.toks) λb o e=>Qcq _ e
 rw[S]
 show Qaq<|Qgq ?_
 show wpAny (model X.prog X.w) X.A (do rule "assign.swapped-stores";let items<-unpackItems (.ref k.heap.objs.size) 2 none;assignInOrder [λv=>bindName X.env y v,λv=>bindName X.env x v] items.reverse;pure Flow.next) _ _ _
 show Qaq<|wpAny_rule<|Qaq (unpackItems_tuple (items:= (List.toArray [g,f])) (I.ok.hd hc) (IsTup.new k.heap _) λh' l=>?_)
 let Q:=R.kept (h':=h') (t':=k.toks) λb o e=>l b o (Qwq<|Qiq e) e
 show wpAny _ _ (assignInOrder [λv=>bindName X.env y v,λv=>bindName X.env x v] [f,g] >>= λ_=>pure Flow.next) _ _ _
 show Qaq<|assignInOrder_cons<|wpAny_bindName<|lq Q J hj (.inl C) rw' (λs2 M=>?_)<|.inr C
 show assignInOrder_cons<|wpAny_bindName<|lq M J hi (.inl F) rv (λs3 z=>assignInOrder_nil<|Qgq ?_)<|.inr F
 rw[List.set_comm _ _ (Ne.symm n)] at z
 show#[_,H1,z,t]
def Pw(i:Nat)(c:TE)(b:Of):TS:=λD a H=>∃x,a[i]?=some (some x)/\c a H λy H1=>b x y H1 λz H2=>D.nx (a.set i<|some z) H2
def Ko{X:Cx}(Y:X.N.Nodup)(hi:X.N[i]?=some x)(p:Loc X.env.scope x)(he:PE X e B)(U:P0 X q F)(S:autoParam (X.fn x=true\/X.env.scope.names.lookup x=some .local) cS._auto_1):
  PS X (.AugAssign (.Name x g) q e d) (Pw i B F):=by
 intro a s C H D I h
 let#[v,e1,h]:=h
 let#[m,Z,hl]:=I.loc
 have t:Io X.env.scope x:=by rcases p with k|k;show .inl k;show .inr (.inl k)
 let#[u,r,l]:=hl i x v hi e1 t
 show wpAny_AugAssign_Name ?_
 have G:wpAny (model X.prog X.w) X.A (eval e X.env) (λw n=>wpAny (model X.prog X.w) X.A (inplaceOp q u w) (λr j=>wpAny (model X.prog X.w) X.A (storeName X.env x r) (λ_=>SP X a D .next) X.xe j) X.xe n) X.xe s:=by
  show cO (he a s C H _ I h) λw W o=>?_
  let#[y,H1,K,J,P]:=o
  show cO (U a W C H1 v y u w _ K r J P) λz s2 o=>?_
  let#[zv,H2,R,r2,q2]:=o
  show lq R Y hi p r2 (λs3 M=>#[_,H2,M,q2]) S
 rcases l with⟨b,hm⟩|⟨b,c,Q,f⟩
 ·show wpAny_loadName_local I.ok.kind b Z hm G
 ·rcases b with b|b
  ·show wpAny_loadName_cell I.ok.kind b Q f G
  ·rcases p with k|k
   ·have:X.env.scope.names.lookup x=some .free:=b
    rw[k] at this;cases this
   ·have:X.env.scope.names.lookup x=some .free:=b
    rw[k] at this;cases this
def QC(f:Int->Int->Int):Of:=λx y H Q=>∃i j,x=.int i/\y=.int j/\Q (.int (f i j)) H
def JS:P0 X .Add (QC λi j=>i+j):=by
 intro a s k H x y v u Q I b e h
 let#[i,j,f,c,q]:=h
 subst f;subst c
 let#[t,rfl]:=b
 let#[g,rfl]:=e
 show iadd_int #[.int _,H,I.tok _,#[_,L],q]
def KD(c:TT)(h:TS):TS:=λD d H=>∃W:Nat->St->Hp->Prop,(∃m,W m d H)/\∀m d H,W m d H->
 c d H λb H1=>if b=true then∃N:St->Hp->Prop,(∀e g,N e g->∃f,f<m/\W f e g)/\h {D with nx:=N,ct:=N,bk:=D.nx} d H1 else D.nx d H1
def Gu{X:Cx}(z:PassesOwn (model X.prog X.w) X.A X.env X.xe)(Y:PT X c u)(J:rq X i y):PS X (.While c i [] a) (KD u y):=by
 intro e s U H D I h
 let#[W,#[P,Q],k]:=h
 show wpAny_While<|codeAny_whileLoop (λn F=>∃j B,Inv X e j B F/\W n j B) ?_ P #[U,H,I,Q]
 rintro n R ⟨g,H1,K,G⟩
 show wpAny_passesOwn z (cO (Y e R g H1 _ K<|k n g H1 G) λb M S=>?_)
 let#[H2,x,m]:=S
 cases b with
 | true=>
   let#[N,C,m]:=m
   rw[Qhq L]
   show wpAny_passesOwn z (cO (J e M g H2 _ x m) λf Z l=>?_)
   cases f with
   | next=>
     let#[d,H3,q,p]:=l
     let#[r,t,o]:=C d H3 p
     show#[r,t,d,H3,q,o]
   | cont=>
     let#[d,H3,q,p]:=l
     let#[r,t,o]:=C d H3 p
     show#[r,t,d,H3,q,o]
   |brk=>show l
   |ret v=>show l
 | false=>
   rw[Quq Qtq]
   show wpAny_execs_nil #[g,H2,x,m]
structure It where
 go:Nat->Hp->Prop
 yld:Nat->Hp->V->Hp->Prop
 stop:Nat->Hp->Prop
def p0(X:Cx)(a:X2)(H:Hp)(b:X8):Prop:=
 H b=none/\b≠X.env.locals/\b∉X.fs/\(b∈X.ex\/X.s₀.heap.objs.size<=b)/\(∀x c,X.env.cells.lookup x=some c->c≠b)/\∀p∈X.pn++a,p.1≠b
def Inv.fpOk{H f:Hp}(I:Inv X a h H s)(d:s.heap.objs.size<=b)(i:f b=none):p0 X a f b:=by
 show#[i,Nat.ne_of_gt<|Qqq I.lt d,I.nofs d,.inr (QAq I.sz d),λx c e z=>?_,λp g z=>?_]
 ·let#[v,q]:=I.cell x c e
  show absurd (Qqq q.lt (by rw[z];show d))<|Nat.lt_irrefl _
 ·show absurd (Qqq (Qiq (I.pin p g).1) (by rw[z];show d))<|Nat.lt_irrefl _
structure Turn(P:X9)(w:Xc)(K:X1)(tg:Expr)(J:It)(fp:X7)(it:X8)(tn:Nat->Heap->Prop):Prop where
 mem:it∈fp
 obj:∀i h,tn i h->∀b∈fp,∃o,h.get? b=some o/\∀v,o.data≠.cell v
 keep:∀i h h',tn i h->(∀b∈fp,∀o,h.get? b=some o->h'.get? b=some o)->tn i h'
 item:∀(X:Cx),X.prog=P->X.w=w->X.K=K->X.calm=true->∀(i:Nat) (pins:X2) (s:X4) (σ:St) (H:Hp) (E:X0),Inv X pins σ H s->(∀b∈fp,p0 X pins H b)->tn i s.heap->J.go i H->
  wpAny (model P w) X.A (pyNext (.ref it)) (λr s1=>∃u,r=some u∧
   wpAny (model P w) X.A (letOwnedTupleGo tg (.ref it) u) (λ_ s2=>∃x H',Inv X pins σ H' s2/\RelV x u/\J.yld i H x H'/\tn (i+1) s2.heap/\∀b∈fp,H' b=none) E s1) E s
 done:∀(X:Cx),X.prog=P->X.w=w->X.K=K->X.calm=true->∀(i:Nat) (pins:X2) (s:X4) (σ:St) (H:Hp) (E:X0),Inv X pins σ H s->(∀b∈fp,p0 X pins H b)->tn i s.heap->J.stop i H->
  wpAny (model P w) X.A (pyNext<|.ref it) (λr s1=>r=none/\Inv X pins σ H s1) E s
 self:∀(A:X_) (i:Nat) (s:X4) (Q:X0) (E:X0),tn i s.heap->Q (.ref it) s->wpAny (model P w) A (pyIter<|.ref it) Q E s
abbrev TI:=St->Hp->(It->Hp->Prop)->Prop
def P5(X:Cx)(a:X2)(j:St)(i:Expr)(R:It->Hp->Prop)(c:Xd)(g:X4):Prop:=
 ∃(e:X8) (h:X7) (f:Nat->Heap->Prop) (J:It) (d:Hp),c=.ref e/\Inv X a j d g/\Turn X.prog X.w X.K i J h e f/\f 0 g.heap/\(∀b∈h,p0 X a d b)/\R J d
def PI(X:Cx)(e b:Expr)(d:TI):Prop:=
 ∀ (a:X2) (s:X4) (c:St) (H:Hp) (R:It->Hp->Prop),Inv X a c H s->d c H R->
   wpAny (model X.prog X.w) X.A (eval b X.env) (λv f=>wpAny (model X.prog X.w) X.A (pyIter v) (P5 X a c e R) X.xe f) X.xe s
def FV{E:X0}{s:X4}{Q:Unit->Shared->Prop}(d:s.heap.get? it=some o)(e:o.cls=.type n)(c:o.data=.fields vs)
    (f: ["enumerate","zip","dict_itemiterator","dict_reverseitemiterator","odict_iterator","itertools.zip_longest","itertools.pairwise"].contains n=false) (a:Q () s):wpAny M A (letOwnedTupleGo b (.ref it) u) Q E s:=by
  unfold letOwnedTupleGo
  cases b <;>first
    |show Qgq a
    |(cases u <;>first
        |show Qgq a
        |(show Qaq (wpAny_load d ?_)
          rw[e,c]
          show wpAny M A (if (["enumerate","zip","dict_itemiterator","dict_reverseitemiterator","odict_iterator","itertools.zip_longest","itertools.pairwise"].contains n&&vs[0]? ==some (rawInt _))=true then _ else _) Q E s
          rw[Quq (by intro h;rw[f,Bool.false_and] at h;cases h)]
          show Qgq a))
noncomputable def Qe(K:X1)(a:X8):It:=
 #[λi H=>∃b x,iX K H a b/\b[i]?=some x,λi H x c=>c=H/\∀b,iX K H a b->b[i]?=some x,λi H=>∃b,iX K H a b/\b.length<=i]
noncomputable def Qc(K:X1)(a:X8):It:=
 #[λi H=>∃b x,gV K H a b/\b[i]?=some x,λi H x c=>c=H/\∀b,gV K H a b->b[i]?=some x,λi H=>∃b,gV K H a b/\b.length<=i]
noncomputable def MP(lo:Int)(n:Nat):It:=#[λi _=>i<n,λi H x a=>a=H/\x=.int (lo+i),λi _=>n<=i]
def CV{P:X9}{w:Xc}{K:X1}{tg:Expr}(a it:X8):Turn P w K tg (Qe K a) [it] it (λi h=>h.IsListIter it a i) where
 mem:=by simp
 obj:=λi h f b j=>by
  have e:b=it:=by simpa using j
  subst e
  let#[o,e,c,d]:=f
  show#[o,e,λv z=>by rw[d] at z;cases z]
 keep:=λi h m f k=>f.at λo e=>k it (by simp) o e
 item:=by
  intro X N F B S i g s R H E I q f r
  subst N F B
  let#[xs,x,n,J]:=r
  let#[A,C,p,Z]:=I.list n
  let#[u,hu,ru]:=C.get J
  let#[t,y,f2,Q,M,G]:=q it (by simp)
  show wpAny_pyNext_list_item f p.isList (x:=u) (by simpa using hu) λm l sb=>?_
  have U:Inv X g R H {s with heap:=m}:=I.turned (t':=s.toks) (λb o j e=>(sb.2 b j).trans e) t y Q M G
  let#[o,e,c,d]:=id l
  show#[u,L,FV (s:={s with heap:=m}) e c d (!1) #[x,H,U,ru,#[L,λys hy=>by rw[I.list_inj hy n];show J],l,λb j=>(q b j).1]]
 done:=by
  intro X N F B S i g s R H E I q f r
  subst N F B
  let#[xs,n,J]:=r
  let#[A,C,p,Z]:=I.list n
  let#[t,y,f2,Q,M,G]:=q it (by simp)
  let hl:=C.length
  show wpAny_pyNext_list_end (I.ok.hd S) f p.isList (by simp;omega) λm Y=>#[L,I.turned (t':=s.toks) (λb o j e=>Y b o j e) t y Q M G]
 self:=λ_ _ _ _ _ f h=>wpAny_pyIter_listiter f h
def Br{P:X9}{w:Xc}{K:X1}{tg:Expr}(a it:X8):Turn P w K tg (Qc K a) [it] it (λi h=>h.IsTupleIter it a i) where
 mem:=by simp
 obj:=λi h f b j=>by
  have e:b=it:=by simpa using j
  subst e
  let#[o,e,c,d]:=f
  show#[o,e,λv z=>by rw[d] at z;cases z]
 keep:=λi h n f k=>f.at λo e=>k it (by simp) o e
 item:=by
  intro X N F B S i g s R H E I r f t
  subst N F B
  let#[xs,x,q,J]:=t
  let#[l,C,p,Z]:=I.tuple q
  let#[u,hu,ru]:=C.get J
  let#[y,A,f2,Q,M,G]:=r it (by simp)
  show wpAny_pyNext_tuple_item f (show s.heap.IsTuple a l.toArray from p) (x:=u) (by simpa using hu) λn m sb=>?_
  have U:Inv X g R H {s with heap:=n}:=I.turned (t':=s.toks) (λb o j e=>(sb.2 b j).trans e) y A Q M G
  let#[o,e,c,d]:=id m
  show#[u,L,FV (s:={s with heap:=n}) e c d (!1) #[x,H,U,ru,#[L,λys hy=>by rw[I.tuple_inj hy q];show J],m,λb j=>(r b j).1]]
 done:=by
  intro X N F B S i g s R H E I r f t
  subst N F B
  let#[xs,q,J]:=t
  let#[l,C,p,Z]:=I.tuple q
  let#[y,A,f2,Q,M,G]:=r it (by simp)
  let hl:=C.length
  show wpAny_pyNext_tuple_end (I.ok.hd S) f (show s.heap.IsTuple a l.toArray from p) (by simp;omega) λn Y=>#[L,I.turned (t':=s.toks) (λb o j e=>Y b o j e) y A Q M G]
 self:=λ_ _ _ _ _ f h=>wpAny_pyIter_tupleiter f h
def Ak{P:X9}{w:Xc}{K:X1}{Q:Expr}(it:X8)(lo:Int)(n:Nat):Turn P w K Q (MP lo n) [it] it (λi h=>IsRangeIter h it (lo+(i:Nat)*1) ((n:Int)-(i:Nat)) 1) where
 mem:=by simp
 obj:=λi h a b d=>by
  have e:b=it:=by simpa using d
  subst e
  show⟨_,a,λv z=>by
   have G:Data.fields _=Data.cell v:=z
   cases G⟩
 keep:=λi h g a k=>k it (by simp) _ a
 item:=by
  intro X A u q r i c s F H E I j a l
  subst A u q
  let#[m,p,R,B,y,x]:=j it (by simp)
  let W:=Walks.range (prog:=X.prog) (w:=X.w) (I.ok.hd r) it lo 1 n
  show W.item i s _ _ l a λv g C S f M=>?_
  let#[t,rfl]:=S
  have J:Inv X c F H {s with heap:=g,toks:=C}:=I.turned (λb o d e=>M b o (by simpa using d) e) m p B y x
  show#[_,L,FV (s:={s with heap:=g,toks:=C}) (n:="range_iterator") f L L (!1) #[.int (lo+i),H,J,#[t,?_],#[L,L],f,λb d=>(j b d).1]]
  rw[Int.mul_one]
 done:=by
  intro X A u q r i c s F H E I j a l
  subst A u q
  let#[m,p,R,B,y,x]:=j it (by simp)
  show wpAny_pyNext_range_end (I.ok.hd r) a (by have:n<=i:=l;omega) λg N=>#[L,I.turned (t':=s.toks) (λb o d e=>N b o d e) m p B y x]
 self:=λ_ _ _ _ _ a h=>wpAny_pyIter_rangeiter a h
def yS{X:Cx}{c:Expr}{a:X2}{g:St}{H:Hp}{s:X4}{R:It->Hp->Prop}{E:X0}{lo hi:Int}{t u v:Tok}{f:Nat}(I:Inv X a g H s)(k: -(2^62)<=lo)(h:lo<2^62)(m: -(2^62)<=hi)(j:hi<2^62)
  (q:R (MP lo (hi-lo).toNat) H):wpAny (model X.prog X.w) X.A (pyIter<|.ref s.heap.objs.size) (P5 X a g c R) E {s with heap:=s.heap.push {cls:=.type "range",data:=.fields (List.toArray [.int lo t,.int hi u,.int 1 v])},toks:=f}:=by
 show wpAny_pyIter_range (IsRange.new ..) (small_one k h m j) ?_
 have d:Inv X a g H {s with heap:=s.heap.push {cls:=.type "range",data:=.fields (List.toArray [.int lo t,.int hi u,.int 1 v])},toks:=f}:=I.kept λb o e=>Qcq _ e
 show⟨(s.heap.push {cls:=.type "range",data:=.fields (List.toArray [.int lo t,.int hi u,.int 1 v])}).objs.size,[(s.heap.push {cls:=.type "range",data:=.fields (List.toArray [.int lo t,.int hi u,.int 1 v])}).objs.size],_,_,H,L,
  d.kept (t':=f) λb o e=>Qcq _ e,Ak _ lo (hi-lo).toNat,?_,λb i=>?_,q⟩
 ·have n:lo+((0:Nat):Int)*1=lo:=by simp
  have l:(((hi-lo).toNat:Nat):Int)-((0:Nat):Int)=Builtin.Range.rangeSize lo hi 1:=by rw[rangeSize_one];split <;>omega
  show IsRangeIter _ _ (lo+((0:Nat):Int)*1) ((((hi-lo).toNat:Nat):Int)-((0:Nat):Int)) 1
  rw[n,l]
  show Qrq _ L
 ·have e:b=(s.heap.push {cls:=.type "range",data:=.fields (List.toArray [.int lo t,.int hi u,.int 1 v])}).objs.size:=by simpa using i
  subst e
  show d.fpOk (Qmq _)<|d.hok.fresh<|Qmq _
def NP(b:TA):TI:=λd H R=>b d H λa H1=>∃j:Int,a= [.int j]/\ -(2^62)<=j/\j<2^62/\R (MP 0 j.toNat) H1
def MM(b:TA):TI:=λd H R=>b d H λa H1=>∃i j:Int,a= [.int i,.int j]/\(-(2^62)<=i/\i<2^62/\ -(2^62)<=j/\j<2^62)/\R (MP i (j-i).toNat) H1
def DK{X:Cx}{c:Expr}{a:Expr}{g:TA}{p d:Pos}(k:Gl X "range")(u:X.mg "range"=none)(v:PA X [a] g)(n:autoParam (starEach [a] X.env= [(false,eval a X.env)]) db._auto_1):PI X c (.Call (.Name "range" p) [a] [] d) (NP g):=by
 intro b s o H R I h
 show Call_<|jY I k u boot_range<|PyProof.Rows.callWith_type1 (cO (v d b s o H _ I h) λz y ⟨x,H1,l,i,f⟩=>?_) n L
 let#[j,e,f,w,q]:=f
 subst e
 cases i with
 | cons r m=>
   cases m
   let#[t,rfl]:=r
   show call_range_1<|yS l (!0) (!0) f w (by simpa using q)
def Di(u:Gl X "range")(A:X.mg "range"=none)(B:PA X [a,b] m)(y:autoParam (starEach [a,b] X.env= [(false,eval a X.env),(false,eval b X.env)]) db._auto_1)(f:autoParam (starEach [b] X.env= [(false,eval b X.env)]) db._auto_1):
  PI X c (.Call (.Name "range" p) [a,b] [] g) (MM m):=by
 intro d s z H R I h
 show Call_<|jY I u A boot_range<|PyProof.Rows.callWith_type1 (cO (B g d s z H _ I h) λK J ⟨G,H1,v,o,k⟩=>?_) (by rw[y,f]) (by rw[f];rfl)
 let#[i,j,e,#[k,C,w,x],q]:=k
 subst e
 cases o with
 | cons r l=>
   cases l with
   | cons n l=>
     cases l
     let#[t,rfl]:=r
     let#[F,rfl]:=n
     show call_range_2<|yS v k C w x q
def OK(h:TI)(g:TG)(j:TS):TS:=λD a H=>h a H λJ H1=>∃W:Nat->Nat->St->Hp->Prop,(∃m,W 0 m a H1)/\∀i m a H,W i m a H->
 (J.stop i H/\D.nx a H)\/(J.go i H/\∃N:St->Hp->Prop,(∀b d,N b d->∃f,f<m/\W (i+1) f b d)/\∀x d,J.yld i H x d->g x a d λe H2=>j {D with nx:=N,ct:=N,bk:=D.nx} e H2)
noncomputable def mY(fp:X7)(h:Xe):List (Addr×Obj):=fp.filterMap λb=>(h.get? b).map λo=>(b,o)
def dA{h:Xe}(a:b∈fp)(e:h.get? b=some o):(b,o)∈mY fp h:=List.mem_filterMap.mpr #[b,a,by rw[e];rfl]
def DE(a:p∈mY fp h):p.1∈fp/\h.get? p.1=some p.2:=by
 let#[b,d,e]:=List.mem_filterMap.mp a
 cases q:h.get? b with
 |none=>rw[q] at e;cases e
 | some o=>
   rw[q] at e
   have f:(b,o)=p:=QdQ e
   subst f
   show#[d,q]
def Inv.pinned(I:Inv X a h H s)(l:∀b∈fp,p0 X a H b)(m:∀b∈fp,∃o,s.heap.get? b=some o/\∀v,o.data≠.cell v):Inv X (a++mY fp s.heap) h H s:=
 I.pins_of λp k=>(mQa.mp k).elim (λz=>I.pin p<|Qoq _ z) λz=>by
  let#[f,e]:=DE z
  let#[i,j,n,_]:=l p.1 f
  let#[o,g,d]:=m p.1 f
  rw[e] at g;cases g
  show#[e,i,j,n,d]
def Inv.unpinned(I:Inv X (a++e) b H s):Inv X a b H s:=I.pins_of λp d=>I.pin p (Qoq _<|List.mem_append_left _ d)
def Kt{X:Cx}(U:PassesOwn (model X.prog X.w) X.A X.env X.xe)(hc:X.calm=true)(hi:PI X c q wi)(hg:PG X c g)(l:rq X F tb)
  (hs:autoParam (∀x,foldedSetIterable q X.env x=pure x) dl._auto_1):PS X (.For c q F [] a1) (OK wi g tb):=by
 intro j s σ H D I h
 show wpAny_For (cO (hi j s σ H _ I h) λv s1 h1=>cO h1 λa5 s2 h2=>?_) hs
 let#[it,P,tn,J,H2,e,I2,T,a3,f2,W,#[m0,w0],Y]:=h2
 subst e
 have p:∀{B:Hp},(∀b∈P,B b=none)->∀b∈P,p0 X j B b:=λhn b l=>#[hn b l,(f2 b l).2]
 show codeAny_forLoop_any (λn s'=>∃i z B,Inv X j z B s'/\tn i s'.heap/\(∀b∈P,B b=none)/\W i n z B) ?_ m0 #[0,σ,H2,I2,a3,λb l=>(f2 b l).1,w0]
 rintro n s3 ⟨i,k,H3,I3,R,S,w3⟩
 rcases Y i n k H3 w3 with⟨stop,qn⟩|⟨go,N,hN,Q⟩
 ·show wpAny_passesOwn U (cO (T.done X L L L hc i j s3 k H3 X.xe I3 (p S) R stop) λr s4 K=>?_)
  let#[hr,I4]:=K
  subst hr
  show wpAny_execs_nil #[k,H3,I4,qn]
 ·show wpAny_passesOwn U (cO (T.item X L L L hc i j s3 k H3 X.xe I3 (p S) R go) λr s4 K=>?_)
  let#[u,hr,h4]:=K
  subst hr
  show wpAny_passesOwn U (cO h4 λ_ s5 K=>?_)
  let#[x,H5,I5,r5,y5,G,a0]:=K
  let a4:=I5.pinned (p a0) (T.obj _ _ G)
  show wpAny_passesOwn U (cO (hg _ s5 k H5 x u _ a4 r5<|Q x H5 y5) λ_ s6 K=>?_)
  let#[a2,H6,I6,q6]:=K
  show wpAny_passesOwn U (cO (l _ s6 a2 H6 _ I6 q6) λf Z C=>?_)
  have again:∀{a:St} {t:Hp},Inv X (j++mY P s5.heap) a t Z->N a t->∃m,m<n/\∃i z B,Inv X j z B Z/\tn i Z.heap/\(∀b∈P,B b=none)/\W i m z B:=λ{a t} y M=>by
   let#[m',hm,w7]:=hN a t M
   show#[m',hm,i+1,a,t,y.unpinned,T.keep _ _ _ G λb l o e=>(y.pin (b,o)<|Qoq _<|Qoq _<|dA l e).1,λb l=>?_,w7]
   let#[o,e,d]:=T.obj _ _ G b l
   show(y.pin (b,o)<|Qoq _<|Qoq _<|dA l e).2.1
  cases f with
  |next=>let#[a,t,y,M]:=C;show again y M
  |cont=>let#[a,t,y,M]:=C;show again y M
  |brk=>let#[a,t,y,C]:=C;show#[a,t,y.unpinned,C]
  |ret v=>let#[x7,a,t,y,r7,C]:=C;show#[x7,a,t,y.unpinned,r7,C]
abbrev R2:=V->V->Hp->VK->Prop
def jO(X:Cx)(f:Value->Value->Sem Value)(r:R2):Prop:=
 ∀ (a:X2) (s:X4) (b:St) (H:Hp) (x y:V) (v u:Xd) (Q:VK),Inv X a b H s->RelV x v->RelV y u->r x y H Q->
   wpAny (model X.prog X.w) X.A (f v u) (EP X a b Q) X.xe s
def PJ(X:Cx)(f:Value->Sem Value)(r:V->Hp->VK->Prop):Prop:=
 ∀ (a:X2) (s:X4) (b:St) (H:Hp) (x:V) (v:Xd) (Q:VK),Inv X a b H s->RelV x v->r x H Q->
   wpAny (model X.prog X.w) X.A (f v) (EP X a b Q) X.xe s
def fm(X:Cx)(f:Xd)(r:List V->Hp->VK->Prop):Prop:=
 ∀ (a:X2) (s:X4) (d:St) (H:Hp) (c:List V) (b:X5) (Q:VK),Inv X a d H s->bL c b->r c H Q->
   wpAny (model X.prog X.w) X.A (call f b) (EP X a d Q) X.xe s
def PB(X:Cx)(r:V->Hp->(Bool->Hp->Prop)->Prop):Prop:=
 ∀ (a:X2) (s:X4) (b:St) (H:Hp) (x:V) (v:Xd) (Q:Bool->Hp->Prop),Inv X a b H s->RelV x v->r x H Q->
   wpAny (model X.prog X.w) X.A (truthy v) (TP X a b Q) X.xe s
def GM(r:R2)(c b:TE):TE:=λa H Q=>c a H λx H1=>b a H1 λy H2=>r x y H2 Q
def Qz(r:V->Hp->VK->Prop)(a:TE):TE:=λb H Q=>a b H λx H1=>r x H1 Q
def rI(C:Int->Int->Prop)(g:Int->Int->V):R2:=λx y H Q=>∃i j,x=.int i/\y=.int j/\C i j/\Q (g i j) H
def DW(g:Int->Int->V):R2:=λx y H Q=>∃i j,x=.int i/\y=.int j/\Q (g i j) H
def rU(g:Int->V):V->Hp->VK->Prop:=λx H Q=>∃i,x=.int i/\Q (g i) H
def Kw(G:PE X a d)(q:PE X b k){R:V->V->Hp->Prop}(I:Inv X g i H s)
  (h:d i H λx H1=>k i H1 λy H2=>R x y H2)  {f:Value->Value->Sem Value}
  (B:∀v u n x y H2,Inv X g i H2 n->RelV x v->RelV y u->R x y H2->wpAny (model X.prog X.w) X.A (f v u) Q X.xe n):
  wpAny (model X.prog X.w) X.A (eval a X.env) (λv m=>wpAny (model X.prog X.w) X.A (eval b X.env) (λu j=>wpAny (model X.prog X.w) X.A (f v u) Q X.xe j) X.xe m) X.xe s:=by
 show cO (G g s i H _ I h) λv C o=>?_
 let#[x,H1,r,p,t]:=o
 show cO (q g C i H1 _ r t) λu n o=>?_
 let#[y,H2,z,F,J]:=o
 show B v u n x y H2 z p F J
def oo{X:Cx}{a:Expr}{b:Expr}{d:TE}{k:TE}{e:Pos}{g:Operator}{r:R2}(n:jO X (binaryOp g) r)(w:PE X a d)(i:PE X b k):PE X (.BinOp a g b e) (GM r d k):=by
 intro f s t H Q I h
 show wpAny_BinOp (Kw w i I h λv u j x y H2 m o p q=>n f j t H2 x y v u Q m o p q)
def Nw{X:Cx}{a:Expr}{d:TE}{e:Pos}{g:UnaryOp}{r:V->Hp->VK->Prop}(j:PJ X (unaryOp g) r)(m:PE X a d):PE X (.UnaryOp g a e) (Qz r d):=by
 intro f s i H Q I h
 show UnaryOp_ (cO (m f s i H _ I h) λv p ⟨x,H1,q,n,o⟩=>j f p i H1 x v Q q n o)
def Og{X:Cx}{f:Value->Value->Sem Value}{C:Int->Int->Prop}{g:Int->Int->Int}
  (m:∀(i j:Int) (t u:Tok) (s:X4) (Q:X0) (E:X0),C i j->Q (.int (g i j) s.toks) {s with toks:=s.toks+1}->wpAny (model X.prog X.w) X.A (f (.int i t)<|.int j u) Q E s):
  jO X f (rI C λi j=>.int (g i j)):=by
 intro n s z H x y v u Q I p r h
 let#[i,j,rfl,rfl,hc,q]:=h
 let#[t,rfl]:=p
 let#[o,rfl]:=r
 show m i j t o s _ _ hc #[.int (g i j),H,I.tok _,#[_,L],q]
def Nf{X:Cx}{f:Value->Value->Sem Value}{g:Int->Int->Int}
  (m:∀(i j:Int) (t u:Tok) (s:X4) (Q:X0) (E:X0),Q (.int (g i j) s.toks) {s with toks:=s.toks+1}->wpAny (model X.prog X.w) X.A (f (.int i t)<|.int j u) Q E s):
  jO X f (DW λi j=>.int (g i j)):=by
 intro n s z H x y v u Q I p r h
 let#[i,j,rfl,rfl,q]:=h
 let#[t,rfl]:=p
 let#[o,rfl]:=r
 show m i j t o s _ _ #[.int (g i j),H,I.tok _,#[_,L],q]
def GS{X:Cx}{f:Value->Value->Sem Value}{g:Int->Int->Bool}
  (m:∀(i j:Int) (t u:Tok) (s:X4) (Q:X0) (E:X0),Q (.bool (g i j)) s->wpAny (model X.prog X.w) X.A (f (.int i t)<|.int j u) Q E s):
  jO X f (DW λi j=>.bl (g i j)):=by
 intro n s z H x y v u Q I p r h
 let#[i,j,rfl,rfl,q]:=h
 let#[t,rfl]:=p
 let#[o,rfl]:=r
 show m i j t o s _ _ #[.bl (g i j),H,I,L,q]
def Ge(i j:Int):Prop:=0<j/\j<1073741824
def Ft(i j:Int):Prop:=0<=j/\j<=1000000/\i.natAbs<2^64
def Hz(i j:Int):Prop:=(-(2^64)<i/\i<2^64)\/(-(2^64)<j/\j<2^64)
def Hz.ok(h:Hz i j):IntMulOk i j:=by
 rcases h with⟨g,f⟩|⟨g,f⟩
 ·show .of_left (intBits_le_64 g f)
 ·show .of_right (intBits_le_64 g f)
def Ky:jO X (binaryOp .Add) (DW λi j=>.int (i+j)):=Nf λ_ _ _ _ _ _ _ q=>add_int q
def J6:jO X (binaryOp .Sub) (DW λi j=>.int (i-j)):=Nf λ_ _ _ _ _ _ _ q=>sub_int q
def G_:jO X (binaryOp .FloorDiv) (rI Ge λi j=>.int (i/j)):=Og λi j _ _ _ _ _ f q=>by
 have h:(0:Int)<j:=f.1
 have g:j<1073741824:=f.2
 show floordiv_int (!0) (by rw[Int.fdiv_eq_ediv_of_nonneg i (!0)];show q)<|.inl (PyProof.noPylong_small (!0))
def Kc:jO X (binaryOp .Mod) (rI (λ_ j=>0<j) λi j=>.int (i%j)):=Og λi j _ _ _ _ _ f q=>by
 have g:(0:Int)<j:=f
 show mod_int' (!0) (by rw[Int.fmod_eq_emod_of_nonneg i (!0)];show q)
def Ld:jO X (binaryOp .Pow) (rI Ft λi j=>.int (i^j.toNat)):=Og λ_ _ _ _ _ _ _ f q=>pow_int_small f.1 f.2.1 f.2.2 q
def QJ{X:Cx}{g:Int->Int}
  (j:∀(i:Int) (t:Tok) (s:X4) (Q:X0) (E:X0),Q (.int (g i) s.toks) {s with toks:=s.toks+1}->wpAny (model X.prog X.w) X.A (f<|.int i t) Q E s):
  PJ X f (rU λi=>.int (g i)):=by
 intro m s o H x v Q I n h
 let#[i,rfl,q]:=h
 let#[t,rfl]:=n
 show j i t s _ _ #[.int (g i),H,I.tok _,#[_,L],q]
def J5:PJ X (unaryOp .USub) (rU λi=>.int (-i)):=QJ λ_ _ _ _ _ q=>neg_int q
noncomputable def Ai:V->V->Bool
 |.non,.non=>true|.non,.int _=>true|.int _,.non=>true|.non,.bl _=>true|.bl _,.non=>true|.non,.str _=>true|.str _,.non=>true
 |.int _,.int _=>true|.bl _,.bl _=>true|.str _,.str _=>true|.byt _,.byt _=>true
 |.int _,.str _=>true|.str _,.int _=>true|.bl _,.str _=>true|.str _,.bl _=>true
 |_,_=>false
def Qw:R2:=λx y H Q=>Ai x y=true/\Q (.bl (decide (x=y))) H
def PZ:R2:=λx y H Q=>Ai x y=true/\Q (.bl (!decide (x=y))) H
def Cz:decide (V.int i=V.int j)=(i==j):=by
 rw[Bool.eq_iff_iff]
 simp
def Gi:decide (V.bl i=V.bl j)=(i==j):=by
 rw[Bool.eq_iff_iff]
 simp
def Cj:decide (V.str i=V.str j)=(i==j):=by
 rw[Bool.eq_iff_iff]
 simp
def BE:decide (V.byt i=V.byt j)=(i.toList==j.toList):=by
 rw[Bool.eq_iff_iff]
 cases i
 cases j
 simp
def bW{Q:VK}(I:Inv X f i H s)(q:Q (.bl k) H)(e:k=h):EP X f i Q (.bool h) s:=by
 subst e
 show#[.bl k,H,I,L,q]
def NN:jO X (compareOp .Eq) Qw:=by
 intro o s p H x y v u Q I m e h
 let#[k,q]:=h
 cases x with
 | non=>
   cases m
   cases y with
   |non=>cases e;show PySem.EqNone.eq_none_none (bW I q (by simp))
   |bl j=>cases e;show PySem.EqNone.eq_none_bool (bW I q (by simp))
   |int j=>let#[f,rfl]:=e;show PySem.EqNone.eq_none_int (bW I q (by simp))
   |str j=>let#[f,rfl]:=e;show PySem.EqNone.eq_none_str (bW I q (by simp))
   |_=>show absurd (show false=true from k) Qtq
 | bl i=>
   cases m
   cases y with
   |non=>cases e;show PySem.EqNone.eq_bool_none (bW I q (by simp))
   |bl j=>cases e;show eq_bool (bW I q Gi)
   |str j=>let#[f,rfl]:=e;show PySem.EqMixed.eq_bool_str (bW I q (by simp))
   |_=>show absurd (show false=true from k) Qtq
 | int i=>
   let#[t,rfl]:=m
   cases y with
   |non=>cases e;show PySem.EqNone.eq_int_none (bW I q (by simp))
   |int j=>let#[f,rfl]:=e;show eq_int (bW I q Cz)
   |str j=>let#[f,rfl]:=e;show PySem.EqMixed.eq_int_str (bW I q (by simp))
   |_=>show absurd (show false=true from k) Qtq
 | str i=>
   let#[t,rfl]:=m
   cases y with
   |non=>cases e;show PySem.EqNone.eq_str_none (bW I q (by simp))
   |bl j=>cases e;show PySem.EqMixed.eq_str_bool (bW I q (by simp))
   |int j=>let#[f,rfl]:=e;show PySem.EqMixed.eq_str_int (bW I q (by simp))
   |str j=>let#[f,rfl]:=e;show eq_str (bW I q Cj)
   |_=>show absurd (show false=true from k) Qtq
 | byt i=>
   let#[t,rfl]:=m
   cases y with
   |byt j=>let#[f,rfl]:=e;show PySem.W.eq_bytes (bW I q BE)
   |_=>show absurd (show false=true from k) Qtq
 |_=>cases y <;>show absurd (show false=true from k) Qtq
def Qm:jO X (compareOp .NotEq) PZ:=by
 intro o s p H x y v u Q I m e h
 let#[k,q]:=h
 cases x with
 | non=>
   cases m
   cases y with
   |non=>cases e;show PySem.EqNone.ne_none_none (bW I q (by simp))
   |bl j=>cases e;show PySem.EqNone.ne_none_bool (bW I q (by simp))
   |int j=>let#[f,rfl]:=e;show PySem.EqNone.ne_none_int (bW I q (by simp))
   |str j=>let#[f,rfl]:=e;show PySem.EqNone.ne_none_str (bW I q (by simp))
   |_=>show absurd (show false=true from k) Qtq
 | bl i=>
   cases m
   cases y with
   |non=>cases e;show PySem.EqNone.ne_bool_none (bW I q (by simp))
   |bl j=>cases e;show ne_bool (bW I q<|congrArg not Gi)
   |str j=>let#[f,rfl]:=e;show PySem.EqMixed.ne_bool_str (bW I q (by simp))
   |_=>show absurd (show false=true from k) Qtq
 | int i=>
   let#[t,rfl]:=m
   cases y with
   |non=>cases e;show PySem.EqNone.ne_int_none (bW I q (by simp))
   |int j=>let#[f,rfl]:=e;show ne_int (bW I q<|congrArg not Cz)
   |str j=>let#[f,rfl]:=e;show PySem.EqMixed.ne_int_str (bW I q (by simp))
   |_=>show absurd (show false=true from k) Qtq
 | str i=>
   let#[t,rfl]:=m
   cases y with
   |non=>cases e;show PySem.EqNone.ne_str_none (bW I q (by simp))
   |bl j=>cases e;show PySem.EqMixed.ne_str_bool (bW I q (by simp))
   |int j=>let#[f,rfl]:=e;show PySem.EqMixed.ne_str_int (bW I q (by simp))
   |str j=>let#[f,rfl]:=e;show ne_str (bW I q<|congrArg not Cj)
   |_=>show absurd (show false=true from k) Qtq
 | byt i=>
   let#[t,rfl]:=m
   cases y with
   |byt j=>let#[f,rfl]:=e;show PySem.W.ne_bytes (bW I q<|congrArg not BE)
   |_=>show absurd (show false=true from k) Qtq
 |_=>cases y <;>show absurd (show false=true from k) Qtq
def JD:jO X (compareOp .Lt) (DW λi j=>.bl (decide (i<j))):=GS λ_ _ _ _ _ _ _ q=>lt_int q
def Jj:jO X (compareOp .LtE) (DW λi j=>.bl (decide (i<=j))):=GS λ_ _ _ _ _ _ _ q=>le_int q
def Qp:jO X (compareOp .Gt) (DW λi j=>.bl (decide (j<i))):=GS λ_ _ _ _ _ _ _ q=>gt_int q
def Nb:jO X (compareOp .GtE) (DW λi j=>.bl (decide (j<=i))):=GS λ_ _ _ _ _ _ _ q=>ge_int q
def OL:jO X (compareOp .Is) (λx y H Q=>y=.non/\Q (.bl (decide (x=.non))) H):=by
 intro e s j H x y v u Q I f i h
 let#[rfl,q]:=h
 cases i
 show is_none_gen<|bW I q ?_
 cases x <;>first
  |(cases f;rfl)
  |(let#[t,rfl]:=f;rfl)
def Oz:jO X (compareOp .IsNot) (λx y H Q=>y=.non/\Q (.bl (!decide (x=.non))) H):=by
 intro e s j H x y v u Q I f i h
 let#[rfl,q]:=h
 cases i
 show isnot_none_gen<|bW I q ?_
 cases x <;>first
  |(cases f;rfl)
  |(let#[t,rfl]:=f;rfl)
def jO.or(h:jO X f r)(h':jO X f i):jO X f (λx y H Q=>r x y H Q\/i x y H Q):=by
 intro e s m H x y v u Q I j k q
 rcases q with q|q
 ·show h e s m H x y v u Q I j k q
 ·show h' e s m H x y v u Q I j k q
def kZ(b:Expr){e:CmpOp}(h:autoParam (e≠.In) cU._auto_1)(i:autoParam (e≠.NotIn) cU._auto_1):behindInMarks e b=false:=by
 have f:(e==CmpOp.In)=false:=by cases e <;>first|rfl|show absurd L h
 have j:(e==CmpOp.NotIn)=false:=by cases e <;>first|rfl|show absurd L i
 cases b <;>simp[behindInMarks,f,j]
def BQ{X:Cx}{a:Expr}{b:Expr}{d:TE}{l:TE}{g:Pos}{f:CmpOp}{r:R2}(m:jO X (compareOp f) r)(z:PE X a d)(i:PE X b l)(w:behindInMarks f b=false):PE X (.Compare a [f] [b] g) (GM r d l):=by
 intro e s t H Q I h
 show wpAny_Compare1 (Kw z i I h λv u j x y H2 k o p q=>m e j t H2 x y v u Q k o p q) w
def Gh(t:TE):TT:=λf H Q=>t f H λx e=>∃k,x=.bl k/\Q k e
def lU(F:jO X (compareOp j) r)(M:PE X a d)(p:PE X b l)(K:behindInMarks j b=false):PT X (.Compare a [j] [b] g) (Gh<|GM r d l):=by
 intro f s i H Q I h
 show wpAny_isTrue_Compare1 (cO (M f s i H _ I h) λv G ⟨x,H1,q,o,A⟩=>cO (p f G i H1 _ q A) λu w ⟨y,H2,C,J,N⟩=>
  cO (F f w i H2 x y v u _ C o J N) λc P ⟨z,H3,t,m,k,e,B⟩=>?_) K
 subst e
 cases m
 show wpAny_truthy_bool #[H3,t,B]
def K6(K:X1)(x:V)(H:Hp)(k:Bool):Prop:=
 match x with
 |.non=>k=false
 |.bl b=>k=b
 |.int i=>k=(i !=0)
 |.str y=>y.length<=sizeLine/\k=((y.length:Int) !=0)
 |.byt y=>y.size<=sizeLine/\k=((y.size:Int) !=0)
 |.ref p=>(∃f,iX K H p f/\k= !f.isEmpty)\/(∃f,gV K H p f/\k= !f.isEmpty)\/∃e,H p=some (.dK e)/\k= !e.isEmpty
 |_=>False
def AV{e:Type}{kvs:List (e×V)}{vs:List (e×Value)}(r:KV kvs vs):(!vs.isEmpty)= !kvs.isEmpty:=by
 cases r <;>rfl
def tO{xs:List V}{e:X5}(r:bL xs e):(!e.toArray.isEmpty)= !xs.isEmpty:=by
 cases r <;>simp
def lM:(sizeLine:Nat)<2^63:=by rw[sizeLine_eq];decide
def J_:PB X (λx H Q=>∃k,K6 X.K x H k/\Q k H):=by
 intro J s S H x v Q I z h
 let#[k,e,q]:=h
 let hl:=lM
 have R:sizeLine=16777216:=sizeLine_eq
 cases x with
 | non=>
   cases z
   have f:k=false:=e
   subst f
   show truthy_none #[H,I,q]
 | bl b=>
   cases z
   have f:k=b:=e
   subst f
   show wpAny_truthy_bool #[H,I,q]
 | int i=>
   let#[t,rfl]:=z
   have f:k=(i !=0):=e
   subst f
   show PySem.P.truthy_int #[H,I,q]
 | str y=>
   let#[t,rfl]:=z
   obtain⟨M,f⟩:y.length<=sizeLine/\k=((y.length:Int) !=0):=e
   subst f
   show PySem.P.truthy_str (!0) #[H,I.tok _,q]
 | byt y=>
   let#[t,rfl]:=z
   obtain⟨M,f⟩:y.size<=sizeLine/\k=((y.size:Int) !=0):=e
   subst f
   show PySem.W.truthy_bytes (!0) #[H,I.tok _,q]
 | ref p=>
   cases z
   have f:(∃u,iX X.K H p u/\k= !u.isEmpty)\/(∃u,gV X.K H p u/\k= !u.isEmpty)\/∃j,H p=some (.dK j)/\k= !j.isEmpty:=e
   rcases f with⟨u,A,f⟩|⟨u,A,f⟩|⟨j,A,f⟩
   · subst f
     let#[C,r,F,G]:=I.list A
     let o:=r.length
     show wpAny_truthy_list F.isList (by erw[Qjq];omega) #[H,I.tok _,by rw[tO r];show q]
   · subst f
     let#[C,r,F,G]:=I.tuple A
     let o:=r.length
     show truthy_tuple F (by erw[Qjq];omega) ⟨H,I.tok _,by rw[tO r];show q⟩
   · subst f
     obtain⟨G,N,B,r,m⟩:j.length<=sizeLine/\(p==sysModules)=false/\∃B,KV j B/\s.heap.DictOf (bT X.prog X.w) p B:=I.hok p _ A
     have o:j.length=B.length:=Paired.length r
     show wpAny_truthy_dict N m (!0) #[H,I.tok _,by rw[AV r];show q]
 |_=>show(show False from e).elim
def F1(r:PE X a d)(he:∀e,isTrue a X.env e=(do let v<-e;standAt a.pos;holding [v] (truthy v))):
  PT X a (λi H Q=>d i H λx j=>∃k,K6 X.K x j k/\Q k j):=by
 intro f s i H Q I h
 show isTrue_plain (cO (r f s i H _ I h) λv q ⟨x,H1,o,m,p⟩=>J_ f q i H1 x v Q o m p)<|he _
def Ae:jO X (binaryOp .Add) (λx y H Q=>∃i j,x=.str i/\y=.str j/\i.length+j.length<=sizeLine/\Q (.str (i++j)) H):=by
 intro e s p H x y v u Q I k m h
 let#[i,j,rfl,rfl,hz,q]:=h
 let#[t,rfl]:=k
 let#[f,rfl]:=m
 show add_str (λf o=>#[.str (i++j),H,I.tok _,#[_,L],q]) hz
def vals1(r:bL [x] e):∃u,e= [u]/\RelV x u:=by
 cases r with
 |cons h f=>cases f;show#[_,L,h]
def vals2(r:bL [x,y] e):∃u f,e= [u,f]/\RelV x u/\RelV y f:=by
 cases r with
 | cons k h=>
   cases h with
   |cons j i=>cases i;show#[_,_,L,k,j]
def MB:fm X (.builtin "abs") (λxs H Q=>∃i,xs= [.int i]/\Q (.int (if i<0 then -i else i)) H):=by
 intro e s k H xs f Q I r h
 let#[i,rfl,q]:=h
 let#[u,rfl,t,rfl]:=vals1 r
 show call_abs_int λu j=>#[.int (if i<0 then -i else i),H,I.tok _,#[_,L],q]
def LX{X:Cx}(m:X.calm=true):fm X (.builtin "max") (λxs H Q=>∃i j,xs= [.int i,.int j]/\Q (.int (if j>i then j else i)) H):=by
 intro f s w H xs x Q I r h
 let#[i,j,rfl,q]:=h
 let#[u,o,rfl,#[t,rfl],#[t',rfl]]:=vals2 r
 show max_two_ints (I.ok.hd m) λp v k=>#[_,H,I.kept k,?_,q]
 by_cases e:j>i
 ·rw[Qhq e,Qhq e];show#[_,L]
 ·rw[Quq e,Quq e];show#[_,L]
def LU{X:Cx}(m:X.calm=true):fm X (.builtin "min") (λxs H Q=>∃i j,xs= [.int i,.int j]/\Q (.int (if j<i then j else i)) H):=by
 intro f s w H xs x Q I r h
 let#[i,j,rfl,q]:=h
 let#[u,o,rfl,#[t,rfl],#[t',rfl]]:=vals2 r
 show min_two_ints (I.ok.hd m) λp v k=>#[_,H,I.kept k,?_,q]
 by_cases e:j<i
 ·rw[Qhq e,Qhq e];show#[_,L]
 ·rw[Quq e,Quq e];show#[_,L]
def LZ:fm X (.type "int") (λxs H Q=>(∃i,xs= [.int i]/\Q (.int i) H)\/∃k,xs= [.bl k]/\Q (.int (if k then 1 else 0)) H):=by
 intro e s j H xs f Q I r h
 rcases h with⟨i,rfl,q⟩|⟨k,rfl,q⟩
 ·let#[u,rfl,t,rfl]:=vals1 r
  show call_int_int #[.int i,H,I,#[_,L],q]
 ·let#[u,rfl,r1]:=vals1 r
  cases r1
  show call_int_bool #[.int (if k then 1 else 0),H,I.tok _,#[_,L],q]
structure Lr(h:Xe)(x dx C:X8)(mA:X3):Prop where
 obj:h.get? x=some (PySem.W.instObj C dx)
 ns:h.Ns1 dx mA
 ne:dx≠x
def DM{h:Xe}(n:h.Ns1 g d):∃f,h.get? g=some f/\∀name,PySem.W.lookIn name f=some (d name):=by
 let#[o,c,r,l,i,j,_,p]:=n
 show#[o,l,λname=>?_]
 let e:=p name
 unfold nsFind findBy at e
 rw[<-Array.find?_toList] at e
 unfold PySem.W.lookIn
 rw[i]
 dsimp only
 split
 ·rename_i y q
  rw[q] at e
  show congrArg some e
 ·rename_i q
  rw[q] at e
  have a:c.toList.any (·.refKey)=false:=by
   rw[List.any_eq_false]
   intro y m
   let#[z,t,b]:=j y (Array.mem_toList_iff.mp m)
   simp[DictEntry.refKey,b]
  have k:¬c.toList.any (·.refKey)=true:=by rw[a];show Qtq
  rw[Quq k]
  show congrArg some e
def Lr.look(I:Lr h x b C c):∃a,PySem.W.InstAt h x (PySem.W.instObj C b) C (some a)/\∀name,PySem.W.lookIn name a=some (c name):=
 let ⟨a,ho,hl⟩:=DM I.ns
 #[a,#[I.obj,L,L,ho],hl]
def rY.some_of(r:rY (some v) o):∃u,o=some u/\RelV v u:=by
 cases o with
 |none=>show(show False from r).elim
 |some u=>show#[u,L,r]
def rM(j:n_ P w H h)(e:H a=some (.ins C b fs)):∃i,Lr h a b C i/\(∀f,rY (fs.lookup f)<|i f)/\PySem.Within i (fs.map (·.1))/\fs.length<=1000/\H b=some (.own a):=by
 let#[d,z,k,l,i,n,r,q]:=(show cV P w H h a (.ins C b fs) from j a _ e)
 show#[i,#[l,n,k],r,q,z,d]
structure OW(K:X1)(C:X8):Prop where
 pg:PySem.W.plainGet K C Str.empty=true
 hd:PySem.W.hasDictIn K C=true
 po:PySem.W.plainOver K C=true
 sa:PySem.W.findIn K (.ref C) "__setattr__"=some (some<|.builtin "object.__setattr__")
def OW.get{K:X1}{C:X8}(c:OW K C)(f:Str):PySem.W.plainGet K C f=true:=c.pg
inductive pI(K:X1)(H:Hp):V->Value->Prop where
 |non:pI K H .non (.type "NoneType")
 |bl (x:Bool):pI K H (.bl x) (.type "bool")
 |int (i:Int):pI K H (.int i) (.type "int")
 |str (x:Str):pI K H (.str x) (.type "str")
 |flt (x:UInt64):pI K H (.flt x) (.type "float")
 |lst {a:X8} {xs:List V} (e:H a=some (.lst xs)):pI K H (.ref a) (.type "list")
 |frz {a:X8} {o:Obj} {xs:List V} (e:H a=some (.frz o (.lst xs))):pI K H (.ref a) (.type "list")
 |tup {a:X8} {xs:List V} (e:H a=some (.tup xs)):pI K H (.ref a) (.type "tuple")
 |dK {a:X8} {kvs:List (Key×V)} (e:H a=some (.dK kvs)):pI K H (.ref a) (.type "dict")
 |dT {a:X8} {kvs:List (List Key×V)} (e:H a=some (.dT kvs)):pI K H (.ref a) (.type "dict")
 |ins {a C dx:X8} {fs:List (Str×V)} (e:H a=some (.ins C dx fs)) (cl:OW K C) (ha:PySem.W.findIn K (.ref C) "__class__"=some (some<|.builtin "object.__class__"))
   (hn:PySem.W.specialIn K (.builtin "object.__class__") "__get__"=some (some<|.builtin "getset_descriptor.__get__")) (htk:PySem.W.takesIn K (.builtin "object.__class__")=some true)
   (hm:PySem.W.mroIn K C (.type "object")=some true):pI K H (.ref a) (.ref C)
def DG{X:Cx}{d:X2}{f:St}{H:Hp}{s:X4}{A:X_}{E:X0}{Q:X0}{c:Xd}{b:Bool}{x:V}{u t:Xd}(I:Inv X d f H s)(g:RelV x u)(v:pI X.K H x t)(e:PySem.W.kitOne X.K t c=some b)(h:∀m,Q (.bool b) {s with toks:=m}):
  wpAny (model X.prog X.w) A (call (.builtin "isinstance") [u,c]) Q E s:=by
 cases v with
 |non=>cases (show u=Value.none from g);show PySem.W.kia_one PySem.W.kitx_none I.kIn True.intro e (λz=>nomatch z) h
 |bl y=>cases (show u=Value.bool y from g);show PySem.W.kia_one PySem.W.kitx_bool I.kIn True.intro e (λz=>nomatch z) h
 |int i=>let#[t,q]:=(show∃t,u=Value.int i t from g);cases q;show PySem.W.kia_one PySem.W.kitx_int I.kIn True.intro e (λz=>nomatch z) h
 |str y=>let#[t,q]:=(show∃t,u=Value.str y t from g);cases q;show PySem.W.kia_one PySem.W.kitx_str I.kIn True.intro e (λz=>nomatch z) h
 |flt y=>let#[t,q]:=(show∃t,u=Value.float y t from g);cases q;show PySem.W.kia_one PySem.W.kitx_float I.kIn True.intro e (λz=>nomatch z) h
 | @lst a k ea=>
   cases (show u=Value.ref a from g)
   let#[_,_,n,_,j]:=(show cV X.prog X.w H s.heap a (.lst k) from I.hok a _ ea)
   show PySem.W.kia_one PySem.W.kitx_list I.kIn #[_,j,L] e (λz=>nomatch z) h
 | @frz a ob k ea=>
   cases (show u=Value.ref a from g)
   let#[_,_,_,n,_,j]:=(show cV X.prog X.w H s.heap a (.frz ob (.lst k)) from I.hok a _ ea)
   show PySem.W.kia_one PySem.W.kitx_list I.kIn #[_,j,L] e (λz=>nomatch z) h
 | @tup a k ea=>
   cases (show u=Value.ref a from g)
   let#[_,_,_,p]:=(show cV X.prog X.w H s.heap a (.tup k) from I.hok a _ ea)
   let#[o,j,l,_]:=p
   show PySem.W.kia_one PySem.W.kitx_tuple I.kIn #[o,j,l] e (λz=>nomatch z) h
 | @dK a kvs ea=>
   cases (show u=Value.ref a from g)
   let#[_,_,F,_,p]:=(show cV X.prog X.w H s.heap a (.dK kvs) from I.hok a _ ea)
   let#[o,r,B,j,l,_]:=p
   show PySem.W.kia_one PySem.W.kitx_dict I.kIn #[o,j,l.1] e (λz=>nomatch z) h
 | @dT a kvs ea=>
   cases (show u=Value.ref a from g)
   let#[_,_,k,_,o,r,B,j,l,_]:=(show cV X.prog X.w H s.heap a (.dT kvs) from I.hok a _ ea)
   show PySem.W.kia_one PySem.W.kitx_dict I.kIn #[o,j,l.1] e (λz=>nomatch z) h
 | @ins a C dx fs ea cl ha hn htk hm=>
   cases (show u=Value.ref a from g)
   let#[G,O,_]:=rM I.hok ea
   let#[M,J,_]:=O.look
   show PySem.W.kia_one (PySem.W.kitx_own (cl.get _) cl.hd ha hn htk hm) I.kIn J e (λz=>nomatch z) h
structure eP(k:Nat)(A:X_):Prop where
 hd:A.handled=none
 dp:A.depth+3*k+5<recursionLimit
 un:A.units+16*k+200<cLine
def eP.mono(r:eP k A)(h:j<=k):eP j A:=#[r.hd,by have:=r.dp;omega,by have:=r.un;omega]
def eP.deeper(r:eP (k+1) A)(env:Env):eP k (A.deeper env):=
 #[r.hd,by have:=r.dp;show A.depth+1+3*k+5<_;omega,by have:=r.un;show A.units+3+16*k+200<_;omega]
def eP.depth(r:eP k A):A.depth<recursionLimit:=by have:=r.dp;omega
def eP.units(r:eP k A):A.units+64<cLine:=by have:=r.un;omega
def eP.units0(r:eP k A):A.units<cLine:=by have:=r.un;omega
def Hk:TA:=λ_ H Q=>Q [] H
def Ff(d:TE)(b:TA):TA:=λa H Q=>d a H λx H1=>b a H1 λc H2=>Q (x::c) H2
def gh:PA X [] Hk:=λ_ _ _ _ H Q I h=>Calls.spliced_nil #[[],H,I,.nil,h]
def dD(q:PE X e c)(k:PA X es t)(n:autoParam (starEach (e::es) X.env=(false,eval e X.env)::starEach es X.env) db._auto_1):PA X (e::es) (Ff c t):=by
 intro a b s d H Q I h
 rw[n]
 show wpAny _ _ (spliced ((false,eval e X.env)::backTo a (starEach es X.env))) _ _ s
 show Calls.spliced_cons (cO (q b s d H _ I h) λu m o=>?_)
 let#[x,H1,g,f,i]:=o
 show cO (k a b m d H1 _ g i) λw v ⟨l,H2,j,p,r⟩=>#[x::l,H2,j,.cons f p,r]
def Po(t:TA):TE:=λd H Q=>t d H λb H1=>b.length<=sizeLine/\∀p,H1 p=none->Q (.ref p) (upd H1 p<|.tup b)
def Pu(t:TA):TE:=λd H Q=>t d H λb H1=>b.length<=sizeLine/\∀p,H1 p=none->Q (.ref p) (upd H1 p<|.lst b)
def LN{x1}(h:PA X es t):PE X (.Tuple es x1 a) (Po t):=by
 intro d s l H Q I i
 show wpAny_Tuple_spliced (cO (h a d s l H _ I i) λm f ⟨k,H1,g,r,z,q⟩=>#[by rw[<-r.length];show z,?_])
 have j:H1 f.heap.objs.size=none:=g.hok.fresh (Qmq _)
 show#[.ref f.heap.objs.size,upd H1 f.heap.objs.size<|.tup k,g.laid (t':=f.toks) (λb u e=>Qcq _ e) (Qmq _) ?_,L,q _ j]
 show#[z,m,r,#[_,Qrq _ L,L,L,_,L]]
def LG(h:PA X es t):PE X (.List es a) (Pu t):=by
 intro d s l H Q I i
 show wpAny_List_spliced (cO (h a d s l H _ I i) λm f ⟨k,H1,g,r,z,q⟩=>#[by rw[<-r.length];show z,?_])
 have j:H1 f.heap.objs.size=none:=g.hok.fresh (Qmq _)
 show#[.ref f.heap.objs.size,upd H1 f.heap.objs.size<|.lst k,g.laid (t':=f.toks) (λb u e=>Qcq _ e) (Qmq _) ?_,L,q _ j]
 show#[z,m,0,r,Qrq _ L]
abbrev Sp:=List V->Hp->VK->XK->Prop
abbrev D_:=List Env->Hp->Shared->XK->Value->Shared->Prop
structure Hb(P:X9)(w:Xc)(K:X1)(mg:X3)(base:Xe)(A:X_)(outer:List Env)(s:X4)(H:Hp):Prop where
 frames:A.frames=some outer
 mod:Mod K mg base
 bs:∀b o,base.get? b=some o->s.heap.get? b=some o/\H b=none
 bsz:base.objs.size<=s.heap.objs.size
 funs:s.heap.FunFrames base outer
 frf:∀b∈Fm outer,H b=none
 hok:n_ P w H s.heap
 bare:AllBare s.gens
def CE(a:List Env)(P:X9)(w:Xc)(H:Hp)(s:X4)(Q:VK)(u:Xd)(s':X4):Prop:=
 ∃v b,s'.os=s.os/\AllBare s'.gens/\Un (Fm a) [] H b s.heap s'.heap/\n_ P w b s'.heap/\RelV v u/\Q v b
def CR(CX:D_)(a:List Env)(P:X9)(w:Xc)(H:Hp)(s:X4)(Q:VK)(E:XK)(r:Result)(s':X4):Prop:=
 match r with
 |.ok (.ret u)=>CE a P w H s Q u s'
 |.ok _=>False
 |.error e=>CX a H s E e s'
structure bC(P:X9)(w:Xc)(K:X1)(mg:X3)(base:Xe)(CX:D_)(k:Nat)(f:X8)(fd:FuncData)(ps:X6)(sp:Sp):Prop where
 len:∀vs H Q E,sp vs H Q E->vs.length=ps.length
 run:∀(A:X_) (outer:List Env) (s:X4) (H:Hp) (args:Args) (us:X5) (vs:List V) (Q:VK) (E:XK),eP k A->Hb P w K mg base A outer s H->BindsTo s fd args (ps.zip us)->bL vs us->sp vs H Q E->
  codeAny (model P w) A (.call (.ref f) args) (CR CX outer P w H s Q E) s
def bC.mono{P:X9}{w:Xc}{K:X1}{e:X3}{a:Xe}{CX:D_}{j k:Nat}{f:X8}{d:FuncData}{ps:X6}{sp:Sp}(F:bC P w K e a CX j f d ps sp)(h:j<=k):
  bC P w K e a CX k f d ps sp:=#[F.len,λA b s H c l g Q E i=>F.run A b s H c l g Q E<|i.mono h]
def bC.imp{P:X9}{w:Xc}{K:X1}{g:X3}{a:Xe}{CX:D_}{k:Nat}{f:X8}{e:FuncData}{ps:X6}{sp d:Sp}(F:bC P w K g a CX k f e ps sp)
  (h:∀vs H Q E,d vs H Q E->sp vs H Q E):bC P w K g a CX k f e ps d:=
 #[λvs H Q E q=>F.len vs H Q E<|h _ _ _ _ q,λA b s H c m vs Q E j n i o l=>F.run A b s H c m vs Q E j n i o<|h _ _ _ _ l]
def Inv.env0(I:Inv X a c H s):Hb X.prog X.w X.K X.mg X.base X.A X.stack s H:=
 #[I.ok.frames,I.ok.mod,I.bs,QAq I.ok.bsz I.sz,I.stack,I.stkFree,I.hok,I.bare]
def Inv.after(I:Inv X a c H s)(h:CE X.stack X.prog X.w H s Q u s'):EP X a c Q u s':=by
 let#[v,m,j,e,k,i,r,q]:=h
 let#[l,g,d,t,f]:=s'
 obtain rfl:f=s.os:=j
 show#[v,m,I.call (h':=l) (g':=g) (d':=d) (t':=t) (ch:= []) k i e (λb z=>absurd z (by simp)),r,q]
def EH(sp:Sp)(a:List V)(E:XK)(t:TA):TE:=λc H Q=>t c H λb H1=>sp (b++a) H1 Q E
def Binds(K:X1)(b:FuncData)(ps:X6)(ds:X5):Prop:=
 ∀(s:X4) (a:X5),K.In s.heap->(a++ds).length=ps.length->BindsTo s b #[a,[]] (ps.zip (a++ds))
def Binds.all{K:X1}{b:FuncData}{ps:X6}(h:∀a:List Value,a.length=ps.length->bindArgs b #[a,[]]=pure (ps.zip a)):Binds K b ps []:=λs a _ hl=>by
 rw[List.append_nil] at hl|-
 show .of_eq (h a hl)
def Bp(CX:D_)(X:Cx)(E:XK):Prop:=∀(a:X2) (c:St) (H:Hp) (s:X4) (e:Xd) (b:X4),Inv X a c H s->CX X.stack H s E e b->X.xe e b
def FC{X:Cx}{E:XK}(F:bC X.prog X.w X.K X.mg X.base CX k f c ps sp)(B:eP k X.A)(z:Binds X.K c ps ds)(v:bL a ds)(J:Bp CX X E)
  (I:Inv X i n H s) (r:bL vs j) (h:sp (vs++a) H Q E):wpAny (model X.prog X.w) X.A (call (.ref f) j) (EP X i n Q) X.xe s:=by
 have q:bL (vs++a) (j++ds):=r.append v
 have hl:(j++ds).length=ps.length:=by rw[<-q.length];show F.len _ _ _ _ h
 show wpAny_call (codeAny_mono (F.run X.A X.stack s H #[j,[]] (j++ds) (vs++a) Q E B I.env0 (z s j I.kIn hl) q h) λr y l=>?_)
 cases r with
 |error e=>show J i n H s e y I l
 | ok G=>
   cases G with
   |ret u=>show I.after l
   |next=>show False.elim l
   |brk=>show False.elim l
   |cont=>show False.elim l
def CG{X:Cx}{E:XK}(F:bC X.prog X.w X.K X.mg X.base CX k f c ps sp)(z:eP k X.A)(v:Gl X x)(J:X.mg x=some (.ref f))(y:PySem.W.keepIn X.K (.ref f)=true)(u:Binds X.K c ps ds)(n:bL a ds)(G:Bp CX X E)
  (M:PA X (e::es) t) (j:autoParam ((x==("__debug__":Str))=false) cU._auto_1) (he:autoParam (starEach (e::es) X.env=(false,eval e X.env)::starEach es X.env) db._auto_1) (hpl:autoParam ((backTo b<|starEach es X.env).any (·.1)=false) db._auto_1):
  PE X (.Call (.Name x p) (e::es) [] b) (EH sp a E t):=by
 intro i s B H Q I h
 show wpAny_Call_Name_kw<|xJ I v J ?_ j
 show PySem.W.callWith_K (h₀:=X.base) I.ok.mod.kin y (cO (M b i s B H _ I h) λR P ⟨N,H1,l,r,q⟩=>#[l.kIn,?_]) he hpl
 show FC F z u n G l r q
structure aJ(N P:X6)(sc:Scope):Prop where
 kind:sc.kind=.function
 co:sc.isCoroutine=false
 gen:sc.isGenerator=false
 nd:N.Nodup
 pre:N.take P.length=P
 par:∀x∈P,sc.names.lookup x=some .local\/sc.names.lookup x=some .cell
 nofree:∀y∈sc.names,y.2≠.free
theorem u0:∀{a:List (Str×Value)} {m:X3},(∀v,(x,v)∉a)->bindL b a m x=m x
 | [],_,_=>rfl
 | (n,v)::r,m,h=>by
   unfold bindL
   rw[u0 λw c=>h w (Qpq _ c)]
   split
   · have:x≠n:=by rintro rfl;show h v QBq
     simp[this]
   · rfl
theorem vm:∀{a:List (Str×Value)} {m:X3},(∀v,(x,v)∉a)->bindC b a m x=m x
 | [],_,_=>rfl
 | (n,v)::r,m,h=>by
   unfold bindC
   rw[vm λw c=>h w (Qpq _ c)]
   split
   · rfl
   · have:x≠n:=by rintro rfl;show h v QBq
     simp[this]
theorem vJ{a:Str->Option NameKind}:∀{P:X6} {vs:X5} {i:Nat} {m:X3},P.Nodup->P[i]?=some x->vs[i]?=some v->a x=some .local->
  bindL a (P.zip vs) m x=some v
 | [],_,_,_,_,h,_,_=>by simp at h
 |_::_,[],_,_,_,_,h,_=>by simp at h
 | p::P,w::vs,0,m,nd,h1,h2,hk=>by
   simp at h1 h2;subst h1;subst h2
   show bindL a ((p,w)::P.zip vs) m p=_
   unfold bindL
   rw[u0 λv b=>(List.nodup_cons.mp nd).1 (QeQ b).1,Qhq hk]
   simp
 | p::P,w::vs,i+1,m,nd,h1,h2,hk=>by
   show bindL a ((p,w)::P.zip vs) m x=_
   unfold bindL
   show vJ (i:=i) (List.nodup_cons.mp nd).2 (by simpa using h1) (by simpa using h2) hk
theorem u7{a:Str->Option NameKind}:∀{P:X6} {vs:X5} {i:Nat} {m:X3},P.Nodup->P[i]?=some x->vs[i]?=some v->a x≠some .local->
  bindC a (P.zip vs) m x=some v
 | [],_,_,_,_,h,_,_=>by simp at h
 |_::_,[],_,_,_,_,h,_=>by simp at h
 | p::P,w::vs,0,m,nd,h1,h2,hk=>by
   simp at h1 h2;subst h1;subst h2
   show bindC a ((p,w)::P.zip vs) m p=_
   unfold bindC
   rw[vm λv b=>(List.nodup_cons.mp nd).1 (QeQ b).1,Quq hk]
   simp
 | p::P,w::vs,i+1,m,nd,h1,h2,hk=>by
   show bindC a ((p,w)::P.zip vs) m x=_
   unfold bindC
   show u7 (i:=i) (List.nodup_cons.mp nd).2 (by simpa using h1) (by simpa using h2) hk
noncomputable def start(N:X6)(vs:List V):St:=vs.map some++List.replicate (N.length-vs.length) none
noncomputable def zX(CX:D_)(P:X9)(w:Xc)(K:X1)(mg:X3)(base:Xe)(N:X6)(b:Str)(a:Scope)(f:X8)(d:Xd)(A:X_)(outer:List Env)(s:X4)(H:Hp)(E:XK):Cx where
 prog:=P
 w:=w
 K:=K
 mg:=mg
 base:=base
 A:=A.deeper (envOfC b a s.heap.objs.size f d)
 N:=N
 s₀:=s
 H₀:=H
 env:=envOfC b a s.heap.objs.size f d
 outer:=outer
 stack:=envOfC b a s.heap.objs.size f d::outer
 ex:= []
 calm:=true
 fn:=λ_=>true
 pn:= []
 xe:=λe g=>wpAny (model P w) (A.deeper<|envOfC b a s.heap.objs.size f d) (leaving (envOfC b a s.heap.objs.size f d) e) (λ_ c=>CX outer H s E e c) (λh c=>CX outer H s E h c) g
def yP{a:Scope}(h:a.names.lookup x=some .cell):∃c,(cellsFrom n a.names []).lookup x=some c:=by
 let q:=PySem.W.cellsFrom_some a.names n [] (.inl h)
 show Option.isSome_iff_exists.mp q
def C2{CX:D_}{P:X9}{w:Xc}{K:X1}{M:X3}{m:Xe}{N ps:X6}{j:Str}{d:Scope}{f:X8}{I:Xd}{A:X_}{g:List Env}{s U:X4}{H:Hp}{E:XK}{Q:X5}{vs:List V}
  (S:aJ N ps d) (X:A.handled=none) (o:Hb P w K M m A g s H) (hl:vs.length=ps.length) (r:bL vs Q)
  (x:InCallC s s.heap.objs.size (bindL (envOfC j d s.heap.objs.size f I).kindOf (ps.zip Q) λ_=>none) (cellsFrom (s.heap.objs.size+1) d.names []) (bindC (envOfC j d s.heap.objs.size f I).kindOf (ps.zip Q) λ_=>none) U):
  Inv (zX CX P w K M m N j d f I A g s H E) [] (start N vs) H U:=by
 have Y:ps.length<=N.length:=by have:=congrArg List.length S.pre;rw[Qxq] at this;omega
 let#[G,tk,rfl,hk]:=x.done
 have B:∀b:Addr,b∉(zX CX P w K M m N j d f I A g s H E).ex:=λb z=>absurd (show b∈([]:List Addr) from z) (by simp)
 show⟨⟨o.mod,S.kind,L,L,Qmq _,λy z c G l=>?_,λy t=>?_,λy c _ h=>?_,λ_=>X,Around.frames_deeper o.frames,.inr ⟨rfl,L⟩,λb z=>absurd z (B b),o.bs,o.bsz,λb _ _=>B b,λb z=>absurd z (B b),o.funs,o.frf⟩,
  rfl,o.bare,Un.kept hk,#[_,x.toInCall.ns,λi y v G l h3=>?_],λy c h=>#[_,x.cell y c h],o.hok.fresh (Qmq _),λy c h=>?_,λp C=>absurd (show p∈([]:List (Addr×Obj)) from C) (by simp),o.hok.kept hk,?_⟩
 ·show name_of_addr x.apart (PySem.mem_of_lookup G)<|PySem.mem_of_lookup l
 ·have t:d.names.lookup y=some .cell\/d.names.lookup y=some .free:=t
  rcases t with t|t
  ·show yP t
  ·show absurd L<|S.nofree _<|PySem.mem_of_lookup t
 ·show nQl<|x.above y c<|PySem.mem_of_lookup h
 ·have J:i<vs.length:=by
   unfold start at l
   by_cases J:i<vs.length
   ·show J
   ·rw[QQq (by simpa using J)] at l
    rw[List.getElem?_replicate] at l
    split at l <;>cases l
  have ha:vs[i]?=some v:=by
   unfold start at l
   rw[QHq (by simpa using J),gQm] at l
   cases e:vs[i]? with
   |none=>rw[e] at l;cases l
   |some a=>rw[e] at l;cases l;rfl
  let#[u,R,Z]:=r.get ha
  have C:ps[i]?=some y:=by
   rw[<-S.pre,List.getElem?_take_of_lt (!0)];show G
  have F:ps.Nodup:=by rw[<-S.pre];show S.nd.sublist (List.take_sublist _ _)
  show#[u,Z,?_]
  rcases S.par y (mQg C) with k|k
  ·show .inl #[k,vJ F C R k]
  ·let#[c,e]:=yP (n:=s.heap.objs.size+1) k
   show .inr #[.inl k,c,e,?_]
   let q:=x.cell y c e
   rw[u7 F C R (by show d.names.lookup y≠_;rw[k];decide)] at q
   show q
 ·show o.hok.fresh<|nQl<|x.above y c<|PySem.mem_of_lookup h
 ·unfold start
  show _=N.length
  rw[lQa,lQm,QIq]
  omega
def My{K:X1}{dV kV G pm g ct oc:Xd}
    {sp:Sp} (lk:K.lookup f=some #[oc,od,.func (PySem.W.fnOf name d i j a dV kV G pm an g ct),Y]) (a0:PySem.W.codeIn K g d=true) (S:aJ N ps a)
  (R:∀vs H Q E,sp vs H Q E->vs.length=ps.length)
  (z:∀(A:X_) (c:List Env) (s:X4) (H:Hp) (vs:List V) (Q:VK) (E:XK),eP k (A.deeper (envOfC d a s.heap.objs.size f g))->sp vs H Q E->
   ∃t,rq (zX CX P w K U h N d a f g A c s H E) j t/\t {nx:=λ_ m=>Q .non m,rt:=Q} (start N vs) H):
  bC P w K U h CX (k+1) f (PySem.W.fnOf name d i j a dV kV G pm an g ct) ps sp:=by
 show#[R,λA c s H a1 us vs Q E hr C hb r M=>?_]
 let hl:=R _ _ _ _ M
 have KX:K.In s.heap:=C.mod.kin.keeps λb o e=>(C.bs b o e).1
 have X:s.heap.NoLimit:=C.mod.nolimit.keeps λb o e=>(C.bs b o e).1
 have p:∀y∈ps.zip us,a.names.lookup y.1=some .local\/(a.names.lookup y.1=some .cell/\((cellsFrom (s.heap.objs.size+1) a.names []).lookup y.1).isSome=true):=λ⟨n,v⟩ hy=>by
  rcases S.par n (QeQ hy).1 with q|q
  ·show .inl q
  ·show .inr #[q,PySem.W.cellsFrom_some _ _ _<|.inl q]
 show codeAny_call_function hr.depth (KX _ _ lk) L S.co S.gen L (PySem.W.codeRec_of KX a0)<|hb _ _ _ _ ?_
 show wpAny_newFunctionEnv_cells S.kind p λa2 he s1 x=>?_
 subst he
 show#[X.keeps x.toInCall.keep,codeAny_func ?_]
 let#[t,ht,hq]:=z A c s H vs Q E (hr.deeper _) M
 have I:Inv (zX CX P w K U h N d a f g A c s H E) [] (start N vs) H s1:=C2 S hr.hd C hl r x
 show QRq (ht [] s1 (start N vs) H _ I hq) (λfl Z B=>?_) λe Z B=>B
 have F:∀{l:St} {m:Hp} {v:V} {u:Xd},Inv (zX CX P w K U h N d a f g A c s H E) [] l m Z->RelV v u->Q v m->CE c P w H s Q u Z:=
  λ{l m v u} J rv q=>#[v,m,J.os,J.bare,J.base,J.hok,rv,q]
 cases fl with
 | ret u=>
   let#[v,l,m,J,rv,q]:=B
   show F J rv q
 | next=>
   let#[l,m,J,q]:=B
   show F (v:=V.non) (u:=Value.none) J L q
 | brk=>
   let#[_,_,_,q]:=B
   show False.elim q
 | cont=>
   let#[_,_,_,q]:=B
   show False.elim q
def M9(r:List V->Hp->VK->Prop)(t:TA):TE:=λc H Q=>t c H λb H1=>r b H1 Q
def jr{X:Cx}{x:Str}{p:Pos}{a:Pos}{e:Expr}{es:List Expr}{t:TA}{id:String}{r:List V->Hp->VK->Prop}(l:fm X (.builtin id) r)(g:Gl X x)(o:X.mg x=none)(u:bootBuiltins x=some (.builtin id))(v:PA X (e::es) t)(n:autoParam (x≠"__name__") cU._auto_1)(c:autoParam ((x==("__debug__":Str))=false) cU._auto_1)
  (he:autoParam (starEach (e::es) X.env=(false,eval e X.env)::starEach es X.env) db._auto_1) (hpl:autoParam ((backTo a<|starEach es X.env).any (·.1)=false) db._auto_1):PE X (.Call (.Name x p) (e::es) [] a) (M9 r t):=by
 intro b s d H Q I h
 show wpAny_Call_Name_kw<|jY I g o u ?_ n c
 show PyProof.Rows.callWith_builtin1 (cO (v a b s d H _ I h) λq m ⟨j,H1,i,f,k⟩=>l b m d H1 j q Q i f k) he hpl
def Dj{T:String}(l:fm X (.type T) r)(g:Gl X x)(o:X.mg x=none)(u:bootBuiltins x=some (.type T))(v:PA X (e::es) t)(n:autoParam (x≠"__name__") cU._auto_1)(c:autoParam ((x==("__debug__":Str))=false) cU._auto_1)
  (he:autoParam (starEach (e::es) X.env=(false,eval e X.env)::starEach es X.env) db._auto_1) (hpl:autoParam ((backTo a<|starEach es X.env).any (·.1)=false) db._auto_1):PE X (.Call (.Name x p) (e::es) [] a) (M9 r t):=by
 intro b s d H Q I h
 show wpAny_Call_Name_kw<|jY I g o u ?_ n c
 show PyProof.Rows.callWith_type1 (cO (v a b s d H _ I h) λq m ⟨j,H1,i,f,k⟩=>l b m d H1 j q Q i f k) he hpl
def AH{T:String}(i:fm X (.type T) r)(g:Gl X x)(d:X.mg x=none)(f:bootBuiltins x=some (.type T))(k:autoParam (x≠"__name__") cU._auto_1)(c:autoParam ((x==("__debug__":Str))=false) cU._auto_1):
  PE X (.Call (.Name x p) [] [] a) (M9 r Hk):=by
 intro b s j H Q I h
 show wpAny_Call_Name_kw<|jY I g d f ?_ k c
 show PyProof.Rows.callWith_type0<|i b s j H [] [] Q I .nil h
section
variable{a:Type}[DecidableEq a]
noncomputable def mD(kvs:List (a×V))(k:a):Option V:=(kvs.find? λb=>decide (b.1=k)).map (·.2)
noncomputable def putK(kvs:List (a×V))(k:a)(v:V):List (a×V):=
 if (kvs.any λb=>decide (b.1=k))=true then kvs.map (λb=>if b.1=k then(b.1,v) else b) else kvs++ [(k,v)]
def sx{p:a×V}(e:p.1=k):mD (p::r) k=some p.2:=by simp[mD,List.find?_cons,e]
def sW{p:a×V}(e:¬p.1=k):mD (p::r) k=mD r k:=by simp[mD,List.find?_cons,e]
theorem zY(k:a):∀kvs:List (a×V),(kvs.any λkv=>decide (kv.1=k))=(mD kvs k).isSome
 | []=>rfl
 | p::r=>by
   rw[List.any_cons]
   by_cases e:p.1=k
   · erw[sx e,Qeq e,Bool.true_or,Option.isSome_some]
   · rw[sW e,Qdq e,Bool.false_or];show zY k r
def iL(kvs:List (a×V))(k:a)(v:V):(putK kvs k v).length<=kvs.length+1:=by
 unfold putK
 split
 ·rw[lQm];omega
 ·rw[lQa,Qnq,QGq];omega
def rY.isSome_eq(r:rY o u):o.isSome=u.isSome:=by
 cases o with
 | none=>cases u with
   |none=>rfl
   |some _=>show(show False from r).elim
 | some _=>cases u with
   |none=>show(show False from r).elim
   |some _=>rfl
def KV.val(r:KV kvs vs)(k:a):rY (mD kvs k) (valueAt vs k):=by
 unfold KV at r
 induction r with
 |nil=>show True.intro
 | @cons p q ps qs h t ih=>
   let#[d,f]:=h
   by_cases e:p.1=k
   · have c:q.1=k:=d.symm.trans e
     have b:valueAt (q::qs) k=some q.2:=by simp[valueAt,List.find?_cons,c]
     rw[sx e,b];show f
   · have c:¬q.1=k:=λz=>e (d.trans z)
     have b:valueAt (q::qs) k=valueAt qs k:=by simp[valueAt,List.find?_cons,c]
     rw[sW e,b];show ih
theorem KV.any(r:KV kvs vs)(k:a):(kvs.any λkv=>decide (kv.1=k))=vs.any λkv=>decide (kv.1=k):=by
 unfold KV at r
 induction r with
 |nil=>rfl
 |cons h t b=>rw[List.any_cons,List.any_cons,b,h.1]
def KV.repl(r:KV kvs vs)(k:a)(d:RelV y u):
  KV (kvs.map λkv=>if kv.1=k then(kv.1,y) else kv) (vs.map λkv=>if kv.1=k then(kv.1,u) else kv):=by
 unfold KV at r|-
 induction r with
 |nil=>show .nil
 | @cons p q ps qs h t ih=>
   rw[QDq,QDq]
   show .cons ?_ ih
   let#[b,c]:=h
   by_cases e:p.1=k
   · rw[Qhq e,Qhq (b.symm.trans e)];show#[b,d]
   · rw[Quq e,Quq (λz=>e<|b.trans z)];show#[b,c]
def KV.put(r:KV kvs vs)(k:a)(b:RelV y u):KV (putK kvs k y) (stored vs k u):=by
 unfold putK stored
 rw[r.any k]
 by_cases e:(vs.any λc=>decide (c.1=k))=true
 ·rw[Qhq e,Qhq e];show r.repl k b
 ·rw[Quq e,Quq e];show Paired.snoc r #[L,b]
def KV.length(r:KV kvs vs):kvs.length=vs.length:=Paired.length r
end
def va(r:RelV (kV k) u):(bT P w).is k u=true:=by
 cases k with
 |inl i=>let#[t,e]:=(show∃t,u=Value.int i t from r);subst e;show yB P w i t
 |inr x=>let#[t,e]:=(show∃t,u=Value.str x t from r);subst e;show yV P w x t
theorem vy:∀{a:List Key} {b:X5},bL (a.map kV) b->ItemsAre (bT P w) a b
 | [],_,r=>by rw[List.map_nil] at r;cases r;show .nil
 | k::a,_,r=>by
   rw[QDq] at r
   cases r with
   |cons h t=>show .cons (va h) (vy t)
abbrev KT(H:Hp):List (List Key×V)->List (List Key×Addr×Value)->Prop:=Paired λp q=>p.1=q.1/\H q.2.1=some (.tup (p.1.map kV))/\RelV p.2 q.2.2
def KT.val(r:KT H kvs xs)(k:List Key):rY (mD kvs k) ((atKey xs k).map (·.2)):=by
 induction r with
 |nil=>show True.intro
 | @cons p q ps qs h t ih=>
   let#[c,_,d]:=h
   by_cases e:p.1=k
   · have a:q.1=k:=c.symm.trans e
     have b:atKey (q::qs) k=some q.2:=by simp[atKey,List.find?_cons,a]
     rw[sx e,b];show d
   · have a:¬q.1=k:=λz=>e (c.trans z)
     have b:atKey (q::qs) k=atKey qs k:=by simp[atKey,List.find?_cons,a]
     rw[sW e,b];show ih
def KT.repl(r:KT H kvs xs)(k:List Key)(d:RelV y u):
  KT H (kvs.map λkv=>if kv.1=k then(kv.1,y) else kv) (xs.map<|putAt k u):=by
 induction r with
 |nil=>show .nil
 | @cons p q ps qs h t ih=>
   rw[QDq,QDq]
   show .cons ?_ ih
   let#[a,b,c]:=h
   unfold putAt
   by_cases e:p.1=k
   · rw[Qhq e,Qhq (a.symm.trans e)];show#[a,b,d]
   · rw[Quq e,Quq (λz=>e<|a.trans z)];show#[a,b,c]
def KT.put(r:KT H kvs xs)(k:List Key)(d:H b=some (.tup (k.map kV)))(a:RelV y u):
  KT H (putK kvs k y) (storedH xs k b u):=by
 have e:(kvs.any λc=>decide (c.1=k))=(atKey xs k).isSome:=by
  rw[zY,(r.val k).isSome_eq,Option.isSome_map]
 unfold putK storedH
 rw[e]
 by_cases q:(atKey xs k).isSome=true
 ·rw[Qhq q,Qhq q];show r.repl k a
 ·rw[Quq q,Quq q];show Paired.snoc r #[L,d,a]
def KT.keeps{H a:Hp}(r:KT H kvs xs)(ht:∀b ys,H b=some (.tup ys)->a b=some (.tup ys)):KT a kvs xs:=
 Paired.mapP r λ_ _ z=>#[z.1,ht _ _ z.2.1,z.2.2]
def Jo(ok:n_ P w H h)(e:Rd H a u):cV P w H h a u:=e.ok ok
def ze(ok:n_ P w H h)(e:Rd H a (.dK kvs)):kvs.length<=sizeLine/\(a==sysModules)=false/\∃vs,KV kvs vs/\h.DictOf (bT P w) a vs:=
 show cV P w H h a (.dK kvs) from Jo ok e
def yU(ok:n_ P w H h)(e:H a=some (.dK kvs)):kvs.length<=sizeLine/\(a==sysModules)=false/\∃vs,KV kvs vs/\h.DictOf (bT P w) a vs:=ze ok (.inl e)
def xa{c:List Key}(ok:n_ P w H h)(e:H a=some (.tup (c.map kV))):(tupleKind<|bT P w).is h c a:=by
 let#[_,b,r,o,f,d,_,n,g]:=(show cV P w H h a (.tup (c.map kV)) from ok a _ e)
 show#[o,b.toArray,n,f,d,g,by simpa using vy r]
def Cy(ok:n_ P w H h)(e:Rd H a (.dT kvs)):kvs.length<=sizeLine/\(a==sysModules)=false∧
  ∃xs,KT H kvs xs/\h.DictOfH (tupleKind<|bT P w) a xs:=by
 let#[z,y,xs,r,o,j,n,g,d,k,f,i]:=(show cV P w H h a (.dT kvs) from Jo ok e)
 show#[z,y,xs,r,o,j,n,g,d,k,f,λx b=>?_,i]
 have c:∀{l:List (List Key×V)} {m:List (List Key×Addr×Value)},KT H l m->∀x∈m,(tupleKind<|bT P w).is h x.1 x.2.1:=by
  intro l m q
  induction q with
  |nil=>intro x b;show nomatch b
  | @cons p q ps qs hq t ih=>
    intro x b
    rcases Qsq.mp b with e|b
    · subst e
      show xa ok (by rw[<-hq.1];show hq.2.1)
    · show ih x b
 show c r x b
def Mu(ok:n_ P w H h)(e:H a=some (.dT kvs)):kvs.length<=sizeLine/\(a==sysModules)=false∧
  ∃xs,KT H kvs xs/\h.DictOfH (tupleKind<|bT P w) a xs:=Cy ok (.inl e)
def wc(H:Hp)(a:X8)(y:V)(r:Option V):Prop:=
 (∃c k,Rd H a (.dK c)/\y=kV k/\r=mD c k)\/∃c k b,Rd H a (.dT c)/\y=.ref b/\H b=some (.tup (k.map kV))/\r=mD c k
def Ez(H:Hp)(a:X8)(y v:V)(d:Hp):Prop:=
 (∃c k,H a=some (.dK c)/\y=kV k/\c.length<sizeLine/\d=upd H a (.dK (putK c k v)))∨
 ∃c k b,H a=some (.dT c)/\y=.ref b/\H b=some (.tup (k.map kV))/\c.length<sizeLine/\d=upd H a (.dT (putK c k v))
def wc.k{H:Hp}{a:X8}{kvs:List (Key×V)}{k:Key}(e:H a=some (.dK kvs)):wc H a (kV k) (mD kvs k):=.inl #[kvs,k,.inl e,L,L]
def Ez.k{H:Hp}{a:X8}{kvs:List (Key×V)}{k:Key}{v:V}(e:H a=some (.dK kvs))(hl:kvs.length<sizeLine):Ez H a (kV k) v (upd H a<|.dK (putK kvs k v)):=.inl #[kvs,k,e,L,hl,L]
def Inv.big(I:Inv X d f H s):sysModules<s.heap.objs.size:=by
 have h:mainGlobals<s.heap.objs.size:=(I.mod.glob.keeps I.bk).lt
 show Nat.lt_trans (!1) h
def DS{A:X_}{E:X0}{Q:X0}(M:A.units+1<cLine)(I:Inv X d f H s)(g:wc H a y (some v))(B:RelV y u)(h:∀j s',Inv X d f H s'->RelV v j->Q j s'):
  wpAny (model X.prog X.w) A (getItem (.ref a) u) Q E s:=by
 rcases g with⟨m,k,e,x,l⟩|⟨m,k,b,e,x,G,l⟩
 ·subst x
  let#[z,C,F,i,t]:=ze I.hok e
  let#[j,q,c]:=rY.some_of (v:=v) (o:=valueAt F k) (by rw[l];show i.val k)
  show wpAny_getItem_of (va B) t.mapOf q<|h j _ (I.tok _) c
 ·subst x
  cases (show u=Value.ref b from B)
  let#[z,C,K,i,t]:=Cy I.hok e
  let#[j,q,c]:=rY.some_of (v:=v) (o:=(atKey K k).map (·.2)) (by rw[l];show i.val k)
  let#[p,J,n]:=oQm.mp q
  show wpAny_getItem_heap (tupleKind_room_in1 M) (xa I.hok G) t J ?_
  rw[n]
  show h j _ (I.tok _) c
def OE{A:X_}{E:X0}{Q:X0}(x:A.units+1<cLine)(I:Inv X d f H s)(g:wc H a y o)(p:RelV y u)(h:∀s',Inv X d f H s'->Q (.bool o.isSome) s'):
  wpAny (model X.prog X.w) A (compareOp .In u<|.ref a) Q E s:=by
 rcases g with⟨j,k,e,n,l⟩|⟨j,k,b,e,n,t,l⟩
 ·subst n
  let#[z,i,B,c,m]:=ze I.hok e
  show wpAny_in_of (va p) i m.mapOf ?_
  rw[<-(c.val k).isSome_eq,<-l]
  show h _<|I.tok _
 ·subst n
  cases (show u=Value.ref b from p)
  let#[z,i,C,c,m]:=Cy I.hok e
  show wpAny_in_heap (tupleKind_room_in1 x) (xa I.hok t) i m ?_
  let q:=(c.val k).isSome_eq
  rw[Option.isSome_map] at q
  rw[<-q,<-l]
  show h _<|I.tok _
def rQ(I:Inv X d f H s)(j:NB (H a))(i:Heap.SameBut a s.heap h')(he:∃q,h'.get? a=some q)(c:cV X.prog X.w (upd H a g) h' a g):
  Inv X d f (upd H a g) {s with heap:=h',toks:=t'}:=
 I.write (x:=a) (e:=a) j (.inl L) (λb q h z=>(i.2 b h).trans z) he c
def sg{h':Xe}{kvs:List (Key×V)}(z:kvs.length<=sizeLine)(c:(a==sysModules)=false)(b:KV kvs vs)(g:h'.DictOf (bT P w) a vs):
  cV P w e h' a (.dK kvs):=#[z,c,vs,b,g]
def Dv{X:Cx}{d:X2}{f:St}{H:Hp}{s:X4}{a:X8}{y:V}{v:V}{u:Xd}{r:Xd}{A:X_}{E:X0}{P:Hp}{Q:Unit->Shared->Prop}(hu:A.units+1<cLine)(I:Inv X d f H s)(g:Ez H a y v P)(N:RelV y u)(M:RelV v r)(h:∀s',Inv X d f P s'->Q () s'):
  wpAny (model X.prog X.w) A (setItem (.ref a) u r) Q E s:=by
 rcases g with⟨i,k,e,F,l,t⟩|⟨i,k,b,e,F,K,l,t⟩
 ·subst F t
  let#[z,p,S,j,C]:=yU I.hok e
  have x:S.length<=sizeLine:=by rw[<-j.length];show z
  have hl:(putK i k v).length<=sizeLine:=by have:=iL i k v;omega
  show wpAny_setItem_pairs (hsz:=x) (va N) C λJ m B=>h _ ?_
  have he:∃q,J.get? a=some q:=let ⟨q,_,_,n,_⟩:=m;#[q,n]
  show rQ I (by rw[e];show True.intro) B he<|sg hl p (j.put k M) m
 ·subst F t
  cases (show u=Value.ref b from N)
  let#[z,p,Y,j,C]:=Mu I.hok e
  have x:Y.length<=sizeLine:=by rw[<-Paired.length j];show z
  have hl:(putK i k v).length<=sizeLine:=by have:=iL i k v;omega
  show wpAny_setItem_heap (hsz:=x) (tupleKind_room_in1 hu) (xa I.hok K) C λJ m B=>h _ ?_
  let#[q,Z,ep,n,R,h3,U,_,W]:=m
  show rQ I (by rw[e];show True.intro) B #[q,n] #[hl,p,_,(j.put k K M).keeps λc ys G=>?_,q,Z,ep,n,R,h3,U,W]
  rw[bc (FG G e (λz=>nomatch z))]
  show G
def se{E:X0}{Q:X0}(I:Inv X b c H s)(e:Rd H a (.dK kvs))(h:∀t s',Inv X b c H s'->Q (.int kvs.length t) s'):wpAny (model X.prog X.w) A (call (.builtin "len") [.ref a]) Q E s:=by
 let#[z,f,i,d,g]:=ze I.hok e
 show call_len_dict f g (by rw[<-d.length];rw[sizeLine_eq] at z;omega) ?_
 rw[<-d.length]
 show h _ _<|I.tok _
def IL(i:Expr):Prop:=∀b a,subscripted i false b a=operate [b,a] (getItem b a)
def Cc{E:X0}{T id:String}
  (hl:typeLookup (.type T) "__getitem__"=pure (some<|.builtin id)) (n:IL a)
  (h:wpAny (model prog w) A (eval b env) (λo f=>wpAny (model prog w) A (eval a env) (λi c=>c.TypeIs o T/\wpAny (model prog w) A (getItem o i) Q E c) E f) E s):
  wpAny (model prog w) A (eval (.Subscript b a l) env) Q E s:=by
 show Subscript_ (QRq h (λo f j=>QRq j (λi c d=>?_) λ_ _ x=>x) λ_ _ x=>x)
 let#[m,d]:=d
 unfold subscriptTail
 show Qaq ?_
 rw[getitemInPython_of_ne m.not_modules]
 show Qaq<|wpAny_specialOf m hl ?_
 have g:wpAny (model prog w) A (subscripted a false o i) (λr e=>wpAny (model prog w) A (letTemporaryGo b o r >>= λ_=>pure r) Q E e) E c:=by
  rw[n o i]
  show wpAny_operating (QRq d (λr e k=>Qaq<|wpAny_letTemporaryGo<|Qgq k) λ_ _ x=>x)
 first
  |show Qgq (Qaq g)
  |show Qaq (Qgq<|Qaq g)
  |show Qaq g
def zT(I:Inv X c h H s)(g:wc H a y o):s.TypeIs (.ref a) "dict":=by
 rcases g with⟨d,k,e,_,_⟩|⟨d,k,b,e,_,_,_⟩
 ·let#[_,_,i,_,f]:=ze I.hok e
  show f.typeIs
 ·let#[_,_,j,_,f]:=Cy I.hok e
  show f.typeIs
def M6(c d:TE):TE:=λb H Q=>c b H λx H1=>d b H1 λy H2=>∃a v,x=.ref a/\wc H2 a y (some v)/\Q v H2
def ME(d c:TE):TE:=λb H Q=>d b H λy H1=>c b H1 λx H2=>∃a o,x=.ref a/\wc H2 a y o/\Q (.bl o.isSome) H2
def MN(d e c:TE):TS:=λD b H=>c b H λv H1=>d b H1 λx H2=>e b H2 λy H3=>∃a H4,x=.ref a/\Ez H3 a y v H4/\D.nx b H4
def GP{X:Cx}(C:X.A.units+1<cLine)(B:PE X o f)(hi:PE X i j)(K:IL i):PE X (.Subscript o i d) (M6 f j):=by
 intro m s q H Q I h
 show Cc PySem.F.slot_dict_getitem.lookup K (cO (B m s q H _ I h) λu G ⟨x,H1,t,J,z⟩=>cO (hi m G q H1 _ t z) λW S M=>?_)
 let#[y,H2,p,N,a,v,r,g,P]:=M
 subst r
 obtain rfl:u=Value.ref a:=J
 show#[zT p g,DS C p g N λR U w n=>#[v,H2,w,n,P]]
def K4{X:Cx}(z:X.A.units+1<cLine)(hi:PE X i j)(w:PE X o f):PC X .In i o (ME j f):=by
 intro m s n H Q I h
 show cO (hi m s n H _ I h) λP B ⟨y,H1,q,G,t⟩=>cO (w m B n H1 _ q t) λu M J=>?_
 let#[x,H2,v,C,a,F,p,g,K]:=J
 subst p
 obtain rfl:u=Value.ref a:=C
 show OE z v g G λN r=>#[.bl F.isSome,H2,r,L,K]
def G8{X:Cx}{d:Pos}(K:X.A.units+1<cLine)(J:PE X o f)(hi:PE X i j)(R:PE X b k)(P:swapsWith b (some<|.Subscript o i c) d.line X.env=pure false):
  PS X (.Assign [.Subscript o i c] b d) (MN f j k):=by
 intro m s n H D I h
 show wpAny_Assign_Subscript (cO (R m s n H _ I h) λr M ⟨v,H1,t,G,B⟩=>cO (J m M n H1 _ t B) λu z ⟨x,H2,F,N,S⟩=>cO (hi m z n H2 _ F S) λY W ⟨y,H3,w,Q,a,H4,p,g,C⟩=>?_) P
 subst p
 obtain rfl:u=Value.ref a:=N
 show Dv K w g Q G λU q=>#[n,H4,q,C]
def EM(h:Xe)(a:sysModules<h.objs.size):cV P w H (h.push {cls:=.type "dict",data:=.dict (List.toArray [])}) h.objs.size (.dK []):=
 #[Nat.zero_le _,beq_eq_false_iff_ne.mpr<|Ne.symm<|Qwq a,[],.nil,Heap.DictOf.new h]
def K9:TE:=λ_ H Q=>∀p,H p=none->Q (.ref p) (upd H p<|.dK [])
def F6:PE X (.Dict [] [] b) K9:=λc s d H Q I h=>
 wpAny_Dict_empty #[.ref s.heap.objs.size,_,I.laid (a:=s.heap.objs.size) (o:=.dK []) (t':=s.toks) (λ_ _ q=>Qcq _ q) (Qmq _)<|EM s.heap I.big,L,h _<|I.hok.fresh<|Qmq _]
noncomputable def jR(kvs more:List (Key×V)):List (Key×V):=more.foldl (λa b=>putK a b.1 b.2) kvs
def KV.merge:∀{more:List (Key×V)} {rs:List (Key×Value)} {kvs:List (Key×V)} {vs:List (Key×Value)},KV more rs->KV kvs vs->KV (jR kvs more) (merged vs rs):=by
 intro more rs kvs vs r
 unfold KV at r
 induction r generalizing kvs vs with
 |nil=>intro q;show q
 | @cons p q ps qs h t ih=>
   intro a
   have e:KV (putK kvs p.1 p.2) (stored vs q.1 q.2):=by
     have:=a.put p.1 h.2
     rw[<-h.1];show this
   show ih e
theorem jd:∀(more kvs:List (Key×V)),(jR kvs more).length<=kvs.length+more.length
 | [],kvs=>by show kvs.length<=kvs.length+0;omega
 | p::r,kvs=>by
   let b:=jd r (putK kvs p.1 p.2)
   let a:=iL kvs p.1 p.2
   show(jR (putK kvs p.1 p.2) r).length<=_
   rw[Qnq];omega
end L2
namespace HT
open PySem PyProof.Rows
section
open PySem.SeqAt
open PySem.AutoSeq1 (wpAny_loadPart')
open PySem.MeetsSeq PySem.MeetsSeq2 PySem.MeetsSeq3
end
def IU{E:X0}{s:X4}{vs ws:X5}{Q:X0}(ht:IsTup s.heap t vs.toArray)(u:IsTup s.heap b ws.toArray)(o:vs≠[])
  (v:ws= []->Q (.ref t) s) (r:ws≠[]->Q (.ref s.heap.objs.size) {s with heap:=s.heap.push {cls:=.type "tuple",data:=.seq (vs++ws).toArray}})
  (hsz:vs.length+ws.length<=sizeLine):wpAny (model prog w) A (binaryOp .Add (.ref t)<|.ref b) Q E s:=by
 let#[#[cls,m,data,sl],i,q,n,k]:=id ht
 let#[#[l,d,j,g],a,f,p,c]:=id u
 simp only at q k f c
 subst q k f c
 have e:vs.toArray++ws.toArray=(vs++ws).toArray:=by simp
 by_cases h:ws= []
 ·show concat_meets #[_,i,L] #[_,a,L] noFill_tuple_add seq_tuple_add PySem.F.slot_tuple_add PySem.F.entry_tuple_add (PySem.F.args_tuple_add_2 _ _)
   (tuple_addW1 t b vs.toArray ws.toArray n p m d sl g (by simpa using o) (by simp[h])) #[i,a,v h]
 ·show concat_meets #[_,i,L] #[_,a,L] noFill_tuple_add seq_tuple_add PySem.F.slot_tuple_add PySem.F.entry_tuple_add (PySem.F.args_tuple_add_2 _ _)
   (tuple_addW2 t b vs.toArray ws.toArray n p m d sl g (by simpa using o) (by simpa using h) (by rw[Qjq,Qjq];show hsz)) #[i,a,?_]
  rw[e]
  show r h
noncomputable def dQ(n d:Nat):Option Int->Nat
 |none=>d
 |some v=>if v<0 then(v+(n:Int)).toNat else min v.toNat n
def ud(n d:Nat):dQ n d none=d:=rfl
def rJ(n d k:Nat):dQ n d (some (k:Int))=min k n:=by
 show(if (k:Int)<0 then((k:Int)+(n:Int)).toNat else min (k:Int).toNat n)=min k n
 rw[Quq (!0),Int.toNat_natCast]
def Ka(n d:Nat)(b:d<=n)(o:Xb):dQ n d o<=n:=by
 cases o with
 |none=>show b
 | some v=>
   show(if v<0 then(v+(n:Int)).toNat else min v.toNat n)<=n
   by_cases a:v<0
   · rw[Qhq a];omega
   · rw[Quq a];show Nat.min_le_right _ _
def B0(v:Int)(n d:Nat):(if v<0 then max (v+(n:Int)) 0 else min v (n:Int))=((dQ n d (some v):Nat):Int):=by
 show(if v<0 then max (v+(n:Int)) 0 else min v (n:Int))=(((if v<0 then(v+(n:Int)).toNat else min v.toNat n):Nat):Int)
 by_cases a:v<0
 ·erw[Qhq a];omega
 ·erw[Quq a];omega
def Ax(lo hi:Xb)(n:Nat):Builtin.Slice.sliceAdjust lo hi 1 (n:Int)=(((dQ n 0 lo:Nat):Int),((dQ n n hi:Nat):Int)):=by
 have a:¬((1:Int)<0):=by omega
 unfold Builtin.Slice.sliceAdjust
 erw[a,if_false]
 show Prod.ext ?_ ?_
 ·cases lo with
  |none=>rfl
  |some v=>show B0 v n 0
 ·cases hi with
  |none=>rfl
  |some v=>show B0 v n n
def AI(i j:Nat):Builtin.Slice.slicePlaces (i:Int) (j:Int) 1=j-i:=by
 unfold Builtin.Slice.slicePlaces
 have a:(1:Int)>0:=by omega
 erw[a,if_true,Int.ediv_one]
 split <;>omega
def rT{E:X0}{Q:Option Int->Shared->Prop}(p:IsPart v o)(h:Q o s):wpAny (model prog w) A (Builtin.Slice.slicePartIndex v) Q E s:=by
 cases p with
 |none=>show slicePart_none h
 |int i t=>show slicePart_int h
def ju{prog:X9}{w:Xc}{A:X_}{E:X0}{s:X4}{sl:X8}{d c:Xd}{lo hi:Xb}{n:Nat}{Q:Int×Int×Nat->Shared->Prop}(i:s.heap.IsSliceOf sl d c .none)(e:IsPart d lo)(f:IsPart c hi)
  (h:Q (((dQ n 0 lo:Nat):Int),1,dQ n n hi-dQ n 0 lo) s):wpAny (model prog w) A (Builtin.Slice.sliceApplied (.ref sl)<|pure (n:Int)) Q E s:=by
 let#[j,a,g,b]:=id i
 unfold Builtin.Slice.sliceApplied Builtin.Slice.sliceFields
 show Qaq<|Qaq<|QMq a b (x:=d) L<|Qaq<|QMq a b (x:=c) L<|Qaq<|QMq a b (x:=.none) L<|Qgq ?_
 show Qaq<|slicePart_none ?_
 show wpAny _ _ (if ((1:Int)==0)=true then _ else _) _ _ s
 rw[Quq (!1)]
 show Qaq<|rT e<|Qaq<|rT f<|Qaq<|Qgq ?_
 show wpAny _ _ (match Builtin.Slice.sliceAdjust lo hi 1 (n:Int) with|(lo,hi)=>pure (lo,(1:Int),Builtin.Slice.slicePlaces lo hi 1)) _ _ s
 rw[Ax lo hi n]
 show wpAny _ _ (pure (((dQ n 0 lo:Nat):Int),(1:Int),Builtin.Slice.slicePlaces ((dQ n 0 lo:Nat):Int) ((dQ n n hi:Nat):Int) 1)) _ _ s
 rw[AI]
 show Qgq h
def F9(xs:Xa)(i k:Nat):((List.range k).filterMap λ(m:Nat)=>xs[((i:Int)+(m:Int)*1).toNat]?).toArray=((xs.toList.drop i).take k).toArray:=by
 have e:(λ(m:Nat)=>xs[((i:Int)+(m:Int)*1).toNat]?)=λm=>xs[i+m]? :=by
  funext m
  have:((i:Int)+(m:Int)*1).toNat=i+m:=by omega
  rw[this]
 rw[e]
 have:=pick_run xs i k
 rw[List.filterMap_map] at this
 have a:((λx=>xs[x]?)∘λx=>i+x)=λm=>xs[i+m]? :=rfl
 rw[a] at this
 rw[this]
def oY{prog:X9}{w:Xc}{A:X_}{E:X0}{s:X4}{t sl:X8}{items:Xa}{g f:Xd}{lo hi:Xb}{Q:X0}(ht:IsTup s.heap t items)(i:s.heap.IsSliceOf sl g f .none)(n:IsPart g lo)(o:IsPart f hi)
  (l:¬(dQ items.size 0 lo=0/\dQ items.size items.size hi=items.size))
  (h:Q (.ref s.heap.objs.size) {s with heap:=s.heap.push {cls:=.type "tuple",data:=.seq ((items.toList.drop<|dQ items.size 0 lo).take (dQ items.size items.size hi-dQ items.size 0 lo)).toArray}})
  (hsz:items.size<=sizeLine):wpAny (model prog w) A (getItem (.ref t)<|.ref sl) Q E s:=by
 have a:sizeOk (.seq ((items.toList.drop<|dQ items.size 0 lo).take (dQ items.size items.size hi-dQ items.size 0 lo)).toArray):=by
  show((items.toList.drop<|dQ items.size 0 lo).take (dQ items.size items.size hi-dQ items.size 0 lo)).toArray.size<=sizeLine
  rw[Qjq,Qxq,List.length_drop,Array.length_toList]
  omega
 have r:dQ items.size items.size hi<=items.size:=Ka _ _ (Qmq _) hi
 let#[k,d,c,j]:=id i
 have e:s.TypeIs (.ref sl) "slice":=#[k,d,c]
 unfold getItem
 try with_reducible show QLq ?_
 first|show Qaq (Qgq ?_)|skip
 show Qaq<|wpAny_sequenceKey ht.typeIs (!1) ?_
 show Qaq (QiQ (name:=Str.ofString "__getitem__") ht.typeIs PyProof.Rows.slot_tuple_getitem
  (wpAny_call_entry PyProof.Rows.slot_tuple_getitem ht.typeIs entry_tuple_getitem ?_ (args_tuple_getitem _ _)))
 show wpAny _ _ (Builtin.Tuple.tupleItemsOf (.ref t) >>= _) _ _ s
 show Qaq<|tupleItemsOf_ ht ?_
 show Qaq<|wpAny_typeOf e ?_
 rw[Qhq (!1)]
 show Qaq<|ju i n o ?_
 have b:¬((((dQ items.size 0 lo:Nat):Int)==0&&(1:Int)==1&&(dQ items.size items.size hi-dQ items.size 0 lo)==items.size)=true):=by
  intro q
  rw[QCq,QCq] at q
  have p:((dQ items.size 0 lo:Nat):Int)=0:=eq_of_beq q.1.1
  have u:dQ items.size items.size hi-dQ items.size 0 lo=items.size:=eq_of_beq q.2
  show l #[by omega,by omega]
 show wpAny _ _ (if (((dQ items.size 0 lo:Nat):Int)==0&&(1:Int)==1&&(dQ items.size items.size hi-dQ items.size 0 lo)==items.size)=true then _ else _) _ _ s
 rw[Quq b,F9]
 first
  |show Qaq (m:=Builtin.Tuple.tupleExact _) (QhQ (Qgq #[_,L,Qgq h]) a)
  |show Qaq (m:=Builtin.Tuple.tupleExact _) (QhQ (Qaq<|Qgq<|Qgq #[_,L,Qgq h]) a)
  |show Qaq (Qaq (m:=Builtin.Tuple.tupleExact _)<|QhQ (Qgq<|Qgq #[_,L,Qgq h]) a)
  |show Qaq (Qaq (m:=Builtin.Tuple.tupleExact _)<|QhQ (Qgq #[_,L,Qgq h]) a)
end HT
namespace L2
open PyProof.Rows
abbrev TO:=St->Hp->(Option Int->Hp->Prop)->Prop
def PO(X:Cx)(e:Option Expr)(t:TO):Prop:=
 ∀ (a:X2) (s:X4) (b:St) (H:Hp) (Q:Option Int->Hp->Prop),Inv X a b H s->t b H Q->
   wpAny (model X.prog X.w) X.A (evalPart e X.env) (λu d=>∃o c,Inv X a b c d/\IsPart u o/\Q o c) X.xe s
def Ie:TO:=λ_ H Q=>Q none H
def NR(t:TE):TO:=λa H Q=>t a H λx H1=>∃i,x=.int i/\Q (some i) H1
def intsAre_of{ns:List Int}:∀{a:X5},bL (ns.map V.int) a->IntsAre a ns:=by
 induction ns with
 |nil=>intro a r;rw[List.map_nil] at r;cases r;show .nil
 | cons n ns c=>
   intro a r
   rw[QDq] at r
   cases r with
   | cons d b=>
     let#[t,e]:=d
     subst e
     show .cons n t (c b)
def I0:PO X none Ie:=by
 intro a s b H Q I h
 rw[evalPart_none]
 show Qgq #[none,H,I,.none,h]
def Ir(h:PE X e c):PO X (some e) (NR c):=by
 intro a s n H Q I b
 rw[evalPart_some]
 show cO (h a s n H _ I b) λu o m=>?_
 let#[x,H1,l,j,k]:=m
 let#[i,rfl,q]:=k
 let#[t,rfl]:=j
 show#[some i,H1,l,.int i t,q]
def Oh(X:Cx)(r:V->Option Int->Option Int->Hp->VK->Prop):Prop:=
 ∀ (a:X2) (s:X4) (i:St) (H:Hp) (x:V) (v h b:Xd) (lo hi:Xb) (sl:X8) (Q:VK),Inv X a i H s->RelV x v->s.heap.IsSliceOf sl h b .none->IsPart h lo->IsPart b hi->r x lo hi H Q->
   ∃T id,typeLookup (.type T) "__getitem__"=pure (some<|.builtin id)/\s.TypeIs v T/\wpAny (model X.prog X.w) X.A (getItem v<|.ref sl) (EP X a i Q) X.xe s
def QI(r:V->Option Int->Option Int->Hp->VK->Prop)(c:TE)(d th:TO):TE:=λa H Q=>c a H λx H1=>d a H1 λl H2=>th a H2 λu H3=>r x l u H3 Q
def yq{X:Cx}{e:Expr}{c:TE}{lo:Option Expr}{hi:Option Expr}{d:TO}{th:TO}{g:Pos}{f:Pos}{r:V->Option Int->Option Int->Hp->VK->Prop}(G:Oh X r)(he:PE X e c)(hl:PO X lo d)(M:PO X hi th):PE X (.Subscript e (.Slice lo hi none f) g) (QI r c d th):=by
 intro a s j H Q I h
 show Subscript_ (cO (he a s j H _ I h) λv N n=>?_)
 let#[x,H1,t,o,B]:=n
 show wpAny_Slice (cO (hl a N j H1 _ t B) λm z ⟨l,H2,F,J,P⟩=>cO (M a z j H2 _ F P) λk i n=>?_)
 let#[u,H3,y,K,C]:=n
 rw[evalPart_none]
 show Qgq ?_
 have p:Inv X a j H3 {i with heap:=i.heap.push {cls:=.type "slice",data:=.fields (List.toArray [m,k,.none])}}:=y.kept (t':=i.toks) λb R q=>Qcq _ q
 let#[T,id,hT,ht,hg]:=G a {i with heap:=i.heap.push {cls:=.type "slice",data:=.fields (List.toArray [m,k,.none])}} j H3 x v m k l u i.heap.objs.size Q p o (Heap.IsSliceOf.new ..) J K C
 show wpAny (model X.prog X.w) X.A (subscriptTail e (.Slice lo hi none f) v<|.ref i.heap.objs.size) (EP X a j Q) X.xe {i with heap:=i.heap.push {cls:=.type "slice",data:=.fields (List.toArray [m,k,.none])}}
 show tail_any (ops:= [.ref i.heap.objs.size,v]) ht hT hg (by with_unfolding_all rfl)
noncomputable def xP(xs:List V)(lo hi:Xb):List V:=(xs.drop<|HT.dQ xs.length 0 lo).take (HT.dQ xs.length xs.length hi-HT.dQ xs.length 0 lo)
def qP(xs:List V)(lo hi:Xb):(xP xs lo hi).length<=xs.length:=by
 unfold xP
 rw[Qxq,List.length_drop]
 omega
def PF(K:X1):V->Option Int->Option Int->Hp->VK->Prop:=λx lo hi H Q=>∃a b,x=.ref a/\gV K H a b∧
 ¬(HT.dQ b.length 0 lo=0/\HT.dQ b.length b.length hi=b.length)/\∀p,H p=none->Q (.ref p) (upd H p<|.tup (xP b lo hi))
def LP:Oh X (PF X.K):=by
 intro n s B H x v A y lo hi sl Q I u w p t h
 let#[a,j,rfl,hx,hw,q]:=h
 cases u
 let#[k,r,l,m]:=I.tuple hx
 have i:k.toArray.size=j.length:=by rw[Qjq];show r.length.symm
 show#["tuple",_,PyProof.Rows.slot_tuple_getitem.lookup,l.typeIs,?_]
 show HT.oY l w p t (by rw[i];show hw) ?_ (by rw[i];show m)
 rw[i]
 show#[.ref s.heap.objs.size,_,I.laid (t':=s.toks) (o:=.tup (xP j lo hi)) (λb z q=>Qcq _ q) (Qmq _) ?_,L,q _<|I.hok.fresh<|Qmq _]
 show#[QAq (qP j lo hi) m,_,(r.drop<|HT.dQ j.length 0 lo).take (HT.dQ j.length j.length hi-HT.dQ j.length 0 lo),uE.new _ _]
def Jg(K:X1):R2:=λx y H Q=>∃a b i h,x=.ref a/\y=.ref b/\gV K H a i/\gV K H b h/\i≠[]/\i.length+h.length<=sizeLine∧
 (h= []->Q (.ref a) H)/\(h≠[]->∀p,H p=none->Q (.ref p) (upd H p<|.tup (i++h)))
def bL.nil_iff(r:bL xs a):a= []↔xs= []:=by
 cases r with
 |nil=>simp
 |cons _ _=>simp
def Hi:jO X (binaryOp .Add) (Jg X.K):=by
 intro k s C H x y v u Q I r t h
 let#[a,b,p,A,rfl,rfl,ha,hb,hx,hz,q1,q2]:=h
 cases r
 cases t
 let#[m,j,n,_]:=I.tuple ha
 let#[l,i,f,_]:=I.tuple hb
 show HT.IU n f (λz=>hx<|j.nil_iff.mp z) (λz=>#[.ref a,H,I,L,q1<|i.nil_iff.mp z]) (λz=>?_) (by rw[<-j.length,<-i.length];show hz)
 show#[.ref s.heap.objs.size,_,I.laid (t':=s.toks) (o:=.tup (p++A)) (λb B q=>Qcq _ q) (Qmq _) ?_,L,q2 (λw=>z<|i.nil_iff.mpr w) _<|I.hok.fresh<|Qmq _]
 show#[by rw[lQa];show hz,_,j.append i,uE.new _ _]
noncomputable def GL(n:Nat)(i:Int):Option Nat:=if 0<=i then(if i<n then some i.toNat else none) else if -(n:Int)<=i then some (i+n).toNat else none
noncomputable def mi(xs:List α)(i:Int):Option α:=(GL xs.length i).bind λj=>xs[j]?
def Cw(h:GL n i=some j):seqIndex? i n=some j/\j<n/\ -(n:Int)<=i/\i<n:=by
 unfold GL at h
 by_cases b:0<=i
 ·rw[Qhq b] at h
  by_cases a:i<n
  ·rw[Qhq a] at h
   have e:i.toNat=j:=QdQ h
   show#[by rw[seqIndex_of b a,e],by omega,by omega,a]
  ·rw[Quq a] at h;cases h
 ·rw[Quq b] at h
  by_cases a: -(n:Int)<=i
  ·rw[Qhq a] at h
   have e:(i+n).toNat=j:=QdQ h
   show#[by rw[seqIndex_neg (!0) a,e],by omega,a,by omega]
  ·rw[Quq a] at h;cases h
def v5(h:mi xs i=some v):∃j,seqIndex? i xs.length=some j/\xs[j]?=some v/\j<xs.length/\ -(xs.length:Int)<=i/\i<xs.length:=by
 unfold mi at h
 cases e:GL xs.length i with
 |none=>rw[e] at h;cases h
 | some j=>
   rw[e] at h
   let#[c,a,d,b]:=Cw e
   show#[j,c,h,a,d,b]
def Ca(b:Expr):Prop:=∀o i,subscripted b false o i=operate [o,i] (getItem o i)
def Ib(X:Cx)(r:R2):Prop:=
 ∀ (c a:Expr) (b:X2) (s:X4) (d:St) (H:Hp) (x y:V) (v u:Xd) (Q:VK),Inv X b d H s->RelV x v->RelV y u->r x y H Q->
   subscripted a false v u=operate [v,u] (getItem v u)->wpAny (model X.prog X.w) X.A (subscriptTail c a v u) (EP X b d Q) X.xe s
def NW(X:Cx)(id:String)(r:V->List V->Hp->VK->Prop):Prop:=
 ∀ (a:X2) (s:X4) (d:St) (H:Hp) (x:V) (c:List V) (v:Xd) (b:X5) (Q:VK),Inv X a d H s->RelV x v->bL c b->r x c H Q->
   wpAny (model X.prog X.w) X.A (call (.builtin id) (v::b)) (EP X a d Q) X.xe s
def Ib.or(h:Ib X r)(h':Ib X f):Ib X (λx y H Q=>r x y H Q\/f x y H Q):=by
 intro d c e s k H x y v u Q I g j q i
 rcases q with q|q
 ·show h d c e s k H x y v u Q I g j q i
 ·show h' d c e s k H x y v u Q I g j q i
def Nd(g:Ib X r)(m:PE X a F)(d:PE X b C)(j:Ca b):PE X (.Subscript a b B) (GM r F C):=by
 intro c s l H Q I h
 show Subscript_ (Kw m d I h λv u e x y H2 f i k q=>g a b c e l H2 x y v u Q f i k q<|j _ _)
def Nr(K:X1):R2:=λx y H Q=>∃p c i v,x=.ref p/\y=.int i/\iX K H p c/\mi c i=some v/\Q v H
def NZ(K:X1):R2:=λx y H Q=>∃p c i v,x=.ref p/\y=.int i/\gV K H p c/\mi c i=some v/\Q v H
def NF:R2:=λx y H Q=>∃z i c,x=.str z/\y=.int i/\z.length<=sizeLine/\mi z.cps.toList i=some c/\Q (.str #[(List.toArray [c])]) H
def HQ:Ib X (Nr X.K):=by
 intro g f c s J H x y v u Q I S U h G
 let#[p,Y,i,z,rfl,rfl,hq,he,q]:=h
 cases S
 let#[t,rfl]:=U
 let#[l,r,m,W]:=I.list hq
 let#[j,e,N,Z,P,R]:=v5 he
 let#[w,A,k]:=r.get N
 let hl:=r.length
 let hn:=lM
 have d:EP X c J Q w s:=#[z,H,I,k,q]
 by_cases o:0<=i
 ·have n:i.toNat=j:=by
   rw[seqIndex_of o R] at e
   show QdQ e
  show item_listR m.isList o (!0) (by rw[n];simpa using A) d G
 ·have n:(i+(l.toArray.size:Int)).toNat=j:=by
   rw[seqIndex_neg (!0) P] at e
   rw[Qjq,<-hl]
   show QdQ e
  show subscriptTail_builtinR (x:=w) m.isList.typeIs slot_list_getitem.lookup
   (wpAny_getItem_list_neg (Q:=λr M=>r=w/\EP X c J Q r M) m.isList (!0) (by rw[Qjq] <;>omega) (!0) (by rw[n];simpa using A) #[L,d]) G
def Lu:Ib X (NZ X.K):=by
 intro e d c s l H x y v u Q I J N h M
 let#[p,U,i,z,rfl,rfl,hq,he,q]:=h
 cases J
 let#[t,rfl]:=N
 let#[o,r,k,S]:=I.tuple hq
 let#[j,A,n,W,P,R]:=v5 he
 let#[w,G,g]:=r.get n
 let hl:=r.length
 let Y:=lM
 have f:EP X c l Q w s:=#[z,H,I,g,q]
 show subscriptTail_builtinR (x:=w) k.typeIs slot_tuple_getitem.lookup
  (getItem_tuple (j:=j) (Q:=λr m=>r=w/\EP X c l Q r m) k (!0) (!0) (by rw[Qjq,<-hl];show A) (by simpa using G) #[L,f]) M
def Li:Ib X NF:=by
 intro e d g s J H x y v u Q I o r h p
 let#[z,i,c,rfl,rfl,hz,he,q]:=h
 let#[t,rfl]:=o
 let#[A,rfl]:=r
 let#[j,f,k,G,l,m]:=v5 he
 have hl:z.cps.toList.length=z.length:=by simp[Str.length]
 rw[hl] at f l m
 let K:=lM
 show tail_any (typeIs_str s z t) slot_str_getitem.lookup (getItem_str (c:=c) (by
  have w:decide (i< -(2^63:Int))=false:=Qdq (!0)
  have n:decide (i>=2^63)=false:=Qdq (!0)
  rw[w,n,Bool.or_false]) (by rw[f];simpa using k) #[.str #[(List.toArray [c])],H,I.tok _,#[_,L],q]) p
def Qx(K:X1):R2:=λx y H Q=>Nr K x y H Q\/NZ K x y H Q\/NF x y H Q
def KS:Ib X (Qx X.K):=HQ.or (Lu.or Li)
def Bq(c:X5)(n j:Nat)(u:Xd):Obj.mapSeq (·.setIfInBounds j u) {cls:=.type "list",data:=.seq c.toArray n}={cls:=.type "list",data:=.seq (c.set j u).toArray n}:=by
 simp[Obj.mapSeq]
def Inv.lst(I:Inv X d f H s)(h:H p=some (.lst xs)):
  ∃(c:X5) (n:Nat),bL xs c/\s.heap.get? p=some {cls:=.type "list",data:=.seq c.toArray n}/\xs.length<=sizeLine:=by
 let#[z,c,n,r,e]:=I.hok p _ h
 show#[c,n,r,e,z]
def Inv.lstUpd{d its':X5}(I:Inv X c j H s)(h:H p=some (.lst xs))
  (l:s.heap.get? p=some {cls:=.type "list",data:=.seq d.toArray n}) (i:f {cls:=.type "list",data:=.seq d.toArray n}={cls:=.type "list",data:=.seq its'.toArray g}) (r:bL ys its') (hz:ys.length<=sizeLine) (t:Nat):
  Inv X c j (upd H p<|.lst ys) {s with heap:=s.heap.update p f,toks:=t}:=by
 have e:(s.heap.update p f).get? p=some {cls:=.type "list",data:=.seq its'.toArray g}:=by
  rw[Heap.get?_update_self f l (by rw[i] <;>rfl),i]
 show I.write (x:=p) (e:=p) (by rw[h];trivial) (.inl L) (λb u k q=>(Heap.get?_update_other _ _<|Ne.symm k).trans q) #[_,e] ?_
 show#[hz,its',g,r,e]
def JJ:V->V->V->Hp->(Hp->Prop)->Prop:=λo i v H Q=>∃p c k j,o=.ref p/\i=.int k/\H p=some (.lst c)/\GL c.length k=some j/\Q (upd H p<|.lst (c.set j v))
def set_list:MX X JJ:=by
 intro d s J H o i v N R u Q I y K z h
 let#[p,G,k,j,rfl,rfl,hp,hj,q]:=h
 cases y
 let#[t,rfl]:=K
 let#[c,n,r,g,A]:=I.lst hp
 let#[e,M,x,m]:=Cw hj
 let hl:=r.length
 let P:=lM
 have w:Inv X d J (upd H p<|.lst (G.set j v)) {s with heap:=s.heap.update p (Obj.mapSeq (·.setIfInBounds j u))}:=
  I.lstUpd hp g (Bq c n j u) (r.set z j) (by rw[List.length_set];show A) s.toks
 by_cases l:0<=k
 ·have f:k.toNat=j:=by
   rw[seqIndex_of l m] at e
   show QdQ e
  show PySem.W.ki_setAt g l (!0) (by rw[Qjq,<-hl];show m) (by rw[f];show#[_,w,q])
 ·have f:(k+(c.toArray.size:Int)).toNat=j:=by
   rw[seqIndex_neg (!0) x] at e
   rw[Qjq,<-hl]
   show QdQ e
  show PySem.W.ki_setBack g (!0) (by rw[Qjq,<-hl];show x) (!0) (by rw[f];show#[_,w,q])
def xW(lo hi:Xb)(n:Nat):(sliceBounds lo hi none n).1=((HT.dQ n 0 lo:Nat):Int)/\(sliceBounds lo hi none n).2.1=((HT.dQ n n hi:Nat):Int)/\(sliceBounds lo hi none n).2.2=1:=by
 show#[?_,?_,L]
 ·cases lo with
  |none=>simp[sliceBounds,HT.dQ]
  | some i=>
    erw[sliceBounds,HT.dQ,Option.getD_none,show(1:Int)>0 by decide,if_true]
    by_cases h:i<0
    · erw[h,if_true] <;>omega
    · erw[h,if_false] <;>omega
 ·cases hi with
  |none=>simp[sliceBounds,HT.dQ]
  | some i=>
    erw[sliceBounds,HT.dQ,Option.getD_none,show(1:Int)>0 by decide,if_true]
    by_cases h:i<0
    · erw[h,if_true] <;>omega
    · erw[h,if_false] <;>omega
def uS(c:X5)(lo hi:Xb):slicePick c.toArray lo hi none=((c.drop<|HT.dQ c.length 0 lo).take (HT.dQ c.length c.length hi-HT.dQ c.length 0 lo)).toArray:=by
 let#[e,d,f]:=xW lo hi c.toArray.size
 unfold slicePick
 rw[e,d,f]
 erw[sliceRange_one,pick_run,Qjq] <;>rfl
def PN(K:X1):V->Option Int->Option Int->Hp->VK->Prop:=λx d e H Q=>∃a c,x=.ref a/\iX K H a c/\∀p,H p=none->Q (.ref p) (upd H p<|.lst (xP c d e))
def IY:Oh X (PN X.K):=by
 intro i s y H x v w t e f sl Q I n p l m h
 let#[a,c,rfl,hx,q]:=h
 cases n
 let#[j,r,g,k]:=I.list hx
 let d:=r.length
 show#["list",_,slot_list_getitem.lookup,g.isList.typeIs,?_]
 show wpAny_getItem_list_slice g.isList p l m .none (by simp) ?_ (by rw[Qjq] <;>omega)
 rw[uS,<-d]
 show#[.ref s.heap.objs.size,_,I.laid (t':=s.toks) (o:=.lst (xP c e f)) (λb u q=>Qcq _ q) (Qmq _) ?_,L,q _<|I.hok.fresh<|Qmq _]
 show#[QAq (qP c e f) k,_,0,(r.drop<|HT.dQ c.length 0 e).take (HT.dQ c.length c.length f-HT.dQ c.length 0 e),Qrq _ L]
noncomputable def gP:V->Bool
 |.non=>true
 |.bl _=>true
 |.int _=>true
 |.str _=>true
 |_=>false
noncomputable def qX:V->V->Bool
 |.non,.non=>true
 |.bl a,.bl b=>a==b
 |.bl a,.int b=>(if a then 1 else 0)==b
 |.int a,.bl b=>a==(if b then 1 else 0)
 |.int a,.int b=>a==b
 |.str a,.str b=>a==b
 |_,_=>false
def FX(f:RelV y u)(c:RelV x v)(g:gP y=true)(e:gP x=true):SeqAt.EqAt A s u v (qX y x):=by
 cases y with
 | non=>
   cases f
   cases x with
   |non=>cases c;show SeqAt.EqAt.same _
   |bl b=>cases c;show SeqAt.EqAt.none_bool b
   |int b=>let#[t,rfl]:=c;show SeqAt.EqAt.none_int b t
   |str b=>let#[t,rfl]:=c;show SeqAt.EqAt.none_str b t
   |_=>show absurd (show false=true from e) Qtq
 | bl a=>
   cases f
   cases x with
   |non=>cases c;show SeqAt.EqAt.bool_none a
   |bl b=>cases c;show SeqAt.EqAt.bool_bool a b
   |int b=>let#[t,rfl]:=c;show SeqAt.EqAt.bool_int a b t
   |str b=>let#[t,rfl]:=c;show SeqAt.EqAt.bool_str a b t
   |_=>show absurd (show false=true from e) Qtq
 | int a=>
   let#[d,rfl]:=f
   cases x with
   |non=>cases c;show SeqAt.EqAt.int_none a d
   |bl b=>cases c;show SeqAt.EqAt.int_bool a d b
   |int b=>let#[t,rfl]:=c;show SeqAt.EqAt.int_int a d b t
   |str b=>let#[t,rfl]:=c;show SeqAt.EqAt.int_str a d b t
   |_=>show absurd (show false=true from e) Qtq
 | str a=>
   let#[d,rfl]:=f
   cases x with
   |non=>cases c;show SeqAt.EqAt.str_none a d
   |bl b=>cases c;show SeqAt.EqAt.str_bool a d b
   |int b=>let#[t,rfl]:=c;show SeqAt.EqAt.str_int a d b t
   |str b=>let#[t,rfl]:=c;show SeqAt.EqAt.str_str a d b t
   |_=>show absurd (show false=true from e) Qtq
 |_=>show absurd (show false=true from g) Qtq
noncomputable def z_(x:V)(u:Xd):Bool:=match u with
 |.none=>qX .non x
 |.bool b=>qX (.bl b) x
 |.int i _=>qX (.int i) x
 |.str z _=>qX (.str z) x
 |_=>false
def wZ(r:RelV y u)(f:gP y=true):z_ x u=qX y x:=by
 cases y with
 |non=>cases r;rfl
 |bl b=>cases r;rfl
 |int i=>let#[t,rfl]:=r;rfl
 |str z=>let#[t,rfl]:=r;rfl
 |_=>show absurd (show false=true from f) Qtq
theorem oH:∀{xs:List V} {c:X5},bL xs c->xs.all gP=true->c.any (z_ x)=xs.any λy=>qX y x
 |_,_,.nil,_=>rfl
 | y::xs,u::c,.cons r t,f=>by
   rw[List.all_cons,QCq] at f
   rw[List.any_cons,List.any_cons,wZ r f.1,oH t f.2]
theorem jm(g:RelV x v)(e:gP x=true):∀{xs:List V} {d:X5},bL xs d->xs.all gP=true->∀u∈d,SeqAt.EqAt A s u v (z_ x u)
 |_,_,.nil,_=>λu c=>by cases c
 | y::xs,u::d,.cons r t,f=>λh c=>by
   rw[List.all_cons,QCq] at f
   rcases Qsq.mp c with rfl|c
   · rw[wZ r f.1];show FX r g f.1 e
   · show jm g e t f.2 h c
noncomputable def Ec(x:V)(xs:List V):Bool:=xs.any λy=>qX y x
def Pr(K:X1)(d:Bool):R2:=λx y H Q=>∃p c,y=.ref p/\(iX K H p c\/gV K H p c)/\gP x=true/\c.all gP=true/\Q (.bl (if d then !Ec x c else Ec x c)) H
def DU:jO X (compareOp .In) (Pr X.K false):=by
 intro g s m H x y v u Q I i k h
 let#[p,l,rfl,d,fx,fs,q]:=h
 cases k
 rcases d with d|d
 ·let#[c,r,f,j]:=I.list d
  show SeqAt.in_listAt (z_ x) f.isList (λw e=>jm i fx r fs w (by simpa using e)) #[.bl _,H,I,L,?_]
  rw[show c.toArray.any (z_ x)=c.any (z_ x) by simp,oH r fs]
  show q
 ·let#[c,r,f,j]:=I.tuple d
  show SeqAt.in_tupleAt (z_ x) f (λw e=>jm i fx r fs w (by simpa using e)) #[.bl _,H,I,L,?_]
  rw[show c.toArray.any (z_ x)=c.any (z_ x) by simp,oH r fs]
  show q
def xm:jO X (compareOp .NotIn) (Pr X.K true):=by
 intro g s m H x y v u Q I i k h
 let#[p,l,rfl,d,fx,fs,q]:=h
 cases k
 rcases d with d|d
 ·let#[c,r,f,j]:=I.list d
  show SeqAt.notIn_listAt (z_ x) f.isList (λw e=>jm i fx r fs w (by simpa using e)) #[.bl _,H,I,L,?_]
  rw[show c.toArray.any (z_ x)=c.any (z_ x) by simp,oH r fs]
  show q
 ·let#[c,r,f,j]:=I.tuple d
  show SeqAt.notIn_tupleAt (z_ x) f (λw e=>jm i fx r fs w (by simpa using e)) #[.bl _,H,I,L,?_]
  rw[show c.toArray.any (z_ x)=c.any (z_ x) by simp,oH r fs]
  show q
def w9:fm X (.builtin "len") (λxs H Q=>∃p ys,xs= [.ref p]/\(iX X.K H p ys\/gV X.K H p ys)/\Q (.int ys.length) H):=by
 intro i s k H xs m Q I r h
 let#[p,ys,rfl,d,q]:=h
 let#[u,rfl,rx]:=vals1 r
 cases rx
 let l:=lM
 rcases d with d|d
 ·let#[f,e,g,j]:=I.list d
  let c:=e.length
  show Calls.call_len_list g.isList (by erw[Qjq] <;>omega) #[.int ys.length,H,I.tok _,#[s.toks+1,by rw[Qjq,c]],q]
 ·let#[f,e,g,j]:=I.tuple d
  let c:=e.length
  show len_tuple g (by erw[Qjq] <;>omega) #[.int ys.length,H,I.tok _,#[s.toks+1,by rw[Qjq,c]],q]
def wY:fm X (.builtin "len") (λxs H Q=>∃z,xs= [.str z]/\z.length<=sizeLine/\Q (.int z.length) H):=by
 intro c s e H xs d Q I r h
 let#[z,rfl,hz,q]:=h
 let#[u,rfl,t,rfl]:=vals1 r
 let f:=lM
 show len_str (!0) #[.int z.length,H,I.tok _,#[_,L],q]
def fm.or(h:fm X f r)(h':fm X f e):fm X f (λxs H Q=>r xs H Q\/e xs H Q):=by
 intro c s i H xs g Q I d q
 rcases q with q|q
 ·show h c s i H xs g Q I d q
 ·show h' c s i H xs g Q I d q
def uF:fm X (.type "tuple") (λxs H Q=>∃p ys,xs= [.ref p]/\((iX X.K H p ys/\∀l,H l=none->Q (.ref l) (upd H l<|.tup ys))\/(gV X.K H p ys/\Q (.ref p) H))):=by
 intro c s t H xs y Q I r h
 let#[p,ys,rfl,h]:=h
 let#[u,rfl,rx]:=vals1 r
 cases rx
 rcases h with⟨i,q⟩|⟨i,q⟩
 ·let#[d,g,j,n]:=I.list i
  let m:=g.length
  show call_tuple_list j.isList (λf v=>?_) (by erw[Qjq] <;>omega)
  have k:Inv X c t H {s with heap:=f}:=I.kept (t':=s.toks) v
  have x:Inv X c t (upd H f.objs.size<|.tup ys) {s with heap:=f.push {cls:=.type "tuple",data:=.seq d.toArray}}:=
   k.laid (t':=s.toks) (λb o e=>Qcq _ e) (Qmq _) (show cV X.prog X.w _ _ _ (.tup ys) from#[n,d,g,uE.new _ _])
  show#[.ref f.objs.size,_,x,L,q _<|k.hok.fresh<|Qmq _]
 ·let#[d,g,j,n]:=I.tuple i
  show call_tuple_same j #[.ref p,H,I,L,q]
def Qa(K:X1)(T:String)(x:V)(H:Hp):Prop:=match x with
 |.str _=>T="str"
 |.int _=>T="int"
 |.ref p=>(T="list" /\∃d,iX K H p d)\/(T="tuple" /\∃o,K.lookup p=some o/\o.cls=.type "tuple" /\o.dict=none)∨
   (T="dict" /\((∃c,H p=some (.dK c))\/∃c,H p=some (.dT c)))\/(T="set" /\∃S n,H p=some (.set S n))
 |_=>False
def Km{T:String}(I:Inv X g w H s)(r:RelV x v)(h:Qa X.K T x H):
  s.TypeIs v T/\∀a,v=.ref a->∃m,s.heap.get? a=some m/\m.dict=none:=by
 cases x with
 | str z=>
   let#[t,rfl]:=r
   cases (show T="str" from h)
   show#[typeIs_str s z t,λ_ e=>nomatch e]
 | int i=>
   let#[t,rfl]:=r
   cases (show T="int" from h)
   show#[typeIs_int s i t,λ_ e=>nomatch e]
 | ref p=>
   cases r
   rcases h with⟨rfl,xs,hq⟩|⟨rfl,o,d,hc,j⟩|⟨rfl,d⟩|⟨rfl,S,n,d⟩
   · let#[u,_,q,_]:=I.list hq
     show#[q.isList.typeIs,λa e=>?_]
     cases e
     let#[o,n,e,c,j,_]:=q
     show#[o,e,j]
   · show#[#[o,I.kIn p o d,hc],λa e=>?_]
     cases e
     show#[o,I.kIn _ o d,j]
   · have z:∃o,s.heap.get? p=some o/\o.ExactDict:=by
       rcases d with⟨k,d⟩|⟨k,d⟩
       · let#[_,_,_,_,o,_,_,e,f,_]:=I.hok p _ d
         show#[o,e,f]
       · let#[_,_,_,_,o,_,_,e,f,_]:=I.hok p _ d
         show#[o,e,f]
     let#[o,e,f]:=z
     show#[#[o,e,f.1],λa l=>?_]
     cases l
     show#[o,e,f.2.1]
   · let#[o,_,_,_,e,f,_]:=I.hok p _ d
     show#[#[o,e,f.1],λa l=>?_]
     cases l
     show#[o,e,f.2.1]
 |_=>show False.elim h
def Oc(K:X1)(T:String)(r:V->List V->Hp->VK->Prop)(m:TE)(t:TA):TE:=λc H Q=>m c H λx H1=>Qa K T x H1/\t c H1 λd H2=>r x d H2 Q
def yr{X:Cx}{o:Expr}{e:Expr}{es:List Expr}{m:TE}{t:TA}{name:Str}{g:Pos}{d:Pos}{T:String}{id:String}{r:V->List V->Hp->VK->Prop}(pa:PlainAttrs T)(k:Slot T name id)(n:typeOf (.builtin id)=pure (.type "method_descriptor"))(Y:NW X id r)(N:PE X o m)(ha:PA X (e::es) t)
  (i:autoParam (attributeBase o name X.env (eval o X.env)=eval o X.env) db._auto_1)
  (l:autoParam (((backTo d (starEach (e::es) X.env)).all (λx=> !x.1)&&(backToKw d (keywordEach [] X.env)).all (λx=>x.1.isSome)
   &&decide ((e::es).length+([]:List Keyword).length+(if ([]:List Keyword).isEmpty then 0 else 1)<30))=true) db._auto_1)
  (j:autoParam ((g.endLine==d.line)=true) db._auto_1) (R:autoParam (starEach (e::es) X.env=(false,eval e X.env)::starEach es X.env) db._auto_1) (f:autoParam ((backTo d<|starEach es X.env).any (·.1)=false) db._auto_1):
  PE X (.Call (.Attribute o name g) (e::es) [] d) (Oc X.K T r m t):=by
 intro c s p H Q I h
 show wpAny_Call_method_late i l j L (cO (N c s p H _ I h) λv P S=>?_)
 let#[x,H1,u,q,U,G]:=S
 let#[J,y]:=Km u q U
 show#[T,id,pa,k,n,J,y,?_]
 let w:=ha d c P p H1 _ u G
 rw[R] at w|-
 show Calls.callWith_builtin (by show(false||(backTo d<|starEach es X.env).any (·.1))=false;rw[f] <;>rfl)<|Calls.evalArgs_plain ?_
 show cO w λZ A ⟨z,H2,M,W,q2⟩=>Y c A p H2 x z v Z Q M q W q2
def PQ(X:Cx)(id:String)(r:V->List V->Hp->VK->Prop):Prop:=
 ∀ (a:X2) (s:X4) (d:St) (H:Hp) (x:V) (c:List V) (v:Xd) (b:X5) (Q:VK),Inv X a d H s->RelV x v->bL c b->r x c H Q->
   wpAny (model X.prog X.w) X.A (call (.builtin id) (v::b)) (EP X a d Q) X.xe s
def bL.one:∀{x:V} {a:X5},bL [x] a->∃u,a= [u]/\RelV x u
 |_,_,.cons r .nil=>#[_,L,r]
theorem bL.rep(h:bL xs a):∀k:Nat,bL (List.replicate k xs).flatten (List.replicate k a).flatten
 |0=>.nil
 | k+1=>by
   rw[QNq,QNq,List.flatten_cons,List.flatten_cons]
   show bL.append h<|bL.rep h k
theorem foldl_rep(a:X5):∀(k:Nat) (b:X5),
  List.foldl (λd f=>d++f) b.toArray (List.replicate k a.toArray)=(b++(List.replicate k a).flatten).toArray
 |0,b=>by simp
 | k+1,b=>by
   have e:b.toArray++a.toArray=(b++a).toArray:=by simp
   have c:(b++a)++(List.replicate k a).flatten=b++(List.replicate (k+1) a).flatten:=by
     rw[QNq,List.flatten_cons,Qvq]
   rw[<-c,<-foldl_rep a k (b++a),<-e,QNq,List.foldl_cons]
def Inv.lset{g its':X5}{f:Array Value->Array Value}(I:Inv X a c H s)(j:H l=some (.lst xs))
  (e:s.heap.get? l=some {cls:=.type "list",data:=.seq g.toArray n}) (h:f g.toArray=its'.toArray) (i:bL ys its') (hz:ys.length<=sizeLine):
  Inv X a c (upd H l<|.lst ys) {s with heap:=s.heap.update l (Obj.mapSeq f),toks:=t'}:=by
 let q:=PySem.IsL.update e f
 rw[h] at q
 show I.write (x:=l) (e:=l) (by rw[j];show trivial) (.inl L) (λo u m k=>(Heap.get?_update_other s.heap (Obj.mapSeq f)<|Ne.symm m).trans k) #[_,q] ?_
 show#[hz,its',_,i,q]
def Inv.lnew(I:Inv X a c H s)(f:bL ys e)(hz:ys.length<=sizeLine):
  Inv X a c (upd H s.heap.objs.size<|.lst ys) {s with heap:=s.heap.push {cls:=.type "list",data:=.seq e.toArray},toks:=t'}:=
 I.laid (λ_ _ q=>Qcq _ q) (Qmq _) #[hz,e,0,f,Qrq _ L]
def Inv.fresh(I:Inv X a c H s):H s.heap.objs.size=none:=I.hok.fresh (Qmq _)
def Inv.lstM(I:Inv X a c H s)(g:H l=some (.lst xs)):xs.length<=sizeLine/\∃(f:X5) (n:Nat),bL xs f/\xs.length=f.length/\s.heap.get? l=some {cls:=.type "list",data:=.seq f.toArray n}:=by
 let#[z,f,n,r,e]:=I.hok l _ g
 show#[z,f,n,r,r.length,e]
def tF(h:n<=sizeLine):Builtin.List.listTooLong n=false:=by
 unfold Builtin.List.listTooLong
 show Qdq (!0)
def CC:V->List V->Hp->VK->Prop:=λx b H Q=>∃l a y,x=.ref l/\b= [y]/\H l=some (.lst a)/\a.length<sizeLine/\Q .non (upd H l<|.lst (a++ [y]))
def pP:PQ X "list.append" CC:=by
 intro b s i H x f v j Q I d c h
 let#[l,g,y,rfl,rfl,hH,hz,q]:=h
 cases d
 let#[u,rfl,ru]:=c.one
 let#[z,a,n,r,hl,e]:=I.lstM hH
 show call_meets F.slot_list_append #[_,e,L] F.entry_list_append (F.args_list_append_2 _ _) (PySem.list_append l a.toArray n u (by rw[Qjq];omega)) #[e,?_]
 show#[.non,_,I.lset (its':=a++ [u]) hH e (by simp) (r.append<|.cons ru .nil) ?_,L,q]
 rw[lQa,List.length_singleton]
 omega
def Co:V->List V->Hp->VK->Prop:=λx d H Q=>∃l b a c,x=.ref l/\d= [.ref b]/\H l=some (.lst a)/\H b=some (.lst c)/\a.length+c.length<=sizeLine/\Q .non (upd H l<|.lst (a++c))
def C_:PQ X "list.extend" Co:=by
 intro g s B H x y v C Q I m j h
 let#[l,b,A,t,rfl,rfl,hH,hB,hz,q]:=h
 cases m
 let#[u,rfl,ru]:=j.one
 cases ru
 let#[z,c,n,r,hl,e]:=I.lstM hH
 let#[w,a,p,o,i,k]:=I.lstM hB
 have f:c.toArray.size+a.toArray.size<=sizeLine:=by rw[Qjq,Qjq];omega
 have d:¬(!c.toArray.isEmpty&&Builtin.List.listTooLong (c.toArray.size+a.toArray.size))=true:=by
  rw[tF f,Bool.and_false]
  show Qtq
 show call_meets F.slot_list_extend #[_,e,L] F.entry_list_extend (F.args_list_extend_2 _ _)
  (AutoSeq1.list_extend_list_list_0 l c.toArray n b a.toArray p d (by rw[Qjq];omega) (!0)) #[e,k,?_]
 show#[.non,_,I.lset (its':=c++a) hH e (by simp) (r.append o) ?_,L,q]
 rw[lQa]
 omega
def Py:R2:=λx y H Q=>∃l b a c,x=.ref l/\y=.ref b/\H l=some (.lst a)/\H b=some (.lst c)/\a.length+c.length<=sizeLine/\∀p,H p=none->Q (.ref p) (upd H p<|.lst (a++c))
def LL:jO X (binaryOp .Add) Py:=by
 intro d s w H x y v u Q I i j h
 let#[l,b,t,o,rfl,rfl,hH,hB,hz,q]:=h
 cases i
 cases j
 let#[z,c,n,r,hl,e]:=I.lstM hH
 let#[p,a,A,k,f,g]:=I.lstM hB
 show PySem.P.add_list e g ?_ (by rw[Qjq,Qjq];omega)
 have m:c.toArray++a.toArray=(c++a).toArray:=by simp
 rw[m]
 show#[.ref _,_,I.lnew (t':=s.toks) (r.append k) (by rw[lQa];omega),L,q _ I.fresh]
def Ph:R2:=λx y H Q=>∃l k a,x=.ref l/\y=.int k/\H l=some (.lst a)/\ -(2^63)<=k/\k<2^63/\a.length*k.toNat<=sizeLine∧
 ∀p,H p=none->Q (.ref p) (upd H p<|.lst (List.replicate k.toNat a).flatten)
def len_rep(xs:List α)(k:Nat):(List.replicate k xs).flatten.length=k*xs.length:=by
 induction k with
 |zero=>simp
 |succ k a=>rw[QNq,List.flatten_cons,lQa,a,Nat.succ_mul,Nat.add_comm]
def Lg:jO X (binaryOp .Mult) Ph:=by
 intro p s K H x y v u Q I B C h
 let#[l,k,J,rfl,rfl,hH,h1,h2,hz,q]:=h
 cases B
 let#[t,rfl]:=C
 let#[z,b,n,r,hl,e]:=I.lstM hH
 have f:b.toArray.size*k.toNat<=sizeLine:=by rw[Qjq,<-hl];show hz
 have d:¬b.toArray.size*k.toNat>(2^63-1)/8:=by
  have:(sizeLine:Nat)<=(2^63-1)/8:=by decide
  omega
 have i:¬(!Builtin.List.listFitsIndex k)=true:=by
  rw[fitsIndex_both h1 h2]
  show Qtq
 have c:¬Builtin.List.listTooLong (b.toArray.size*k.toNat)=true:=by
  rw[tF f]
  show Qtq
 have g:List.foldl (λo j=>o++j) (List.toArray []) (List.replicate (if b.toArray.isEmpty=true then 0 else k.toNat) b.toArray)=(List.replicate k.toNat b).flatten.toArray:=by
  have A:∀m:Nat,List.foldl (λo j=>o++j) (List.toArray []) (List.replicate m b.toArray)=(List.replicate m b).flatten.toArray:=λm=>by
   have:=foldl_rep b m []
   rw[List.nil_append] at this
   show this
  rw[A]
  cases b with
  |nil=>simp
  |cons a G=>rw[Quq (by simp)]
 show wpAny_binaryOp_repeat_ref (T:="list") (U:="int") (!1) #[_,e,L] (λw=>typeIs_int w k t) noFill_list_mul F.fills_int_mul F.slot_int_rmul repeat_list F.slot_int_index.lookup
  (call_meets F.slot_int_rmul (typeIs_int s k t) F.entry_int_rmul (F.args_int_rmul_2 _ _) (int___rmul___int_list k t l b.toArray n)
   #[e,L,#[_,e,L],call_meets F.slot_list_mul #[_,e,L] F.entry_list_mul (F.args_list_mul_2 _ _) (AutoListH.list___mul___list_int_3 l b.toArray n k t i d c) #[e,?_]])
 rw[g]
 show#[.ref _,_,I.lnew (t':=s.toks) (r.rep k.toNat) (by rw[len_rep,Nat.mul_comm];show hz),L,q _ I.fresh]
end L2
namespace Att
open PySem PySem.W PySem.Calls PyProof.Rows
def rf:∀(ns:List Int) (vs:X5),WellAll P h vs (ns.map WData.int)->IntsAre vs ns:=by
 intro ns
 induction ns with
 | nil=>
   intro vs w
   rw[List.map_nil] at w
   cases w
   show .nil
 | cons n ns c=>
   intro vs w
   rw[QDq] at w
   cases w with
   | cons a b=>
     cases a
     show .cons _ _ (c _ b)
def DI{l:OpenLaw}(p:l.most=some n)
  (c:l.row.toRowW.claim.pre args=true) (j:WellAll P h b args):
  ∃a vs ns,b= [Value.ref a]/\args= [WData.list (ns.map WData.int)]/\h.get? a=some {cls:=.type "list",data:=.seq vs.toArray}/\IntsAre vs ns/\ns.length<=n:=by
 have v7:WShape.hasAll [] args [.list .int]=true:=(pre_splitW c).1
 have k:l.pre.holds [] {args:=args}=true:=(pre_splitW c).2
 let#[d,r,rfl,h1,h2]:=hasAllW_cons v7
 obtain rfl:=hasAllW_nil h2
 let#[u,rfl,h3]:=hasW_list h1
 let#[ns,rfl]:=items_int h3
 have e:ns.length<=n:=by
  unfold OpenLaw.pre at k
  have g:(WTm.not<|.lt (.lit (.int (n:Int))) (.len (.arg 0))).holds [] {args:= [.list (ns.map .int)]}=true:=by
   let g:=(holds_andW k).1
   rw[p] at g
   show g
  let i:=condW_of g (w_not<|w_lt w_lit<|w_len_list<|w_arg L)
  rw[lQm] at i
  show Nat.le_of_not_lt λq=>?_
  have t:(n:Int)<((ns.length:Nat):Int):=by omega
  first
   |(rw[Qeq t] at i;show absurd i (!1))
   |(simp at i;omega)
 cases j with
 | cons m s=>
   cases s
   cases m with
   |list o f=>show#[_,_,ns,L,L,o,rf ns _ f,e]
def DQ(l:OpenLaw)(args:List WData):l.row.toRowW.claim.post args (.bool true) args=true:=
 postW_of (r:=l.row.toRowW) (X:=(true==true))
  (show WShape.has [] (.bool true) .bool=true by first|rfl|decide|simp[WShape.has,WShape.arms,WShape.armsAll])
  (show(WTm.eq .res<|.lit (.bool true)).value [] {args:=args,res:=some (.bool true),after:=args}=some (.bool (true==true)) from w_eq_bool (w_res L) w_lit) L
def y7{l:OpenLaw}{B:World->Heap->Prop}{d:DefRec}
  (M:l.most=some n) (t:d.params.defaults= [])
  (h:∀(w:Xc) (c b:X4) (m u:X3) (i:X8) (o:Obj) (p k g:Xd) (a:X8) (vs:X5) (ns:List Int),
   Ground q e [] C w c m u b.heap->B w b.heap->
   b.heap.get? i=some o->o.data=.func (docDef d.name d.params d.body d.scope p k g)->b.heap.CodeRec k d.name->m d.name=some (.ref i)->
   b.heap.get? a=some {cls:=.type "list",data:=.seq vs.toArray}->IntsAre vs ns->ns.length<=n->b.gens= (List.toArray [])->
   codeAny (model l.prog w) callerA (.call (.ref i) #[[.ref a],[]]) (λr s'=>r=.ok (.ret (.bool true))/\OldK b.heap s'.heap/\s'.os=b.os/\AllBare s'.gens) b):
  WalkO q e C B l.row.toRowW d [] (λf vs=>PySem.call f vs):=by
 intro w c b m u G Y i o p k g Q kV K H x A v I y z S j F R s P
 obtain rfl:Q=.none:=Dflts.none A t
 obtain rfl:kV=.none:=Dflts.noKw A
 let#[a,vs,ns,rfl,rfl,hobj,hints,hlen]:=DI M j s
 show enter_call (codeAny_mono (h w c b m u i o p k g a vs ns G Y K (fd_plain H) x v hobj hints hlen I) λr s' J=>?_)
 let#[rfl,h2,h3,h4]:=J
 show#[.inl #[.bool true,.bool true,[],L,λ_=>rfl,.bool true,DQ l _,λ_=>#[List.Pairwise.nil,λ_ N=>(nomatch N)]],h2,h3,h4]
end Att
namespace L2
open PyProof.Rows
theorem uY:∀{vs:X5} {ns:List Int},IntsAre vs ns->bL (ns.map V.int) vs
 |_,_,.nil=>.nil
 |_,_,.cons n t h=>.cons #[t,L] (uY h)
def IG(H:Hp):Prop:=∀b,H b=none\/∃o a,H b=some (.frz o (.lst a))
def ES{K:X1}{c:X4}{vs:X5}
  (KX:K.In c.heap) (M:c.heap.Ns mainGlobals Q) (g:c.heap.Ns builtinsNs Y) (S:∀x:Str,x≠"__name__" ->Y x=bootBuiltins x) (N:c.heap.NoLimit) (hg:c.gens= (List.toArray []))
  (R:c.heap.get? a=some {cls:=.type "list",data:=.seq vs.toArray}) (hi:IntsAre vs ns) (hl:ns.length<=sizeLine) (hr:eP k callerA)
  (F:∀i:Heap,K.In i->i.Ns mainGlobals Q->bC P w K Q i CX k fa fd [x] sp) (p:∀(s:X4) (u:Xd),BindsTo s fd #[[u],[]] [(x,u)])
  (a0:∀H:Hp,IG H->iX K H a (ns.map V.int)->sp [.ref a] H (λv _=>v=.bl true) λ_ _ _=>False)
  (Z:∀H e s',CX [] H c (λ_ _ _=>False) e s'->False):
  codeAny (model P w) callerA (.call (.ref fa) #[[.ref a],[]]) (λr s'=>r=.ok (.ret (.bool true))/\OldK c.heap s'.heap/\s'.os=c.os/\AllBare s'.gens) c:=by
 let rv:=uY hi
 let G:=hi.length
 have l:∀H:Hp,IG H->iX K H a (ns.map V.int)->n_ P w H c.heap->(∀b,H b≠none->b=a)->(H a≠none->K.lookup a=none)->
   codeAny (model P w) callerA (.call (.ref fa) #[[.ref a],[]]) (λr s'=>r=.ok (.ret (.bool true))/\OldK c.heap s'.heap/\s'.os=c.os/\AllBare s'.gens) c:=by
  intro H hO hS y hA hK
  have f:∀{b:X8} {o:Obj},c.heap.get? b=some o->H b=none->(xX c.heap H).get? b=some o:=λe n=>EO e n
  have U:∀{b:X8} {o:Obj} {C:Array DictEntry} {I:Nat},c.heap.get? b=some o->o.data=.dict C I->H b=none:=λ{b o C I} e d=>by
   cases q:H b with
   |none=>rfl
   | some u=>
     have e':b=a:=hA b (by rw[q];simp)
     subst e'
     rw[R] at e;cases e
     have d':Data.seq vs.toArray _=Data.dict C I:=d
     cases d'
  have j:∀{b:X8} {m:X3},c.heap.Ns b m->(xX c.heap H).Ns b m:=λ{b m} ⟨o,C,I,e,d,r⟩=>#[o,C,I,f e<|U e d,d,r]
  have A:K.In (xX c.heap H):=λb o e=>f (KX b o e) (by
   cases q:H b with
   |none=>rfl
   | some u=>
     have e':b=a:=hA b (by rw[q];simp)
     subst e'
     rw[hK (by rw[q];simp)] at e;cases e)
  have hM:Mod K Q (xX c.heap H):=#[A,j M,#[Y,j g,S],let ⟨mc,h1,h2⟩:=N;#[mc,j h1,h2]]
  have e0:Hb P w K Q (xX c.heap H) callerA [] c H:=#[L,hM,λb o e=>Hd e,Nat.le_of_eq<|Da _ _,trivial,λb g=>absurd (show b∈([]:List Addr) from g) (by simp),y,.of_eq hg]
  show codeAny_mono ((F _ A<|j M).run callerA [] c H #[[.ref a],[]] [.ref a] [.ref a] _ _ hr e0 (p c<|.ref a) (.cons rfl .nil) (a0 H hO hS)) λr s' h=>?_
  cases r with
  |error e=>show(Z H e s' h).elim
  | ok fl=>
    cases fl with
    |next=>show False.elim h
    |brk=>show False.elim h
    |cont=>show False.elim h
    | ret u=>
      let#[v,H',os,t,un,J,r',q]:=h
      have q':v=.bl true:=q
      subst q'
      obtain rfl:u=Value.bool true:=r'
      show#[L,OldK.of_keep λb o e=>?_,os,t]
      cases q:H b with
      |none=>show un.keep b o e q (by intro z;show absurd (show b∈([]:List Addr) from z) (by simp)) (by simp)
      | some u=>
        rcases hO b with z|⟨ob,xs,z⟩
        · rw[q] at z;cases z
        · have z2:=un.frzs b ob _ z
          let#[e1,_]:=y b _ z
          let#[e2,_]:=J b _ z2
          rw[e] at e1;cases e1
          show e2
 cases X:K.lookup a with
 | some o=>
   let e:=KX a o X
   rw[R] at e
   cases e
   show l (λ_=>none) (λ_=>.inl L) (.inr #[_,vs.toArray,_,X,L,L,L,by rw[Qjq,G];show hl,by simpa using rv]) (λb u z=>by have B:(none:Option HO)=some u:=z;cases B) (λb z=>absurd L z) λz=>absurd L z
 | none=>
   show l (λb=>if b=a then some (.frz {cls:=.type "list",data:=.seq vs.toArray} (.lst (ns.map V.int))) else none) (λb=>?_) (.inl (.inr #[{cls:=.type "list",data:=.seq vs.toArray},Qhq L])) (λb u z=>?_) (λb z=>?_) λ_=>X
   · by_cases g:b=a
     · show .inr #[_,_,Qhq g]
     · show .inl (Quq g)
   · by_cases g:b=a
     · have B:=(Qhq g).symm.trans z
       cases B
       subst g
       show#[R,by rw[lQm];show hl,vs,_,rv,R]
     · have B:=(Quq g).symm.trans z
       cases B
   · by_cases g:b=a
     · show g
     · show absurd (Quq g) z
def Ho{l:PySem.W.OpenLaw}{P:World->Heap->Prop}{d:DefRec}{K:Params->PySem.W.Frag}{CX:World->D_}{sp:World->Sp}
  (hn:l.most=some n) (C:n<=sizeLine) (A:d.params.defaults= []) (hr:eP k callerA)
  (Z:∀(w:Xc) (h:Xe),P w h->(K w.params).In h)
  (F:∀(w:Xc) (p:X3) (y:X8) (h:Xe),(K w.params).In h->h.Ns mainGlobals p->p d.name=some (.ref y)->
   ∃ z:FuncData,(∀(s:X4) (u:Xd),BindsTo s z #[[u],[]] [(x,u)])∧
     ∀c:Heap,(K w.params).In c->c.Ns mainGlobals p->bC l.prog w (K w.params) p c (CX w) k y z [x] (sp w))
  (J:∀(w:Xc) (H:Hp) (a:X8) (ns:List Int),ns.length<=n->IG H->iX (K w.params) H a (ns.map V.int)->sp w [.ref a] H (λv _=>v=.bl true) λ_ _ _=>False)
  (B:∀(w:Xc) (H:Hp) (s:X4) (e:Xd) (s':X4),CX w [] H s (λ_ _ _=>False) e s'->False):
  PySem.W.WalkO q j S P l.row.toRowW d [] (λf vs=>PySem.call f vs):=by
 show Att.y7 hn A λw N t p mb y o pm cd a0 a vs ns G Y ho hd a1 I r m i R=>?_
 let M:=Z w _ Y
 let#[z,Q,X]:=F w p y _ M G.T.g I
 show ES M G.T.g G.T.b G.T.builtins G.T.nolimit R r m (QAq i C) hr X Q (λH U hS=>J w H a ns i U hS) λH e s'=>B w H t e s'
noncomputable def gR(s:Stmt):Arguments:=match s with
 |.FunctionDef _ a _ _ _ _ _ _ _ _=>a
 |_=>{posonlyargs:= [],args:= [],vararg:=none,kwonlyargs:= [],kw_defaults:= [],kwarg:=none,defaults:= []}
noncomputable def eW(s:Stmt):List Stmt:=match s with
 |.FunctionDef _ _ b _ _ _ _ _ _ _=>b
 |_=> []
noncomputable def aC(s:Stmt):Scope:=match s with
 |.FunctionDef _ _ _ _ _ _ a _ _ _=>a
 |_=>{kind:=.function,names:= [],isGenerator:=false,isCoroutine:=false}
abbrev dX:D_:=λ_ _ _ _ _ _=>False
abbrev E0:XK:=λ_ _ _=>False
def Ei:Bp dX X E0:=λ_ _ _ _ _ _ _ h=>h.elim
structure eQ(K:X1)(x qual:Str)(st:Stmt)(f:X8)(fd:FuncData):Prop where
 ex:∃(oc:Xd) (od:Option Addr) (kV doc pm:Xd) (an:Option Addr) (cdv ct:Xd) (osl:Array (Option Value)),
  fd=PySem.W.fnOf x qual (gR st) (eW st) (aC st) .none kV doc pm an cdv ct/\K.lookup f=some #[oc,od,.func fd,osl]/\PySem.W.codeIn K cdv qual=true
 kp:PySem.W.keepIn K (.ref f)=true
def eQ.ok{P:X9}{w:Xc}{K:X1}{b:X3}{a:Xe}{x d:Str}{st:Stmt}{f:X8}{l:FuncData}{N ps:X6}{k:Nat}{sp:Sp}(F:eQ K x d st f l)(S:aJ N ps (aC st))(j:∀vs H Q E,sp vs H Q E->vs.length=ps.length)
  (g:∀(e:Xd) (A:X_) (c:List Env) (s:X4) (H:Hp) (vs:List V) (Q:VK) (E:XK),eP k (A.deeper (envOfC d (aC st) s.heap.objs.size f e))->sp vs H Q E->
   ∃t,rq (zX dX P w K b a N d (aC st) f e A c s H E).nox (eW st) t/\t {nx:=λ_ o=>Q .non o,rt:=Q} (start N vs) H):bC P w K b a dX (k+1) f l ps sp:=by
 let#[u,y,kV,n,r,v,e,z,p,rfl,lk,hcd]:=F.ex
 show My lk hcd S j λA c s H vs Q E m i=>?_
 let#[t,h,q]:=g e A c s H vs Q E m i
 show#[t,h.nox,q]
def eQ.binds{K:X1}{x c:Str}{st:Stmt}{f:X8}{l:FuncData}{ps:X6}(F:eQ K x c st f l)
  (h:∀(kV e i:Xd) (g:Option Addr) (d k:Xd) (j:X5),j.length=ps.length->bindArgs (PySem.W.fnOf x c (gR st) (eW st) (aC st) .none kV e i g d k) #[j,[]]=pure (ps.zip j)):Binds K l ps []:=by
 let#[o,n,kV,e,i,g,d,k,m,rfl,lk,hcd]:=F.ex
 show .all (h kV e i g d k)
def AM{K:X1}{x d:Str}{st:Stmt}{f:X8}{o:Xd}{n i:Option Addr}{h:Array (Option Value)}{kV g j e m:Xd}(l:K.lookup f=some #[o,n,.func (PySem.W.fnOf x d (gR st) (eW st) (aC st) .none kV g j i e m),h])
  (c:PySem.W.codeIn K e d=true) (k:PySem.W.keepIn K (.ref f)=true):eQ K x d st f (PySem.W.fnOf x d (gR st) (eW st) (aC st) .none kV g j i e m):=#[#[o,n,kV,g,j,i,e,m,h,L,l,c],k]
def Cp(a:eP k A):A.units+1<cLine:=Nat.lt_of_le_of_lt (Nat.add_le_add_left (by decide:1<=64) _) a.units
def aL(h:n<=1000):n<sizeLine:=Nat.lt_of_le_of_lt h (!1)
def pv{X:Cx}(i:Nat)(e:autoParam (X.N[i]?=some x) db._auto_1)(d:autoParam (Io X.env.scope x) dz._auto_1)(c:autoParam ((x==("__debug__":Str))=false) cU._auto_1)
  (b:autoParam ((x==("__classdict__":Str))=false) cU._auto_1):PE X (.Name x a) (KC i):=Fd e d c b
def Df:fm X (.builtin "len") (λxs H Q=>∃a kvs,xs= [V.ref a]/\H a=some (.dK kvs)/\Q (.int kvs.length) H):=by
 intro b s f H xs d Q I r h
 let#[a,kvs,rfl,ha,q]:=h
 let#[u,rfl,ru]:=vals1 r
 cases ru
 show se I (.inl ha) λt e c=>#[.int kvs.length,H,c,#[t,L],q]
def oz{R:Result->Shared->Prop}(I:Nat->Shared->Prop)
  (C:∀n s,I n s->wpAny (model prog w) A (pyNext it) (λr f=>match r with
   |none=>R (.ok .next) f
   |some v=>wpAny (model prog w) A (letOwnedTupleGo a it v) (λ_ b=>wpAny (model prog w) A (assign a env v) (λ_ k=>
     wpAny (model prog w) A (forIn t true λc r=>if r=true then do let ok<-isTrue c env (eval c env);pure (ForInStep.yield ok) else pure (ForInStep.yield r)) (λok s₃=>
      if ok=true then wpAny (model prog w) A (eval o env) (λx i=>
       wpAny (model prog w) A (call (.builtin "list.append") [p,x]) (λ_ j=>∃m,m<n/\I m j) (λ_ _=>False) i) (λ_ _=>False) s₃
      else∃m,m<n/\I m s₃) (λ_ _=>False) k) (λ_ _=>False) b) (λ_ _=>False) f) (λ_ _=>False) s)
  (n:Nat) (h:I n s):codeAny (model prog w) A (.compLoop (.ListComp o [#[a,l,t,0]] e B) 0 it p env) R s:=by
 show codeAny_loop L I (λn s F=>?_) n h
 show wpAny _ A ((compTurn (.ListComp o [#[a,l,t,0]] e B) 0 it p env).onRaise (λx=>do noteFrame x env;theTreesLotGoes x)) _ _ s
 show wpAny_noted ?_
 rw[compTurn_list]
 show Qaq<|wpAny_standAt<|Qaq (QRq (C n s F) (λr f g=>?_) λ_ _ d=>d.elim)
 cases r with
 |none=>show Qgq g
 | some v=>
   show Qaq (QRq g (λ_ b q=>?_) λ_ _ d=>d.elim)
   show Qaq (QRq q (λ_ k y=>Qaq (QRq y (λok s₃ h₃=>?_) λ_ _ d=>d.elim)) λ_ _ d=>d.elim)
   cases ok with
   |false=>show Qgq #[L,h₃]
   | true=>
     show Qaq<|Qaq (QRq h₃ (λx i u=>Qaq (QRq u (λ_ j z=>Qgq<|Qgq #[rfl,z]) λ_ _ d=>d.elim)) λ_ _ d=>d.elim)
noncomputable def aN(X:Cx)(N:X6)(a:Scope)(b:List (Str×Addr))(C:X8)(s:X4)(H:Hp)(fp:X7):Cx where
 prog:=X.prog
 w:=X.w
 K:=X.K
 mg:=X.mg
 base:=X.base
 A:=X.A
 N:=N
 s₀:=s
 H₀:=H
 env:=compEnvC a b C X.env
 outer:=X.stack
 stack:=X.stack
 ex:=fp
 fn:=λ_=>false
 calm:=X.calm
 pn:= []
 xe:=λ_ _=>False
noncomputable def kj(js:List (Option Nat))(a:St):St:=js.map λo=>o.bind λj=>a.getD j none
structure aM(X:Cx)(N:X6)(js:List (Option Nat))(scope:Scope)(cl:List (Str×Addr)):Prop where
 kind:scope.kind=.function
 nocell:∀y∈scope.names,y.2≠.cell
 names:∀y∈scope.names,y.2=.local->scope.names.lookup y.1=some .local
 clos:closureFor scope X.env=pure cl
 sub:∀x c,cl.lookup x=some c->X.env.cells.lookup x=some c
 has:∀x,((relabel scope X.env).names.lookup x=some .cell\/(relabel scope X.env).names.lookup x=some .free)->∃c,cl.lookup x=some c
 cap:∀(k j:Nat) (x:Str),js[k]?=some (some j)->N[k]?=some x->X.N[j]?=some x/\(X.env.kindOf x=some .cell\/X.env.kindOf x=some .free)/\((relabel scope X.env).names.lookup x=some .cell\/(relabel scope X.env).names.lookup x=some .free)
 len:js.length=N.length
def m6(X:Cx)(d:List Expr)(t:TT):Prop:=
 ∀ (a:X2) (s:X4) (b:St) (H:Hp) (Q:Bool->Hp->Prop),Inv X a b H s->t b H Q->
   wpAny (model X.prog X.w) X.A (forIn d true λc r=>if r=true then do let ok<-isTrue c X.env (eval c X.env);pure (ForInStep.yield ok) else pure (ForInStep.yield r)) (TP X a b Q) X.xe s
def Lq:m6 X [] (λ_ H Q=>Q true H):=λ_ _ _ H _ I h=>wpAny_tests_nil #[H,I,h]
def KO(b:PT X c t):m6 X [c] t:=λa s d H Q I h=>
 wpAny_tests_one (cO (b a s d H Q I h) λok s' h'=>h')
def Nj(J:It)(g:TG)(k:TT)(j:TE)(Q:VK)(D:X8)(l:St)(H:Hp):Prop:=
 ∃ W:Nat->Nat->St->Hp->Prop,(∃m,W 0 m l H)/\∀i m d e,W i m d e->
   (J.stop i e/\Q (.ref D) e)\/(J.go i e/\∃Nx:St->Hp->Prop,(∀b c,Nx b c->∃h,h<m/\W (i+1) h b c)∧
     ∀ x H2,J.yld i e x H2->g x d H2 λa H3=>k a H3 λok H4=>
       if ok=true then j a H4 λy H5=>∃f,H5 D=some (.lst f)/\f.length<sizeLine/\Nx a (upd H5 D (.lst (f++ [y]))) else Nx a H4)
def Fv(js:List (Option Nat))(b:TI)(g:TG)(d:TT)(c:TE):TE:=λa H Q=>b a H λJ H1=>∀D,H1 D=none->Nj J g d c Q D (kj js a) (upd H1 D<|.lst [])
def Hv
  (S:aM X N js a U) (hc:X.calm=true) (hi:PI X tg R wi)
  (hg:∀C s H fp,PG (aN X N a U C s H fp) tg g) (ht:∀C s H fp,m6 (aN X N a U C s H fp) b3 tt) (he:∀C s H fp,PE (aN X N a U C s H fp) a9 te)
  (hs:autoParam (∀x,foldedSetIterable R X.env x=pure x) dl._auto_1):PE X (.ListComp a9 [⟨tg,R,b3,0⟩] a b8) (Fv js wi g tt te):=by
 intro a7 s σ H Q I h
 rw[eval_ListComp]
 show wpAny_comprehension_free (use:=none) L hs S.clos S.kind S.names (cO (hi a7 s σ H _ I h) λv s1 h1=>cO h1 λd3 f h2=>?_)
 let#[it,fp,tn,J,H2,e,B,T,b1,f2,hD]:=h2
 subst e
 show QhQ<|wpAny_newFunctionEnv S.nocell (by intro y hy;simp at hy) (λM G t=>?_) S.kind
 dsimp only at G t|-
 generalize b0:f.heap.push {cls:=.type "list",dict:=none,data:=.seq ([]:List Value).toArray}=P2 at G t|-
 have hC:P2.objs.size=f.heap.objs.size+1:=by rw[<-b0,Heap.size_push]
 have c5:f.heap.objs.size≠P2.objs.size:=by rw[hC];show Qwq (Nat.lt_succ_self _)
 have a5:f.heap.objs.size<=P2.objs.size:=by rw[hC];show Nat.le_succ _
 have F:∀b,b<f.heap.objs.size->b≠P2.objs.size:=λb k=>by rw[hC];show Qwq (Nat.lt_succ_of_lt k)
 have Y:∀b o,f.heap.get? b=some o->M.get? b=some o:=λb o e=>t.extBut b o (F b<|Qiq e) (Qcq _ (b0▸Qcq _ e))
 have c4:M.get? f.heap.objs.size=some {cls:=.type "list",dict:=none,data:=.seq ([]:List Value).toArray}:=t.extBut _ _ c5 (Qcq _ (b0▸Qrq _ L))
 have nD:H2 f.heap.objs.size=none:=B.fresh
 have nC:H2 P2.objs.size=none:=B.hok.fresh a5
 have b2:∀b∈fp,b<f.heap.objs.size:=λb k=>by
  let#[o,e,_]:=T.obj _ _ b1 b k
  show Qiq e
 let#[W,#[m0,w0],c6]:=hD f.heap.objs.size nD
 have b4:(aN X N a U P2.objs.size f H2 fp).Ok:=by
  show⟨B.ok.mod,S.kind,B.ok.glob,B.ok.blt,a5,λx y c h1 h2=>B.ok.inj x y c (S.sub x c h1) (S.sub y c h2),S.has,(λx c h=>by cases h),B.ok.hd,B.ok.frames,.inl L,
   λb k=>#[F b (b2 b k),λx c h=>(f2 b k).2.2.2.2.1 x c (S.sub x c h)],B.bs,QAq B.ok.bsz B.sz,λb o e k=>?_,λb k z=>?_,B.stack,B.stkFree⟩
  ·rcases(f2 b k).2.2.2.1 with z|z
   ·show B.ok.noex b o e z
   ·show absurd (Qqq (Qqq (Qiq e) B.ok.bsz) z)<|Nat.lt_irrefl _
  ·rcases Qsq.mp (B.stkSub b z) with q|q
   ·show(f2 b k).2.1 q
   ·show(f2 b k).2.2.1 q
 have c0:cV X.prog X.w (upd H2 f.heap.objs.size<|.lst []) M f.heap.objs.size (.lst []):=#[Nat.zero_le _,[],0,.nil,c4]
 have I4:Inv (aN X N a U P2.objs.size f H2 fp) [] (kj js σ) (upd H2 f.heap.objs.size<|.lst []) {f with heap:=M,toks:=f.toks+([]:List (Str×Value)).length}:=by
  show#[b4,L,B.bare,Un.laid Y (Qmq _) nD,#[_,G,λi x v h1 h2 h3=>?_],λx c h=>?_,by show upd H2 _ _ P2.objs.size=none;rw[bc c5.symm];show nC,λx c h=>?_,λp hp=>absurd (show p∈([]:List (Addr×Obj)) from hp) (by simp),B.hok.laid Y (Qmq _) c0,by show(kj js σ).length=N.length;unfold kj;rw[lQm];show S.len]
  ·unfold kj at h2
   rw[gQm] at h2
   cases e:js[i]? with
   |none=>rw[e] at h2;cases h2
   | some o=>
     rw[e] at h2
     cases o with
     |none=>cases h2
     | some j=>
       have a1:σ.getD j none=some v:=QdQ h2
       have hj:σ[j]?=some (some v):=by
         rw[Qlq] at a1
         cases q:σ[j]? with
         |none=>rw[q] at a1;cases a1
         |some y=>rw[q] at a1;show congrArg some a1
       let#[c1,c2,c3]:=S.cap i j x e h1
       let#[m,hn,hl]:=B.loc
       have d1:Io X.env.scope x:=by
         rcases c2 with z|z
         · show .inr (.inl z)
         · show .inr (.inr z)
       let#[u,r,l]:=hl j x v c1 hj d1
       show#[u,r,.inr #[c3,?_]]
       let#[c,b7]:=S.has x c3
       show#[c,b7,?_]
       rcases l with⟨z,_⟩|⟨_,c',e',z⟩
       · rcases c2 with y|y <;>rw[y] at z <;>cases z
       · rw[S.sub x c b7] at e'
         cases e'
         let#[o,ho,hd]:=z
         show#[o,Y _ _ ho,hd]
  ·let#[v,o,ho,hd]:=B.cell x c (S.sub x c h)
   show#[v,o,Y _ _ ho,hd]
  ·let#[v,o,ho,hd]:=B.cell x c (S.sub x c h)
   rw[bc (Qwq<|Qiq ho)]
   show B.freeC x c<|S.sub x c h
 have a0:∀{P:X2} {Z:Hp},P= []->(∀b∈fp,Z b=none)->∀b∈fp,p0 (aN X N a U P2.objs.size f H2 fp) P Z b:=λ{P Z} ep hn b k=>by
  subst ep
  show#[hn b k,F b<|b2 b k,λz=>b4.exfs b k z,.inl k,λx c h=>(f2 b k).2.2.2.2.1 x c (S.sub x c h),λp hp=>absurd (show p∈([]:List (Addr×Obj)) from hp) (by simp)]
 have a6:codeAny (model X.prog X.w) X.A (.compLoop (.ListComp a9 [⟨tg,R,b3,0⟩] a b8) 0 (.ref it) (.ref f.heap.objs.size) (compEnvC a U P2.objs.size X.env))
   (compPost (model X.prog X.w) X.A X.xe none (EP X a7 σ Q) (.ref f.heap.objs.size) P2.objs.size) {f with heap:=M,toks:=f.toks+([]:List (Str×Value)).length}:=by
  show oz (λn s'=>∃i a2 Z,Inv (aN X N a U P2.objs.size f H2 fp) [] a2 Z s'/\tn i s'.heap/\(∀b∈fp,Z b=none)/\W i n a2 Z) ?_ m0
   #[0,_,_,I4,T.keep _ _ _ b1 λb _ o e=>Y b o e,λb k=>by rw[bc (Qwq<|b2 b k)];show(f2 b k).1,w0]
  rintro n s3 ⟨i,a3,H3,I3,b6,b9,w3⟩
  rcases c6 i n a3 H3 w3 with⟨stop,q⟩|⟨go,Nx,hN,b5⟩
  ·show cO (T.done (aN X N a U P2.objs.size f H2 fp) L L L hc i [] s3 a3 H3 _ I3 (a0 L b9) b6 stop) λr s4 qr=>?_
   let#[hr,I5]:=qr
   subst hr
   let#[m,hn,_]:=id I5.loc
   show#[m,hn,λh' a4=>#[.ref f.heap.objs.size,H3,?_,L,q]]
   let u:=I5.base
   have ne:∀b o,f.heap.get? b=some o->b≠P2.objs.size:=λb o e=>F b (Qiq e)
   show B.call' (ch:=fp) I5.os #[λb o e n k hx=>(a4.2 b<|ne b o e).trans (u.keep b o e n k hx),λb o e n k hx=>?_,u.free,λb o e hx=>?_,u.tups,u.frzs,u.tbls] (λb ob e=>?_) I5.bare λb k=>#[(f2 b k).2.2.2.1,(f2 b k).2.1,(f2 b k).2.2.2.2.1,(f2 b k).2.2.2.2.2]
   ·let#[sl,e1]:=u.slot b o e n k hx
    show#[sl,(a4.2 b<|ne b o e).trans e1]
   ·let#[o',e1]:=u.there b o e hx
    show#[o',(a4.2 b<|ne b o e).trans e1]
   ·show(I5.hok b ob e).stay (λc w' hc q=>(a4.2 c ?_).trans q) (λ_ q=>q) λ_ _ q=>q
    have fC:H3 P2.objs.size=none:=I5.free
    rintro rfl
    rcases hc with z|z
    ·rw[<-z,fC] at e;cases e
    ·rw[fC] at z;cases z
  ·show cO (T.item (aN X N a U P2.objs.size f H2 fp) L L L hc i [] s3 a3 H3 _ I3 (a0 L b9) b6 go) λr s4 qr=>?_
   let#[u,hr,h4]:=qr
   subst hr
   show cO h4 λ_ s5 qr=>?_
   let#[x,H5,I5,r5,y5,a8,c9]:=qr
   let d2:=I5.pinned (a0 L c9) (T.obj _ _ a8)
   show cO (hg P2.objs.size f H2 fp _ s5 a3 H5 x u _ d2 r5<|b5 x H5 y5) λ_ s6 qr=>?_
   let#[K,H6,I6,q6]:=qr
   show cO (ht P2.objs.size f H2 fp _ s6 K H6 _ I6 q6) λok s7 qr=>?_
   let#[H7,I7,q7]:=qr
   have again:∀{s8:X4} {H8:Hp},Inv (aN X N a U P2.objs.size f H2 fp) ([]++mY fp s5.heap) K H8 s8->Nx K H8->∃m,m<n/\∃i a2 Z,Inv (aN X N a U P2.objs.size f H2 fp) [] a2 Z s8/\tn i s8.heap/\(∀b∈fp,Z b=none)/\W i m a2 Z:=λ{s8 H8} I8 n8=>by
    let#[m',hm,w8]:=hN K H8 n8
    show#[m',hm,i+1,K,H8,I8.unpinned,T.keep _ _ _ a8 λb k o e=>(I8.pin (b,o)<|Qoq _<|Qoq _<|dA k e).1,λb k=>?_,w8]
    let#[o,e,d]:=T.obj _ _ a8 b k
    show(I8.pin (b,o)<|Qoq _<|Qoq _<|dA k e).2.1
   cases ok with
   |false=>show again I7 q7
   | true=>
     show cO (he P2.objs.size f H2 fp _ s7 K H7 _ I7 q7) λyv s8 qr=>?_
     let#[y,H8,I8,ry,xs,hx,hl,n8]:=qr
     show cO (pP (X:=aN X N a U P2.objs.size f H2 fp) _ s8 K H8 (.ref f.heap.objs.size) [y] (.ref f.heap.objs.size) [yv] (λ_ Z=>Nx K Z) I8 L (.cons ry .nil) #[_,xs,y,L,L,hx,hl,n8]) λ_ s9 qr=>?_
     let#[z,H9,I9,_,q9]:=qr
     show again I9 q9
 show codeAny_compStart_list a6<|T.self _ 0 _ _ _ (T.keep _ _ _ b1 λb _ o e=>Y b o e) a6
def Fg:fm X (.builtin "isinstance") (λxs H Q=>∃x T t b,xs= [x,.ty T]/\pI X.K H x t/\PySem.W.kitOne X.K t (.type T)=some b/\Q (.bl b) H):=by
 intro a s g H xs f Q I r h
 let#[x,T,t,b,rfl,ty,e,q]:=h
 let#[u,c,rfl,rx,rt]:=vals2 r
 cases (show c=Value.type T from rt)
 show DG I rx ty e λd=>#[.bl b,H,I.tok d,L,q]
noncomputable def Eb:List V->List V->Bool
 | [],[]=>true
 |x::xs,y::ys=>qX x y&&Eb xs ys
 |_,_=>false
theorem wH:∀{xs ys:List V},xs.length≠ys.length->Eb xs ys=false
 | [],[],h=>absurd L h
 | [],_::_,_=>rfl
 |_::_,[],_=>rfl
 | x::xs,y::ys,h=>by
   have:=wH (xs:=xs) (ys:=ys) λe=>h (by simp[e])
   show(qX x y&&Eb xs ys)=false
   rw[this,Bool.and_false]
theorem xg:∀{xs ys:List V},xs.length=ys.length->(List.range xs.length).all (λj=>qX (xs.getD j .non)<|ys.getD j .non)=Eb xs ys
 | [],[],_=>rfl
 | [],_::_,h=>by cases h
 |_::_,[],h=>by cases h
 | x::xs,y::ys,h=>by
   let a:=xg (xs:=xs) (ys:=ys) (Nat.succ.inj h)
   rw[Qnq,List.range_succ_eq_map,List.all_cons,List.all_map]
   show(qX x y&&_)=(qX x y&&Eb xs ys)
   rw[<-a]
   rfl
def EB(r:bL xs a)(d:bL ys vs)(f:xs.all gP=true)(f':ys.all gP=true)(j:Nat)(i:j<a.toArray.size)(g:j<vs.toArray.size):
  SeqAt.EqAt A s a.toArray[j] vs.toArray[j] (qX (xs.getD j .non)<|ys.getD j .non):=by
 let o:=r.length
 let p:=d.length
 have c:j<xs.length:=by rw[o];simpa using i
 have b:j<ys.length:=by rw[p];simpa using g
 let#[u,m,h]:=r.get (gQe c)
 let#[v,l,t]:=d.get (gQe b)
 have k:xs.getD j .non=xs[j]:=by rw[Qlq,gQe c];rfl
 have e:ys.getD j .non=ys[j]:=by rw[Qlq,gQe b];rfl
 have n:a.toArray[j]=u:=by
  have:=(gQs.mp m).2
  simpa using this
 have q:vs.toArray[j]=v:=by
  have:=(gQs.mp l).2
  simpa using this
 rw[n,q,k,e]
 show FX h t (QUq.mp f _<|List.getElem_mem c)<|QUq.mp f' _<|List.getElem_mem b
def K7(K:X1)(e:Bool):R2:=λx y H Q=>∃a b d c,x=.ref a/\y=.ref b/\iX K H a d/\iX K H b c/\d.all gP=true/\c.all gP=true/\Q (.bl (if e then !Eb d c else Eb d c)) H
def JT{X:Cx}(m:X.A.units<cLine):jO X (compareOp .Eq) (K7 X.K false):=by
 intro n s F H x y v u Q I w z h
 let#[a,b,k,o,rfl,rfl,ha,hb,fa,fb,q]:=h
 cases w
 cases z
 let#[c,r,l,C]:=I.list ha
 let#[i,f,d,B]:=I.list hb
 by_cases hl:k.length=o.length
 ·have g:c.toArray.size=i.toArray.size:=by simp[<-r.length,<-f.length,hl]
  show SeqAt.eq_listAt (e:=λj=>qX (k.getD j .non)<|o.getD j .non) l.isList d.isList g m (λj t p=>EB r f fa fb j t p) #[.bl _,H,I,L,?_]
  rw[show c.toArray.size=k.length by simp[r.length],xg hl]
  show q
 ·show SeqAt.eq_list_lengthsAt l.isList d.isList (by simpa [<-r.length,<-f.length] using hl) m #[.bl _,H,I,L,?_]
  rw[<-wH hl]
  show q
def JY{X:Cx}(n:X.A.units<cLine):jO X (compareOp .NotEq) (K7 X.K true):=by
 intro o s G H x y v u Q I z B h
 let#[a,b,f,l,rfl,rfl,ha,hb,fa,fb,q]:=h
 cases z
 cases B
 let#[c,r,m,F]:=I.list ha
 let#[k,g,d,C]:=I.list hb
 by_cases hl:f.length=l.length
 ·have i:c.toArray.size=k.toArray.size:=by simp[<-r.length,<-g.length,hl]
  show SeqAt.RcNeAt.lists (e:=λj=>qX (f.getD j .non)<|l.getD j .non) m.isList d.isList i n (λj w t=>EB r g fa fb j w t) _ _ _ _ #[.bl _,H,I,L,?_]
  rw[show c.toArray.size=f.length by simp[r.length],xg hl]
  show q
 ·show SeqAt.RcNeAt.lists_lengths m.isList d.isList (by simpa [<-r.length,<-g.length] using hl) n _ _ _ _ #[.bl _,H,I,L,?_]
  have p:Q (.bl (!Eb f l)) H:=q
  rw[wH hl] at p
  show p
def E3{bs:List Bool}{a:X5}(r:bL (bs.map V.bl) a){i:Nat}{v:Xd}(h:a.toArray[i]?=some v):v=.bool (bs.getD i false):=by
 have f:i<a.length:=by
  have:=(Array.getElem?_eq_some_iff.mp h).1
  simpa using this
 let l:=r.length
 rw[lQm] at l
 have b:i<bs.length:=by omega
 let#[u,e,q]:=r.get (i:=i) (x:=V.bl bs[i]) (by rw[gQm,gQe b];rfl)
 have c:a[i]?=some v:=by simpa using h
 rw[e] at c
 cases c
 have d:bs.getD i false=bs[i]:=by rw[Qlq,gQe b];rfl
 rw[d]
 show q
theorem yb:∀bs:List Bool,(List.range bs.length).all (λi=>bs.getD i false)=bs.all id
 | []=>rfl
 | b::bs=>by
   rw[Qnq,List.range_succ_eq_map,List.all_cons,List.all_map,List.all_cons,<-yb bs]
   rfl
def Mr(K:X1)(f:List Bool->Bool):List V->Hp->VK->Prop:=λc H Q=>∃a b,c= [.ref a]/\iX K H a (b.map V.bl)/\Q (.bl (f b)) H
def D7{X:Cx}(n:X.calm=true):fm X (.builtin "all") (Mr X.K λbs=>bs.all id):=by
 intro j s z H y C Q I r h
 let#[a,bs,rfl,ha,q]:=h
 let#[u,rfl,rx]:=vals1 r
 cases (show u=Value.ref a from rx)
 let#[c,g,f,x]:=I.list ha
 have hl:c.toArray.size=bs.length:=by have:=g.length;simp at this;simp[this]
 have d:a<s.heap.objs.size:=by let#[o,e,_]:=f.isList;show Qiq e
 show call_all_walk<|wpAny_pyIter_list f.isList #[s.heap.objs.size,_,_,_,_,_,λi=>bs.getD i false,L,Walks.list (A:=X.A.in1) (show X.A.in1.handled=none from I.ok.hd n) s.heap.objs.size a (Qwq d) c.toArray,#[#[_,Qrq _ L,L,L],f.isList.at λo e=>Qcq _ e],?_,λh' t k=>?_]
 ·intro i v p B w m l
  rw[E3 g m]
  show wpAny_truthy_bool l
 ·rw[hl,yb]
  show#[.bl _,H,I.kept (h':=h') λb o e=>k b o ?_<|Qcq _ e,L,q]
  have:=Qiq e
  simp
  show Qwq this
end L2
namespace Dk
open PySem
def tq:mroOf (Value.type "dict")=pure [Value.type "dict",Value.type "object"]:=by
 rw[mroOf_type]
 rfl
def rA:typeLookup (Value.type "dict") (Str.ofString "__new__")=pure (some<|Value.builtin "dict.__new__"):=by
 rw[typeLookup_type,builtinLookup_eq_fast]
 rfl
def yc:isSubtype (Value.type "dict") (Value.type "dict")=pure true:=by
 rw[isSubtype_type]
 rfl
def ic:plainId "dict.__new__"=true:=by decide +kernel
def dy:TypeCalled "dict" "dict.__new__" "dict.__init__" where
 notType:=by decide +kernel
 canCreate:=by decide +kernel
 mro:=#[_,_,tq]
 made:=madeBy_type tq rA (by decide +kernel)
 plain:=ic
 sub:=yc
 init:=F.slot_dict_init
def qW(a:Xd):checkTypeCall "dict" {pos:= [a]}=pure ():=by rfl
def sQ(a:Xd):checkBuiltinCall "dict.__new__" {pos:= [Value.type "dict",a]}=pure ():=by with_unfolding_all rfl
def tE:entryFor table "dict.__new__"=some Builtin.«dict.__new__»:=by rfl
def rD{E:X0}{s:X4}(a:Xd){Q₁:X0}
  (h:Q₁ (.ref s.heap.objs.size) {s with heap:=s.heap.push {cls:=.type "dict",data:=.dict (List.toArray [])}}):
  codeAny (model prog w) A (.call (.builtin "dict.__new__") {pos:= [.type "dict",a]}) (wants Q₁ E) s:=by
 show codeAny_of_tree ?_
 show wpAny _ _ (do checkBuiltinCall "dict.__new__" _;_) _ _ _
 show Qaq<|wpAny_of_eq (sQ a)<|Qgq #[plainId_quiet ic _,codeAny_builtin tE ?_]
 rw[Around.under_plainId ic]
 show Qaq<|Qgq<|QgQ L<|Qaq<|wpAny_of_eq yc<|QgQ L<|Qaq<|wpAny_of_eq tq<|QgQ ?_ ?_
 ·rfl
 ·show Qaq ?_
  have e:newObj (.type "dict") (.dict (List.toArray []))=newObjAsIs (.type "dict") (.dict (List.toArray [])):=by
   unfold newObj
   simp
  rw[e]
  show Qaq<|wpAny_alloc<|Qgq<|Qgq h
def zh{A:X_}{E:X0}{s:X4}{Q:X0}
  (h:wpAny (model prog w) A.in1.in1 (Builtin.«dict.__init__» {pos:= [.ref s.heap.objs.size,a]})
   (λl s'=>match l with|.done f=>wants (λr b=>r=.none/\Q (.ref s.heap.objs.size) b) E (.ok f) s'|.again u=>u.quiet=true/\codeAny (model prog w) A.in1 u (wants (λr b=>r=.none/\Q (.ref s.heap.objs.size) b) E) s')
   (λe s'=>wants (λr b=>r=.none/\Q (.ref s.heap.objs.size) b) E (.error e) s') {s with heap:=s.heap.push {cls:=.type "dict",data:=.dict (List.toArray [])}}):
  wpAny (model prog w) A (call (.type "dict") [a]) Q E s:=by
 let#[c,B,k]:=dy.mro
 let g:=dy.made
 let j:=dy.sub
 show wpAny_call<|codeAny_of_tree ?_
 show Qgq #[Code.quiet_builtin _ (by decide +kernel),codeAny_builtin F.entry_type_call ?_]
 rw[Around.under_plain (weight_type_call_type "dict" [a] []) L]
 let C:=dy.notType
 let x:=dy.canCreate
 let p:=qW a
 unfold Builtin.«type.__call__»
 dsimp only
 show QgQ L ?_
 show QgQ (by rw[x];rfl) ?_
 show Qaq<|wpAny_of_eq p<|Qaq<|wpAny_of_eq k<|QgQ L<|Qaq<|wpAny_of_eq g<|Qaq<|Qgq<|Qaq<|QLq<|wpAny_call (codeAny_mono (rD (E:=E) (Q₁:=λv d=>v=.ref s.heap.objs.size/\d={s with heap:=s.heap.push {cls:=.type "dict",data:=.dict (List.toArray [])}}) a #[L,L]) λr d i=>?_)
 cases r with
 |error e=>show i
 | ok q=>
   cases q with
   | ret y=>
     let#[rfl,rfl]:=i
     let z:=Qrq s.heap (o:={cls:=.type "dict",data:=.dict (List.toArray [])}) L
     have m:Shared.TypeIs {s with heap:=s.heap.push {cls:=.type "dict",data:=.dict (List.toArray [])}} (.ref s.heap.objs.size) "dict":=#[_,z,L]
     let t:=dy.init.lookup
     let n:=dy.init.bind (.ref s.heap.objs.size)
     show Qaq<|wpAny_isInstance m j<|QgQ L<|Qaq<|QLq ?_
     unfold callSpecial?
     show Qaq<|wpAny_specialOf m t<|QLq<|Qaq<|wpAny_of_eq n<|Qaq<|wpAny_call (codeAny_mono (codeAny_call_builtin dy.init.plain F.entry_dict_init<|dy.init.check _ _ _ _ _ [a] [] _ m (F.args_dict_init_2 _ _) h) λr b i=>?_)
     cases r with
     |error e=>show i
     | ok q=>
       cases q with
       | ret v=>
         let#[rfl,hq]:=i
         show Qgq<|QgQ L<|Qgq hq
       |_=>show i.elim
   |_=>show i.elim
def kq:entryFor table "dict.update.loop"=some Builtin.«dict.update.loop»:=by rfl
def gE:plainId "dict.update.loop"=true:=by decide +kernel
section
variable{K:Type}[DecidableEq K]
def Bj(kvs:List (K×Value))(k:K)(v:Xd):(stored kvs k v).length<=kvs.length+1:=by
 unfold stored
 split
 ·rw[lQm];omega
 ·rw[lQa];simp
noncomputable def Kg(b:Nat->K)(a:Nat->Value):Nat->List (K×Value)
 |0=> []
 |i+1=>stored (Kg b a i) (b i) (a i)
theorem Bz(b:Nat->K)(a:Nat->Value):∀i,(Kg b a i).length<=i
 |0=>Qmq _
 |i+1=>QAq (Bj _ _ _) (Nat.succ_le_succ<|Bz b a i)
end
end Dk
namespace L2
open PyProof.Rows
def key_is(r:RelV (kV k) u)(P:X9)(w:Xc):(bT P w).is k u=true:=by
 cases k with
 |inl i=>let#[t,rfl]:=(show∃t,u=Value.int i t from r);simp[bT,qK,Value.isInt]
 |inr x=>let#[t,rfl]:=(show∃t,u=Value.str x t from r);simp[bT,qK,Value.isStrOf]
end L2
namespace Dk
open PySem
end Dk
namespace L2
open PyProof.Rows
def HY{X:Cx}{N:X6}{js:List (Option Nat)}{a:Scope}{Z:List (Str×Addr)}{tg P a7 G:Expr}{a9:List Expr}{b3 b0:Pos}{wi:TI}{g gt:TG}{tt:TT}{te:TE}
  (S:aM X N js a Z) (hc:X.calm=true) (hi:PI X tg P wi)
  (hg:∀C s H fp,PG (aN X N a Z C s H fp) tg g) (ht:∀C s H fp,m6 (aN X N a Z C s H fp) a9 tt) (he:∀C s H fp,PE (aN X N a Z C s H fp) a7 te) (d9:PG X G gt)
  (hs:autoParam (∀x,foldedSetIterable P X.env x=pure x) dl._auto_1) (e0:autoParam (swapsWithSole [G] (.ListComp a7 [⟨tg,P,a9,0⟩] a b3) b0.line X.env=pure true) db._auto_1)
  (h1:autoParam ((assignEach [G] X.env).map (·.2)= [assign G X.env]) db._auto_1):PS X (.Assign [G] (.ListComp a7 [#[tg,P,a9,0]] a b3) b0) (Dm (Fv js wi g tt te) gt):=by
 intro Y s σ H Dn I h
 rw[exec_Assign_arm]
 show Qaq<|wpAny_standAt<|Qaq<|wpAny_of_eq e0<|wpAny_ite_true L<|Qaq ?_
 rw[h1]
 show wpAny _ _ (do let _<-comprehension _ _ _ _ _ _ _ (some λv=>assignAll v [assign G X.env]);pure ()) _ _ _
 show Qaq ?_
 show wpAny_comprehension_free (use:=some λv=>assignAll v [assign G X.env]) L hs S.clos S.kind S.names (cO (hi Y s σ H _ I h) λv s1 h1=>cO h1 λe3 k h2=>?_)
 let#[it,fp,tn,J,H2,e,B,T,b5,f2,hD]:=h2
 subst e
 show QhQ<|wpAny_newFunctionEnv S.nocell (by intro y hy;simp at hy) (λQ M t=>?_) S.kind
 dsimp only at M t|-
 generalize b4:k.heap.push {cls:=.type "list",dict:=none,data:=.seq ([]:List Value).toArray}=P2 at M t|-
 have hC:P2.objs.size=k.heap.objs.size+1:=by rw[<-b4,Heap.size_push]
 have d1:k.heap.objs.size≠P2.objs.size:=by rw[hC];show Qwq (Nat.lt_succ_self _)
 have a2:k.heap.objs.size<=P2.objs.size:=by rw[hC];show Nat.le_succ _
 have K:∀b,b<k.heap.objs.size->b≠P2.objs.size:=λb f=>by rw[hC];show Qwq (Nat.lt_succ_of_lt f)
 have a0:∀b o,k.heap.get? b=some o->Q.get? b=some o:=λb o e=>t.extBut b o (K b<|Qiq e) (Qcq _ (b4▸Qcq _ e))
 have c9:Q.get? k.heap.objs.size=some {cls:=.type "list",dict:=none,data:=.seq ([]:List Value).toArray}:=t.extBut _ _ d1 (Qcq _ (b4▸Qrq _ L))
 have nD:H2 k.heap.objs.size=none:=B.fresh
 have nC:H2 P2.objs.size=none:=B.hok.fresh a2
 have b6:∀b∈fp,b<k.heap.objs.size:=λb f=>by
  let#[o,e,_]:=T.obj _ _ b5 b f
  show Qiq e
 let#[W,#[m0,w0],d3]:=hD k.heap.objs.size nD
 have b7:(aN X N a Z P2.objs.size k H2 fp).Ok:=by
  show⟨B.ok.mod,S.kind,B.ok.glob,B.ok.blt,a2,λx y c h1 h2=>B.ok.inj x y c (S.sub x c h1) (S.sub y c h2),S.has,(λx c h=>by cases h),B.ok.hd,B.ok.frames,.inl L,
   λb f=>#[K b (b6 b f),λx c h=>(f2 b f).2.2.2.2.1 x c (S.sub x c h)],B.bs,QAq B.ok.bsz B.sz,λb o e f=>?_,λb f z=>?_,B.stack,B.stkFree⟩
  ·rcases(f2 b f).2.2.2.1 with z|z
   ·show B.ok.noex b o e z
   ·show absurd (Qqq (Qqq (Qiq e) B.ok.bsz) z)<|Nat.lt_irrefl _
  ·rcases Qsq.mp (B.stkSub b z) with q|q
   ·show(f2 b f).2.1 q
   ·show(f2 b f).2.2.1 q
 have c6:cV X.prog X.w (upd H2 k.heap.objs.size<|.lst []) Q k.heap.objs.size (.lst []):=#[Nat.zero_le _,[],0,.nil,c9]
 have I4:Inv (aN X N a Z P2.objs.size k H2 fp) [] (kj js σ) (upd H2 k.heap.objs.size<|.lst []) {k with heap:=Q,toks:=k.toks+([]:List (Str×Value)).length}:=by
  show#[b7,L,B.bare,Un.laid a0 (Qmq _) nD,#[_,M,λi x v h1 h2 h3=>?_],λx c h=>?_,by show upd H2 _ _ P2.objs.size=none;rw[bc d1.symm];show nC,λx c h=>?_,λp hp=>absurd (show p∈([]:List (Addr×Obj)) from hp) (by simp),B.hok.laid a0 (Qmq _) c6,by show(kj js σ).length=N.length;unfold kj;rw[lQm];show S.len]
  ·unfold kj at h2
   rw[gQm] at h2
   cases e:js[i]? with
   |none=>rw[e] at h2;cases h2
   | some o=>
     rw[e] at h2
     cases o with
     |none=>cases h2
     | some j=>
       have a4:σ.getD j none=some v:=QdQ h2
       have hj:σ[j]?=some (some v):=by
         rw[Qlq] at a4
         cases q:σ[j]? with
         |none=>rw[q] at a4;cases a4
         |some y=>rw[q] at a4;show congrArg some a4
       let#[c1,c2,c3]:=S.cap i j x e h1
       let#[m,hn,hl]:=B.loc
       have d8:Io X.env.scope x:=by
         rcases c2 with z|z
         · show .inr (.inl z)
         · show .inr (.inr z)
       let#[u,r,l]:=hl j x v c1 hj d8
       show#[u,r,.inr #[c3,?_]]
       let#[c,c0]:=S.has x c3
       show#[c,c0,?_]
       rcases l with⟨z,_⟩|⟨_,c',e',z⟩
       · rcases c2 with y|y <;>rw[y] at z <;>cases z
       · rw[S.sub x c c0] at e'
         cases e'
         let#[o,ho,hd]:=z
         show#[o,a0 _ _ ho,hd]
  ·let#[v,o,ho,hd]:=B.cell x c (S.sub x c h)
   show#[v,o,a0 _ _ ho,hd]
  ·let#[v,o,ho,hd]:=B.cell x c (S.sub x c h)
   rw[bc (Qwq<|Qiq ho)]
   show B.freeC x c<|S.sub x c h
 have a3:∀{R:X2} {H':Hp},R= []->(∀b∈fp,H' b=none)->∀b∈fp,p0 (aN X N a Z P2.objs.size k H2 fp) R H' b:=λ{R H'} ep hn b f=>by
  subst ep
  show#[hn b f,K b<|b6 b f,λz=>b7.exfs b f z,.inl f,λx c h=>(f2 b f).2.2.2.2.1 x c (S.sub x c h),λp hp=>absurd (show p∈([]:List (Addr×Obj)) from hp) (by simp)]
 have b1:codeAny (model X.prog X.w) X.A (.compLoop (.ListComp a7 [⟨tg,P,a9,0⟩] a b3) 0 (.ref it) (.ref k.heap.objs.size) (compEnvC a Z P2.objs.size X.env))
   (compPost (model X.prog X.w) X.A X.xe (some λv=>assignAll v [assign G X.env]) (λ_ s9=>wpAny (model X.prog X.w) X.A (pure ()) (λ_ d4=>wpAny (model X.prog X.w) X.A (pure Flow.next) (SP X Y Dn) X.xe d4) X.xe s9) (.ref k.heap.objs.size) P2.objs.size) {k with heap:=Q,toks:=k.toks+([]:List (Str×Value)).length}:=by
  show oz (λn s'=>∃i a5 H',Inv (aN X N a Z P2.objs.size k H2 fp) [] a5 H' s'/\tn i s'.heap/\(∀b∈fp,H' b=none)/\W i n a5 H') ?_ m0
   #[0,_,_,I4,T.keep _ _ _ b5 λb _ o e=>a0 b o e,λb f=>by rw[bc (Qwq<|b6 b f)];show(f2 b f).1,w0]
  rintro n s3 ⟨i,a6,H3,I3,b9,c5,w3⟩
  rcases d3 i n a6 H3 w3 with⟨stop,q⟩|⟨go,Nx,hN,b8⟩
  ·show cO (T.done (aN X N a Z P2.objs.size k H2 fp) L L L hc i [] s3 a6 H3 _ I3 (a3 L c5) b9 stop) λr s4 U=>?_
   let#[hr,I5]:=U
   subst hr
   let#[m,hn,_]:=id I5.loc
   have d6:∀h',Heap.SameBut P2.objs.size s4.heap h'->Inv X Y σ H3 {s4 with heap:=h'}:=by
    intro h' a1
    let u:=I5.base
    have ne:∀b o,k.heap.get? b=some o->b≠P2.objs.size:=λb o e=>K b (Qiq e)
    show B.call' (ch:=fp) I5.os #[λb o e n f hx=>(a1.2 b<|ne b o e).trans (u.keep b o e n f hx),λb o e n f hx=>?_,u.free,λb o e hx=>?_,u.tups,u.frzs,u.tbls] (λb ob e=>?_) I5.bare λb f=>#[(f2 b f).2.2.2.1,(f2 b f).2.1,(f2 b f).2.2.2.2.1,(f2 b f).2.2.2.2.2]
    ·let#[sl,e1]:=u.slot b o e n f hx
     show#[sl,(a1.2 b<|ne b o e).trans e1]
    ·let#[o',e1]:=u.there b o e hx
     show#[o',(a1.2 b<|ne b o e).trans e1]
    ·show(I5.hok b ob e).stay (λc w' hc q=>(a1.2 c ?_).trans q) (λ_ q=>q) λ_ _ q=>q
     have fC:H3 P2.objs.size=none:=I5.free
     rintro rfl
     rcases hc with z|z
     ·rw[<-z,fC] at e;cases e
     ·rw[fC] at z;cases z
   let IX:=d6 s4.heap #[L,λ_ _=>rfl]
   have a8:p0 X Y H3 P2.objs.size:=B.fpOk a2 I5.free
   let#[oC,es,ep,d2,c4,d5]:=hn
   let IP:=IX.pinned (fp:= [P2.objs.size]) (λb f=>by rw[Qfq] at f;rw[f];show a8) (λb f=>by rw[Qfq] at f;rw[f];show#[oC,d2,λv=>by rw[c4];simp])
   show wpAny _ _ (assignAll (.ref k.heap.objs.size) [assign G X.env]) _ _ _
   rw[assignAll.eq_2]
   show cO (d9 _ s4 σ H3 (.ref k.heap.objs.size) (.ref k.heap.objs.size) _ IP L q) λ_ s6 U=>?_
   let#[F,H6,I6,q6]:=U
   let pC:=I6.pin (P2.objs.size,oC) (Qoq _<|Qoq _<|dA (Qfq.mpr L) d2)
   show#[m,#[oC,es,ep,pC.1,c4,d5],λh' a1=>Qgq<|Qgq #[F,H6,?_,q6]]
   show I6.unpinned.turned (it:=P2.objs.size) (t':=s6.toks) (λb o' f e=>(a1.2 b f).trans e) pC.2.1 pC.2.2.1 a8.2.2.2.1 a8.2.2.2.2.1 a8.2.2.2.2.2
  ·show cO (T.item (aN X N a Z P2.objs.size k H2 fp) L L L hc i [] s3 a6 H3 _ I3 (a3 L c5) b9 go) λr s4 U=>?_
   let#[u,hr,h4]:=U
   subst hr
   show cO h4 λ_ s5 U=>?_
   let#[x,H5,I5,r5,y5,b2,d7]:=U
   let e2:=I5.pinned (a3 L d7) (T.obj _ _ b2)
   show cO (hg P2.objs.size k H2 fp _ s5 a6 H5 x u _ e2 r5<|b8 x H5 y5) λ_ s6 U=>?_
   let#[F,H6,I6,q6]:=U
   show cO (ht P2.objs.size k H2 fp _ s6 F H6 _ I6 q6) λok s7 U=>?_
   let#[H7,I7,q7]:=U
   have again:∀{s8:X4} {H8:Hp},Inv (aN X N a Z P2.objs.size k H2 fp) ([]++mY fp s5.heap) F H8 s8->Nx F H8->∃m,m<n/\∃i a5 H',Inv (aN X N a Z P2.objs.size k H2 fp) [] a5 H' s8/\tn i s8.heap/\(∀b∈fp,H' b=none)/\W i m a5 H':=λ{s8 H8} I8 n8=>by
    let#[m',hm,w8]:=hN F H8 n8
    show#[m',hm,i+1,F,H8,I8.unpinned,T.keep _ _ _ b2 λb f o e=>(I8.pin (b,o)<|Qoq _<|Qoq _<|dA f e).1,λb f=>?_,w8]
    let#[o,e,d]:=T.obj _ _ b2 b f
    show(I8.pin (b,o)<|Qoq _<|Qoq _<|dA f e).2.1
   cases ok with
   |false=>show again I7 q7
   | true=>
     show cO (he P2.objs.size k H2 fp _ s7 F H7 _ I7 q7) λyv s8 U=>?_
     let#[y,H8,I8,ry,xs,hx,hl,n8]:=U
     show cO (pP (X:=aN X N a Z P2.objs.size k H2 fp) _ s8 F H8 (.ref k.heap.objs.size) [y] (.ref k.heap.objs.size) [yv] (λ_ H'=>Nx F H') I8 L (.cons ry .nil) #[_,xs,y,L,L,hx,hl,n8]) λ_ s9 U=>?_
     let#[z,H9,I9,_,q9]:=U
     show again I9 q9
 show codeAny_compStart_list b1<|T.self _ 0 _ _ _ (T.keep _ _ _ b5 λb _ o e=>a0 b o e) b1
end L2
namespace Dk
open PySem
end Dk
namespace L2
open PyProof.Rows
def G5(K:X1):List V->Hp->VK->Prop:=λd H Q=>∃(a:X8) (c:X6),d= [.ref a]/\iX K H a (c.map V.str)/\c.length<64/\∀(l:X8) (b:X6),H l=none->sortedS b=true->b.Perm c->Q (.ref l) (upd H l<|.lst (b.map V.str))
theorem ve:∀{ys:X6} {a:X5},bL (ys.map V.str) a->StrsAre a ys
 | [],_,r=>by cases r;show .nil
 | y::ys,_,r=>by
   cases r with
   | cons h t=>
     let#[b,rfl]:=h
     show .cons y b (ve t)
def xv(h:StrsAre vs a):bL (a.map V.str) vs:=by
 induction h with
 |nil=>show .nil
 |cons y t _ b=>show .cons #[t,L] b
def wQ:fm X (.builtin "sorted") (G5 X.K):=by
 intro m s A H z B Q I r h
 let#[a,j,rfl,ha,h64,q]:=h
 let#[u,rfl,rx]:=vals1 r
 cases (show u=Value.ref a from rx)
 let#[f,k,t,y]:=I.list ha
 have v:f.length=j.length:=by have:=k.length;simpa using this.symm
 have g:s.heap.objs.size<=s.heap.objs.size+1:=Nat.le_succ _
 show sorted_strs t.isList (ve k) (!0) λc d p l w=>?_
 let#[e,x]:=sortedAll_at s.heap f c
 have i:d.length=j.length:=l.length_eq
 show#[.ref (s.heap.objs.size+1),_,I.laid (a:=s.heap.objs.size+1) (o:=.lst (d.map V.str)) (h':=sortedAll s.heap f c) (t':=s.toks) (λb o n=>?_) g #[?_,c.toList,e,xv p,?_],L,q _ d (I.hok.fresh g) w l]
 ·show sortedAll_old n
 ·rw[lQm,i]
  show QAq (nQl h64) (!1)
 ·simpa using x
end L2
namespace Zp
open PySem
def M0{E:X0}{s:X4}{Q:X0}(c:s.heap.IsTupleIter i t k)(g:s.heap.IsTuple t vs)(h:vs[k]?=some v)
  (q:∀h',h'.IsTupleIter i t (k+1)->Heap.SameBut i s.heap h'->Q v {s with heap:=h'}):wpAny (model prog w) A (Builtin.SmallTypes.nextOf<|.ref i) Q E s:=by
 let#[j,b,e,a]:=id c
 let#[m,f,_,l,d]:=g
 unfold Builtin.SmallTypes.nextOf
 show Qaq<|QiQ (name:=Str.ofString "__next__") c.typeIs F.slot_tuple_iterator_next<|wpAny_call_entry F.slot_tuple_iterator_next c.typeIs F.entry_tuple_iterator_next ?_<|F.args_tuple_iterator_next_1 _
 show(?_:wpAny _ _ (field (.ref i) 0 >>= _) _ _ s)
 show Qaq<|QMq b a (x:=.ref t) L ?_
 show(?_:wpAny _ _ (if (Value.ref t==Value.none)=true then _ else _) _ _ s)
 rw[Quq (λz=>by cases (show false=true from z))]
 show(?_:wpAny _ _ (field (.ref i) 1 >>= _) _ _ s)
 show Qaq<|QMq b a (x:=.int k 0) L ?_
 show(?_:wpAny _ _ (seqItems? (.ref t) >>= _) _ _ s)
 show Qaq<|wpAny_seqItems f d ?_
 erw[Int.toNat_natCast,h]
 show Qaq<|wpAny_setField b a (by simp)<|Qgq #[v,L,Qgq<|q _ #[_,Heap.get?_update_self _ b<|Obj.isFreed_of_fields<|Obj.data_mapFields a _,(Obj.cls_mapFields ..).trans e,?_]<|Heap.SameBut.update ..]
 rw[Obj.data_mapFields a]
 simp[rawInt]
def Mx{A:X_}{E:X0}{s:X4}(f:A.handled=none)(b:s.heap.IsTupleIter i t k)(j:s.heap.IsTuple t vs)(l:vs[k]?=none)
  (q:∀h' e,Heap.ExtBut i s.heap h'->(∃o,h'.get? e=some o/\o.cls=.type "StopIteration")->E (.ref e) {s with heap:=h'}):wpAny (model prog w) A (Builtin.SmallTypes.nextOf<|.ref i) Q E s:=by
 let#[p,c,n,d]:=id b
 let#[u,h,_,r,g]:=j
 unfold Builtin.SmallTypes.nextOf
 show Qaq<|QiQ (name:=Str.ofString "__next__") b.typeIs F.slot_tuple_iterator_next<|wpAny_call_entry F.slot_tuple_iterator_next b.typeIs F.entry_tuple_iterator_next ?_<|F.args_tuple_iterator_next_1 _
 show(?_:wpAny _ _ (field (.ref i) 0 >>= _) _ _ s)
 show Qaq<|QMq c d (x:=.ref t) L ?_
 show(?_:wpAny _ _ (if (Value.ref t==Value.none)=true then _ else _) _ _ s)
 rw[Quq (λz=>by cases (show false=true from z))]
 show(?_:wpAny _ _ (field (.ref i) 1 >>= _) _ _ s)
 show Qaq<|QMq c d (x:=.int k 0) L ?_
 show(?_:wpAny _ _ (seqItems? (.ref t) >>= _) _ _ s)
 show Qaq<|wpAny_seqItems h g ?_
 erw[Int.toNat_natCast,l]
 show Qaq<|wpAny_rule<|Qaq<|wpAny_setField c d (by simp) ?_
 show(?_:wpAny _ _ (newExc (.type "StopIteration") [] >>= _) _ _ _)
 show Qaq ?_
 erw[newExc,newTuple]
 show Qaq<|QhQ ?_ (by size_fits)
 show Qaq (m:=firstArgMember _ _)<|wpAny_of_eq (a:=Value.none) (by first|rfl|(erw[firstArgMember];rfl))<|QhQ ?_ (by size_fits)
 erw[raiseNew]
 show Qaq<|wpAny_handled ?_
 first|rw[show A.in1.handled=none from f]|rw[f]
 show Qaq<|Qgq<|wpAny_throw<|q _ _ (((Heap.SameBut.update ..).extBut.push _).push _) #[_,Qrq _ L,L]
def Rest(z O i j:X8)(h h':Xe):Prop:=∀c o,c≠z->c≠O->c≠i->c≠j->h.get? c=some o->h'.get? c=some o
end Zp
namespace L2
open PyProof.Rows
def Inv.turnedL{X:Cx}{a:X2}{d:St}{H:Hp}{s:X4}{h':Xe}{t':Nat}{fp:X7}(I:Inv X a d H s)(g:∀b∈fp,p0 X a H b)(k:∀b o,b∉fp->s.heap.get? b=some o->h'.get? b=some o):Inv X a d H {s with heap:=h',toks:=t'}:=by
 have h:∀b u,H b=some u->b∉fp:=λb u e z=>by rw[(g b z).1] at e;cases e
 show I.step (g':=s.gens) (d':=s.drawn) (ch:=fp) (λb i=>#[(g b i).2.2.2.1,(g b i).2.1,(g b i).2.2.2.2.1,(g b i).2.2.2.2.2]) (λb o _ _ f e _=>k b o f e) (λb o _ _ f e _=>#[o.slots,k b o f e]) (λ_ _ _ _ n=>n)
  (λb o f e=>#[o,k b o f e]) (λ_ _ e=>e) (λ_ _ _ e=>e) (λb w e=>#[(List.toArray []),by rw[e];simp]) (λm p=>?_) (λb u e=>?_) I.bare
 ·let#[o,l,t,j,r]:=p
  show#[o,l,t,k _ o (λz=>(g _ z).2.1 L) j,r]
 ·show(I.hok b u e).stay (λc v f q=>k c v ?_ q) (λ_ q=>q) λ_ _ q=>q
  rcases f with z|z
  ·rw[z];show h b u e
  ·show h c _ z
def Inv.turnedNew{X:Cx}{a:X2}{d:St}{H:Hp}{s:X4}{h':Xe}{t':Nat}{fp:X7}{p:X8}{o:HO}(I:Inv X a d H s)(h:∀b∈fp,p0 X a H b)(k:∀b u,b∉fp->s.heap.get? b=some u->h'.get? b=some u)(t:s.heap.objs.size<=p)
  (l:cV X.prog X.w (upd H p o) h' p o):Inv X a d (upd H p o) {s with heap:=h',toks:=t'}:=by
 let A:=I.hok.fresh t
 have j:∀b u,H b=some u->b∉fp:=λb u e z=>by rw[(h b z).1] at e;cases e
 have i:∀b u,H b=some u->upd H p o b=some u:=λb u e=>by rw[bc (eY e A)];show e
 show I.step (g':=s.gens) (d':=s.drawn) (ch:=fp) (λb f=>#[(h b f).2.2.2.1,(h b f).2.1,(h b f).2.2.2.2.1,(h b f).2.2.2.2.2]) (λb o _ _ g e _=>k b o g e) (λb o _ _ g e _=>#[o.slots,k b o g e])
  (λb u _ e n=>by rw[bc (λz=>Nat.lt_irrefl _<|Qqq (Qiq e) (by rw[z];show t))];show n)
  (λb o g e=>#[o,k b o g e]) (λb G e=>i b _ e) (λb u v e=>i b _ e) (λb F e=>#[(List.toArray []),by rw[i b _ e];simp]) (λm B=>?_) (λb u e=>?_) I.bare
 ·let#[o,y,C,x,r]:=B
  show#[o,y,C,k _ o (λz=>(h _ z).2.1 L) x,r]
 ·by_cases f:b=p
  ·subst f
   rw[bz] at e
   cases e
   show l
  ·rw[bc f] at e
   show(I.hok b u e).stay (λc v g q=>k c v ?_ q) (λc q=>i c _ q) λc _ q=>i c _ q
   rcases g with z|z
   ·rw[z];show j b u e
   ·show j c _ z
end L2
namespace Zp
open PySem PySem.W PyProof.Rows
end Zp
namespace L2
open PyProof.Rows
mutual
inductive o9(N:Addr->Prop)(H:Hp):PyData->V->Prop
 |non:o9 N H .none .non
 |bl (b:Bool):o9 N H (.bool b) (.bl b)
 |int (i:Int):o9 N H (.int i) (.int i)
 |str (x:Str):o9 N H (.str x) (.str x)
 |tup {a:X8} {us:List V} {xs:List PyData}:H a=some (.tup us)->qz N H xs us->o9 N H (.tuple xs) (.ref a)
 |lst {a:X8} {us:List V} {xs:List PyData}:H a=some (.lst us)->N a->qz N H xs us->o9 N H (.list xs) (.ref a)
 |dct {a:X8}:H a=some (.dK [])->o9 N H (.dict []) (.ref a)
inductive qz(N:Addr->Prop)(H:Hp):List PyData->List V->Prop
 |nil:qz N H [] []
 |cons {x:PyData} {u:V} {xs:List PyData} {us:List V}:o9 N H x u->qz N H xs us->qz N H (x::xs) (u::us)
end
mutual
theorem lD{X:Cx}{g:X2}{J:St}{H:Hp}{s:X4}{N:Addr->Prop}(I:Inv X g J H s)(q:∀a,N a->a≠sysModules):∀{d:PyData} {v:V} {u:Xd},o9 N H d v->RelV v u->∃as,Reads s.heap u d as/\sysModules∉as
 |_,_,_,.non,r=>by cases r;show#[_,.none,by simp]
 |_,_,_,.bl b,r=>by cases r;show#[_,.bool b,by simp]
 |_,_,_,.int i,r=>by let#[t,rfl]:=r;show#[_,.int i t,by simp]
 |_,_,_,.str x,r=>by let#[t,rfl]:=r;show#[_,.str x t,by simp]
 | _,_,_,.tup (a:=a) h hs,r=>by
   cases r
   let#[k,l,#[o,f,c,n,p],A]:=I.tuple (gV.of h)
   let#[as,j,m]:=jM I q hs l
   show#[as,.tuple f c p (by simpa using j),m]
 | _,_,_,.lst (a:=a) h n hs,r=>by
   cases r
   let#[k,l,C,A]:=I.list (iX.of h)
   let#[o,f,c,M,p]:=C.isList
   let#[as,j,m]:=jM I q hs l
   show#[_,.list f c p (by simpa using j),by rw[Qsq];show λe=>e.elim (λe=>q _ n e.symm) m]
 | _,_,_,.dct (a:=a) h,r=>by
   cases r
   let#[_,y,P,G,z]:=yU I.hok h
   cases G
   let#[o,F,Q,f,K,c,_,B,_]:=z
   have w:F.toList= []:=List.eq_nil_of_length_eq_zero B.length
   show⟨_,.dict (as:= []) (bs:= []) (kvs:= []) f K.1 c (by rw[w];show .nil) (by rw[w];show .nil),by
     simp
     intro e
     rw[e] at y
     simp at y⟩
theorem jM{N:Addr->Prop}(I:Inv X b l H s)(d:∀a,N a->a≠sysModules):∀{xs:List PyData} {c:List V} {vs:X5},qz N H xs c->bL c vs->∃as,ReadsAll s.heap vs xs as/\sysModules∉as
 |_,_,_,.nil,r=>by cases r;show#[_,.nil,by simp]
 | _,_,_,.cons h hs,r=>by
   cases r with
   | cons r i=>
     let#[as,f,j]:=lD I d h r
     let#[m,k,g]:=jM I d hs i
     show#[_,.cons f k,by rw[mQa];show λe=>e.elim j g]
end
def HE:jO X (binaryOp .Mult) (rI IntMulOk λi j=>.int (i*j)):=Og λ_ _ _ _ _ _ _ a q=>mul_int q a
def Es(K:X1):R2:=λx y H Q=>∃a b c,x=.ref a/\y=.ref b/\iX K H a c/\iX K H b []/\Q (.bl (!c.isEmpty)) H
def E2{X:Cx}(e:X.A.units<cLine):jO X (compareOp .NotEq) (Es X.K):=by
 intro c s n H x y v u Q I f g h
 let#[a,b,m,rfl,rfl,ha,hb,q]:=h
 cases m with
 |nil=>show JY e c s n H _ _ v u Q I f g #[a,b,[],[],L,L,ha,hb,L,L,q]
 | cons z w=>
   cases f
   cases g
   let#[j,r,l,B]:=I.list ha
   let#[k,i,d,t]:=I.list hb
   let o:=r.length
   let p:=i.length
   show SeqAt.RcNeAt.lists_lengths l.isList d.isList (by simp[<-o,<-p]) e _ _ _ _ #[.bl true,H,I,L,q]
end L2
namespace HT
open PyProof.Rows
def mC{prog:X9}{w:Xc}{A:X_}{E:X0}{s:X4}{t sl:X8}{items:Xa}{g e:Xd}{lo hi:Xb}{Q:X0}(ht:IsTup s.heap t items)(i:s.heap.IsSliceOf sl g e .none)(n:IsPart g lo)(o:IsPart e hi)
  (f:dQ items.size 0 lo=0/\dQ items.size items.size hi=items.size) (h:Q (.ref t) s):wpAny (model prog w) A (getItem (.ref t)<|.ref sl) Q E s:=by
 let#[l,c,b,k]:=id i
 have d:s.TypeIs (.ref sl) "slice":=#[l,c,b]
 unfold getItem
 try with_reducible show QLq ?_
 first|show Qaq (Qgq ?_)|skip
 show Qaq<|wpAny_sequenceKey ht.typeIs (!1) ?_
 show Qaq (QiQ (name:=Str.ofString "__getitem__") ht.typeIs PyProof.Rows.slot_tuple_getitem
  (wpAny_call_entry PyProof.Rows.slot_tuple_getitem ht.typeIs entry_tuple_getitem ?_ (args_tuple_getitem _ _)))
 show wpAny _ _ (Builtin.Tuple.tupleItemsOf (.ref t) >>= _) _ _ s
 show Qaq<|tupleItemsOf_ ht ?_
 show Qaq<|wpAny_typeOf d ?_
 rw[Qhq (!1)]
 show Qaq<|ju i n o ?_
 have a:(((dQ items.size 0 lo:Nat):Int)==0&&(1:Int)==1&&(dQ items.size items.size hi-dQ items.size 0 lo)==items.size)=true:=by
  rw[f.1,f.2]
  simp
 show wpAny _ _ (if (((dQ items.size 0 lo:Nat):Int)==0&&(1:Int)==1&&(dQ items.size items.size hi-dQ items.size 0 lo)==items.size)=true then _ else _) _ _ s
 rw[Qhq a]
 have j:∀{A:X_} {E:X0} {R:Xf},R true s->wpAny (model prog w) A (Builtin.Tuple.tupleIsExact<|.ref t) R E s:=λ{A E R} h=>by
  unfold Builtin.Tuple.tupleIsExact
  show Qaq<|wpAny_typeOf ht.typeIs<|Qgq h
 show Qaq (m:=Builtin.Tuple.tupleIsExact _)<|j ?_
 rw[Qhq L]
 show Qaq<|wpAny_rule ?_
 show Qgq #[_,L,Qgq h]
end HT
namespace L2
open PyProof.Rows
def Pi(K:X1):V->Option Int->Option Int->Hp->VK->Prop:=λx c d H Q=>∃a b,x=.ref a/\gV K H a b∧
 (HT.dQ b.length 0 c=0/\HT.dQ b.length b.length d=b.length->Q (.ref a) H)/\(¬(HT.dQ b.length 0 c=0/\HT.dQ b.length b.length d=b.length)->∀p,H p=none->Q (.ref p) (upd H p<|.tup (xP b c d)))
def Hr:Oh X (Pi X.K):=by
 intro d s q H x v p o n m sl Q I k l i j h
 let#[a,b,rfl,hx,q1,q2]:=h
 by_cases e:HT.dQ b.length 0 n=0/\HT.dQ b.length b.length m=b.length
 ·cases k
  let#[f,r,g,t]:=I.tuple hx
  have c:f.toArray.size=b.length:=by rw[Qjq];show r.length.symm
  show⟨"tuple",_,PyProof.Rows.slot_tuple_getitem.lookup,g.typeIs,?_⟩
  show HT.mC g l i j (by rw[c];show e) ⟨.ref a,H,I,L,q1 e⟩
 ·show LP d s q H _ v p o n m sl Q I k l i j ⟨a,b,L,hx,e,q2 e⟩
end L2
namespace ST
open PySem
noncomputable def sm:Nat->Nat
 |0=>0
 |n+1=>5*sm n+1
theorem Kz:∀n,5^n=4*sm n+1
 |0=>rfl
 |n+1=>by rw[Nat.pow_succ,Kz n,sm];omega
theorem FS(a:Nat):∀b,sm (a+b)=5^b*sm a+sm b
 |0=>by simp[sm]
 |b+1=>by rw[<-Nat.add_assoc,sm,FS a b,sm,Nat.pow_succ,Nat.mul_add,Nat.mul_comm (5^b) 5,Nat.mul_assoc];omega
theorem F3:∀n,sm n%2=n%2
 |0=>rfl
 |n+1=>by have:=F3 n;rw[sm];omega
def Cr(h:2^k ∣ a*(2*c+1)):2^k ∣ a:=by
 have:Nat.Coprime (2^k) (2*c+1):=Nat.Coprime.pow_left k (by rw[Nat.coprime_iff_gcd_eq_one,Nat.gcd_rec];simp[Nat.add_mod])
 show this.dvd_of_dvd_mul_right h
theorem GC:∀(k d:Nat),2^k ∣ sm d->2^k ∣ d
 |0,d,_=>by simp
 | k+1,d,h=>by
   have b:2 ∣ sm d:=Nat.dvd_trans ⟨2^k,by rw[Nat.pow_succ,Nat.mul_comm]⟩ h
   have:=F3 d
   obtain⟨e,rfl⟩:∃e,d=e+e:=#[d/2,by omega]
   have a:sm (e+e)=2*(sm e*(2*sm e+1)):=by
     rw[FS,Kz,Nat.add_mul,Nat.mul_add]
     have:sm e*(2*sm e)=2*(sm e*sm e):=by rw[<-Nat.mul_assoc,Nat.mul_comm (sm e) 2,Nat.mul_assoc]
     rw[this,Nat.mul_assoc]
     omega
   rw[a,Nat.pow_succ,Nat.mul_comm] at h
   have:=GC k e (Cr<|Nat.dvd_of_mul_dvd_mul_left (!1) h)
   rw[Nat.pow_succ,<-Nat.two_mul,Nat.mul_comm]
   show Nat.mul_dvd_mul_left 2 this
noncomputable def zo(N x:Nat):Nat->Nat
 |0=>x
 |n+1=>(zo N x n*5+1)%N
theorem Cb(a:x<N):∀n,zo N x n=(5^n*x+sm n)%N
 |0=>by simp[zo,sm,Nat.mod_eq_of_lt a]
 | n+1=>by
   rw[zo,Cb a n,Nat.add_mod,Nat.mod_mul_mod,<-Nat.add_mod,sm,Nat.pow_succ,Nat.add_mul]
   congr 1
   rw[Nat.mul_right_comm]
   omega
def KJ(a:0<N)(b:x<N):∀n,zo N x n<N
 |0=>b
 |n+1=>Nat.mod_lt _ a
theorem BH(a:Nat):∀b,zo N x (a+b)=zo N (zo N x a) b
 |0=>rfl
 |b+1=>by rw[<-Nat.add_assoc,zo,BH a b,zo]
def IA(b:x<2^k)(h:zo (2^k) x d=x):2^k ∣ d:=by
 rw[Cb b,Kz] at h
 show GC k d<|Cr (c:=2*x) ?_
 have e:(4*sm d+1)*x+sm d=x+sm d*(2*(2*x)+1):=by
  rw[Nat.add_mul,Nat.mul_add]
  have:4*sm d*x=sm d*(2*(2*x)):=by rw[<-Nat.mul_assoc 2 2 x,<-Nat.mul_assoc (sm d),Nat.mul_comm (sm d) (2*2)]
  omega
 rw[e] at h
 have f:(x+sm d*(2*(2*x)+1))%2^k=x%2^k:=by rw[h,Nat.mod_eq_of_lt b]
 let a:=Nat.sub_mod_eq_zero_of_mod_eq f
 rw[Nat.add_sub_cancel_left] at a
 show Nat.dvd_of_mod_eq_zero a
def IE(d:x<2^k)(c:a<b)(f:b-a<2^k):zo (2^k) x a≠zo (2^k) x b:=by
 intro h
 have e:b=a+(b-a):=by omega
 rw[e,BH] at h
 have:=IA (KJ (Nat.two_pow_pos k) d a) h.symm
 show absurd (Nat.le_of_dvd (!0) this) (!0)
theorem oK[DecidableEq α]:∀{l m:List α},l.Nodup->(∀x∈l,x∈m)->l.length<=m.length
 | [],_,_,_=>Nat.zero_le _
 | x::l,m,n,h=>by
   rw[List.nodup_cons] at n
   let b:=h x QBq
   have:=oK (l:=l) (m:=m.erase x) n.2 λy a=>(List.mem_erase_of_ne (λz=>n.1 (by rw[<-z];show a))).mpr (h y<|Qpq _ a)
   rw[List.length_erase_of_mem b] at this
   have:=List.length_pos_of_mem b
   simp
   omega
def F0{occ:List Nat}(o:x<2^k)(h:occ.length<2^k):∃n,n<=occ.length/\zo (2^k) x n∉occ:=by
 show Classical.byContradiction λc=>?_
 have d:∀n,n<=occ.length->zo (2^k) x n∈occ:=λn e=>Classical.byContradiction λg=>c #[n,e,g]
 have f:((List.range (occ.length+1)).map (zo (2^k) x)).Nodup:=by
  rw[List.nodup_iff_pairwise_ne,List.pairwise_map]
  show List.Pairwise.imp_of_mem (R:=(·<·)) ?_ List.pairwise_lt_range
  intro a b p j l
  have:=List.mem_range.mp j
  show IE o l (!0)
 have:=oK f (m:=occ) λy i=>by
  let#[n,e,rfl]:=Qkq.mp i
  show d n (by have:=List.mem_range.mp e;omega)
 simp at this
 omega
end ST
namespace ST
open PySem PySem.SetTable
noncomputable def rn(m:Nat)(h:Int):Nat->Nat×Nat
 |0=>(bits h%(m+1),bits h)
 |n+1=>leap m (rn m h n).1 (rn m h n).2
noncomputable def L(m i:Nat):Nat:=runEnd m i-i
def Ig(m i:Nat):L m i<=9:=by unfold L runEnd;split <;>omega
def M4(hi:i<=m)(a:r<=L m i):i+r<=m:=by
 unfold L runEnd at a
 split at a <;>omega
def Jn(m:Nat)(h:Int):∀n,(rn m h n).1<=m
 |0=>Nat.le_of_lt_succ (Nat.mod_lt _<|Nat.succ_pos m)
 | n+1=>by
   show(leap m (rn m h n).1 (rn m h n).2).1<=m
   show Nat.le_of_lt_succ<|Nat.mod_lt _<|Nat.succ_pos m
def HZ(h:Int):bits h<2^64:=by
 unfold bits
 let a:=Int.emod_nonneg h (show(2^64:Int)≠0 by decide)
 let b:=Int.emod_lt_of_pos h (show(0:Int)<2^64 by decide)
 have:((h%(2^64:Int)).toNat:Int)<2^64:=by omega
 omega
theorem Gs(m:Nat)(h:Int):∀n,(rn m h n).2=bits h/32^n
 |0=>by simp[rn]
 | n+1=>by
   show(rn m h n).2/32=_
   rw[Gs m h n,Nat.div_div_eq_div_mul,Nat.pow_succ]
def OO(m:Nat)(h:Int)(a:13<=n):(rn m h n).2=0:=by
 rw[Gs]
 show Nat.div_eq_of_lt<|Qqq (HZ h) ?_
 show QAq (show 2^64<=32^13 by decide)<|Nat.pow_le_pow_right (!1) a
theorem JM(h:Int)(a:m+1=2^k):∀n,(rn m h (13+n)).1=zo (2^k) (rn m h 13).1 n
 |0=>rfl
 | n+1=>by
   show((rn m h (13+n)).1*5+1+(rn m h (13+n)).2/32)%(m+1)=_
   rw[OO m h (!0),JM h a n,a]
   rfl
def Cv(h:Int)(a:m+1=2^k){occ:List Nat}(c:occ.length<=m):∃n,n<=13+occ.length/\(rn m h n).1∉occ:=by
 let#[n,d,b]:=F0 (k:=k) (x:=(rn m h 13).1) (occ:=occ) (by have:=Jn m h 13;omega) (!0)
 show#[13+n,by omega,by rw[JM h a];show b]
noncomputable def sl(m:Nat)(h:Int)(n r:Nat):Nat:=(rn m h n).1+r
noncomputable def pb(m:Nat)(h:Int)(n r:Nat):Probe:={j:=sl m h n r,more:=L m (rn m h n).1-r,i:=(rn m h n).1,perturb:=(rn m h n).2,dummy:=none}
def Ej{t:SetTable}(a:r<L t.mask (rn t.mask h n).1):t.advance (pb t.mask h n r)=pb t.mask h n (r+1):=by
 unfold advance
 rw[Qhq (by show 0<L _ _-r;omega)]
 erw[pb,sl,Probe.mk.injEq]
 show#[by omega,by omega,trivial,trivial,trivial]
def Ct{t:SetTable}:t.advance (pb t.mask h n<|L t.mask (rn t.mask h n).1)=pb t.mask h (n+1) 0:=by
 unfold advance
 rw[Quq (by show¬0<L _ _-L _ _;omega)]
 rfl
def uB(m:Nat)(h:Int)(n r:Nat)(V:Nat->Prop):Prop:=(∀b a,b<n->a<=L m (rn m h b).1->V (sl m h b a))/\∀a,a<r->V (sl m h n a)
def uB.in{V:Nat->Prop}(b:uB m h n r V)(v:V (sl m h n r)):uB m h n (r+1) V:=
 #[b.1,λa c=>(Nat.lt_succ_iff_lt_or_eq.mp c).elim (b.2 a) λe=>e▸v]
def uB.out{V:Nat->Prop}(b:uB m h n (L m (rn m h n).1) V)(v:V (sl m h n<|L m (rn m h n).1)):uB m h (n+1) 0 V:=
 ⟨λf d g a=>(Nat.lt_succ_iff_lt_or_eq.mp g).elim (λc=>b.1 f d c a) λe=>by
  subst e
  show(Nat.lt_or_eq_of_le a).elim (b.2 d) λe=>e▸v,λd a=>absurd a (Nat.not_lt_zero _)⟩
def uB.zero{V:Nat->Prop}:uB m h 0 0 V:=#[λ_ _ c=>absurd c<|Nat.not_lt_zero _,λ_ c=>absurd c<|Nat.not_lt_zero _]
def uB.imp{V W:Nat->Prop}(b:uB m h n r V)(i:∀j,V j->W j):uB m h n r W:=#[λe a c d=>i _<|b.1 e a c d,λa c=>i _<|b.2 a c]
def He(m:Nat)(h:Int)(V:Nat->Prop)(j:Nat):Prop:=∃n r,r<=L m (rn m h n).1/\j=sl m h n r/\uB m h n r V
def He.imp{V W:Nat->Prop}(x:He m h V j)(i:∀j,V j->W j):He m h W j:=by
 let#[n,r,b,a,c]:=x
 show#[n,r,b,a,c.imp i]
def uo(xs:Array Nat)(j:Nat)(w:xs.toList.Pairwise (·<·)):below xs j<=xs.size/\(∀i x,xs[i]?=some x->i<below xs j->x<j)/\∀i x,xs[i]?=some x->below xs j<=i->j<=x:=by
 have f:∀{i p x r:Nat},xs[i]?=some x->xs[p]?=some r->i<p->x<r:=λ{i p x r} q l c=>by
  let#[z,C]:=Array.getElem?_eq_some_iff.mp q
  let#[A,B]:=Array.getElem?_eq_some_iff.mp l
  have:=List.pairwise_iff_getElem.mp w i p (by simpa using z) (by simpa using A) c
  simp at this
  omega
 have s:∀a d b,d<=b->b<=xs.size->b-d<=a->(∀i x,xs[i]?=some x->i<d->x<j)->(∀i x,xs[i]?=some x->b<=i->j<=x)->
   below.go xs j a d b<=xs.size/\(∀i x,xs[i]?=some x->i<below.go xs j a d b->x<j)/\∀i x,xs[i]?=some x->below.go xs j a d b<=i->j<=x:=by
  intro a
  induction a with
  | zero=>
    intro d b q l y m n
    have:d=b:=by omega
    subst this
    show#[l,m,n]
  | succ a v=>
    intro d b q l y m n
    unfold below.go
    by_cases c:d<b
    · rw[Qhq c]
      dsimp only
      have u:(d+b)/2<xs.size:=by omega
      have e:xs.getD ((d+b)/2) j=xs[(d+b)/2]:=by simp[Array.getD,u]
      have g:xs[(d+b)/2]?=some xs[(d+b)/2]:=by simp[u]
      rw[e]
      by_cases o:xs[(d+b)/2]<j
      · rw[Qhq o]
        show v _ _ (!0) l (!0) (λi x k hl=>?_) n
        by_cases t:i=(d+b)/2
        · subst t;rw[g] at k;cases k;show o
        · show Nat.lt_trans (f k g (!0)) o
      · rw[Quq o]
        show v _ _ (!0) (!0) (!0) m (λi x k hl=>?_)
        by_cases t:i=(d+b)/2
        · subst t;rw[g] at k;cases k;omega
        · have:=f g k (!0);omega
    · rw[Quq c]
      have:d=b:=by omega
      subst this
      show#[l,m,n]
 show s xs.size 0 xs.size (Nat.zero_le _) (Qmq _) (!0) (λi x _ c=>absurd c (Nat.not_lt_zero _)) (λi x h c=>by
  have:=(Array.getElem?_eq_some_iff.mp h).1;omega)
def yY{xs:Array Nat}(e:xs.toList.Pairwise (·<·)){i a x:Nat}(g:xs[i]?=some x)(f:xs[a]?=some x):i=a:=by
 let#[b,h]:=Array.getElem?_eq_some_iff.mp g
 let#[d,j]:=Array.getElem?_eq_some_iff.mp f
 rcases Nat.lt_trichotomy i a with c|c|c
 ·have:=List.pairwise_iff_getElem.mp e i a (by simpa using b) (by simpa using d) c
  simp at this;omega
 ·show c
 ·have:=List.pairwise_iff_getElem.mp e a i (by simpa using d) (by simpa using b) c
  simp at this;omega
def below_at{xs:Array Nat}(d:xs.toList.Pairwise (·<·))(h:xs[i]?=some j):below xs j=i:=by
 let#[l,g,k]:=uo xs j d
 rcases Nat.lt_trichotomy (below xs j) i with c|c|c
 ·have f:below xs j<xs.size:=Nat.lt_trans c (Array.getElem?_eq_some_iff.mp h).1
  have e:xs[below xs j]?=some xs[below xs j]:=by simp[f]
  let a:=k _ _ e (Qmq _)
  let b:=(Array.getElem?_eq_some_iff.mp h)
  let#[b,m]:=b
  have:=List.pairwise_iff_getElem.mp d (below xs j) i (by simpa using f) (by simpa using b) c
  simp at this
  omega
 ·show c
 ·have:=g i j h c;omega
def ml{t:SetTable}(a:t.place.toList.Pairwise (·<·))(h:t.place[i]?=some j):t.slot j=.live i:=by
 unfold slot
 dsimp only
 rw[below_at a h,h]
 simp
def Bh{t:SetTable}(a:t.dummies= (List.toArray []))(h:j∉t.place.toList):t.slot j=.empty:=by
 unfold slot
 dsimp only
 rw[Quq,Quq]
 ·rw[a]
  simp[has,below,below.go]
 ·intro z
  have z:t.place[below t.place j]?=some j:=by simpa using z
  show h (by have:=Array.mem_of_getElem? z;simpa using this)
structure TI(t:SetTable)(es:Array (Int×Value)):Prop where
 pw:∃k,t.mask+1=2^k/\1<=k
 dm:t.dummies= (List.toArray [])
 rise:t.place.toList.Pairwise (·<·)
 sz:t.place.size=es.size
 room:es.size<=t.mask
 rch:∀(i:Nat) (h:Int) (v:Xd) (j:Nat),es[i]?=some (h,v)->t.place[i]?=some j->He t.mask h (·∈t.place.toList) j
def TI.fits(x:TI t es):t.fits es.size=true:=by
 unfold SetTable.fits fill
 rw[x.dm,x.sz]
 simpa using x.room
def TI.odd(x:TI t es):t.gaveWay=false:=by
 let#[k,a,c]:=x.pw
 obtain⟨k,rfl⟩:∃b,k=b+1:=#[k-1,by omega]
 rw[Nat.pow_succ] at a
 unfold SetTable.gaveWay
 erw[beq_eq_false_iff_ne,ne_eq]
 omega
def TI.live(x:TI t es)(h:j∈t.place.toList):∃i,t.place[i]?=some j/\i<es.size:=by
 let#[i,a,e]:=QbQ h
 have a:i<t.place.size:=by simpa using a
 show#[i,by rw[Array.getElem?_eq_getElem a];simpa using e,by rw[<-x.sz];show a]
def TI.free(x:TI t es)(h:Int):∃N,N<=13+es.size/\(rn t.mask h N).1∉t.place.toList:=by
 let#[k,b,_]:=x.pw
 have hl:t.place.toList.length=es.size:=by rw[Array.length_toList];show x.sz
 let#[N,a,c]:=Cv (m:=t.mask) h b (occ:=t.place.toList) (by rw[hl];show x.room)
 show#[N,by rw[hl] at a;show a,c]
def Ia(x:TI t es){hashAt:Nat->Int}(F:(rn t.mask h N).1∉t.place.toList){V:Nat->Prop}(C:∀i j,t.place[i]?=some j->hashAt i≠h->V j):∀a n r,r<=L t.mask (rn t.mask h n).1->(n<N\/n=N/\r=0)->10*(N-n)+1<=a+r->uB t.mask h n r V->
  ∃ b d,d<=L t.mask (rn t.mask h b).1/\(b<N\/b=N/\d=0)/\10*n+r<=10*b+d/\uB t.mask h b d V∧
    ((sl t.mask h b d∉t.place.toList/\probe.go t hashAt h a (pb t.mask h n r)=some (.empty (sl t.mask h b d) none))∨
      ∃i,t.place[i]?=some (sl t.mask h b d)/\hashAt i=h/\probe.go t hashAt h a (pb t.mask h n r)=some (.candidate (sl t.mask h b d) i (t.advance (pb t.mask h b d)))):=by
 intro a
 induction a with
 |zero=>intro n r p f B;have:=Ig t.mask (rn t.mask h n).1;omega
 | succ a w=>
   intro n r p f B l
   by_cases c:sl t.mask h n r∈t.place.toList
   · let#[i,k,_]:=x.live c
     by_cases g:hashAt i=h
     · show#[n,r,p,f,Qmq _,l,.inr #[i,k,g,?_]]
       unfold probe.go
       rw[show(pb t.mask h n r).j=sl t.mask h n r from rfl,ml x.rise k]
       simp[g]
     · have y:=C i _ k g
       have e:probe.go t hashAt h (a+1) (pb t.mask h n r)=probe.go t hashAt h a (t.advance<|pb t.mask h n r):=by
         conv=>lhs;unfold probe.go
         rw[show(pb t.mask h n r).j=sl t.mask h n r from rfl,ml x.rise k]
         simp[g]
       rw[e]
       have u:n<N:=by
         rcases f with f|⟨rfl,rfl⟩
         · show f
         · show absurd c F
       by_cases v:r<L t.mask (rn t.mask h n).1
       · rw[Ej v]
         let#[b,d,q,s,A,o,m]:=w n (r+1) v (.inl u) (!0) (l.in y)
         show#[b,d,q,s,by omega,o,m]
       · have z:r=L t.mask (rn t.mask h n).1:=by omega
         have:=Ig t.mask (rn t.mask h n).1
         subst z
         rw[Ct]
         let#[b,d,q,s,A,o,m]:=w (n+1) 0 (Nat.zero_le _) (!0) (!0) (l.out y)
         show#[b,d,q,s,by omega,o,m]
   · show#[n,r,p,f,Qmq _,l,.inl #[c,?_]]
     unfold probe.go
     rw[show(pb t.mask h n r).j=sl t.mask h n r from rfl,Bh x.dm c]
     rfl
def AD(x:TI t es){hashAt:Nat->Int}(c:N<=13+es.size)(g:(rn t.mask h N).1∉t.place.toList){V:Nat->Prop}(f:∀i j,t.place[i]?=some j->hashAt i≠h->V j)(d:r<=L t.mask (rn t.mask h n).1)(k:n<N\/n=N/\r=0)(e:uB t.mask h n r V):
  ∃ a b,b<=L t.mask (rn t.mask h a).1/\(a<N\/a=N/\b=0)/\10*n+r<=10*a+b/\uB t.mask h a b V∧
    ((sl t.mask h a b∉t.place.toList/\t.probe hashAt h (pb t.mask h n r)=some (.empty (sl t.mask h a b) none))∨
      ∃i,t.place[i]?=some (sl t.mask h a b)/\hashAt i=h/\t.probe hashAt h (pb t.mask h n r)=some (.candidate (sl t.mask h a b) i (t.advance (pb t.mask h a b)))):=by
 unfold SetTable.probe
 show Ia x g f _ n r d k ?_ e
 have:=x.room
 unfold turns
 omega
def zp(x:TI t es){hashAt:Nat->Int}(e:t.probe hashAt h p=m)(y:p=pb t.mask h n r)(q:∀i,hashAt i=(es[i]?.map (·.1)).getD 0){same:Nat->Bool}(f:N<=13+es.size)(C:(rn t.mask h N).1∉t.place.toList)(z:r<=L t.mask (rn t.mask h n).1)(B:n<N\/n=N/\r=0)
  (I:uB t.mask h n r (λj=>∃i,t.place[i]?=some j/\∀v,es[i]?=some (h,v)->same i=false)):
  ∃ a b,b<=L t.mask (rn t.mask h a).1/\(a<N\/a=N/\b=0)/\10*n+r<=10*a+b/\uB t.mask h a b (λj=>∃i,t.place[i]?=some j/\∀v,es[i]?=some (h,v)->same i=false)∧
    ((sl t.mask h a b∉t.place.toList/\m=some (.empty (sl t.mask h a b) none))∨
      ∃i v,t.place[i]?=some (sl t.mask h a b)/\es[i]?=some (h,v)/\m=some (.candidate (sl t.mask h a b) i (t.advance (pb t.mask h a b)))):=by
 subst y
 let#[a,b,F,G,u,w,d]:=AD x (hashAt:=hashAt) f C (λi j k g=>#[i,k,λv H=>absurd (by rw[q,H];rfl) g]) z B I
 show#[a,b,F,G,u,w,?_]
 rw[e] at d
 rcases d with d|⟨i,l,c,A⟩
 ·show .inl d
 ·let#[j,s,o]:=x.live (j:=sl t.mask h a b) (by have:=Array.mem_of_getElem? l;simpa using this)
  have:i=j:=yY x.rise l s
  subst this
  show .inr #[i,es[i].2,l,?_,A]
  rw[Array.getElem?_eq_getElem o]
  rw[q,Array.getElem?_eq_getElem o] at c
  have c:es[i].1=h:=c
  rw[<-c]
def OY(es:Array (Int×Value)):Prop:=∀(i:Nat) (h:Int) (v:Xd),es[i]?=some (h,v)->∃b,v=.ref b
def x9{E:X0}{s:X4}(T:TI t es)(R:OY es)(ho:s.heap.get? a=some o)(hd:o.data=.set es c t){same:Nat->Bool}(G:N<=13+es.size)(hN:(rn t.mask h N).1∉t.place.toList)
  (I:∀(Q:Xf),Q false s->wpAny (model prog w) A (searchCouldBeSeen x ((es.filter (·.1==h)).toList.map (·.2))) Q E s)
  (U:∀i v,es[i]?=some (h,v)->∀(Q:Xf),Q (same i) s->wpAny (model prog w) A (eqBool v x) Q E s)
  {Q:SetFound->Shared->Prop} (q1:(∃i v,es[i]?=some (h,v)/\same i=true)->∀f:Option Nat,(adding=false->f.isSome=true)->Q (.there f) s) (q2:(∀i v,es[i]?=some (h,v)->same i=false)->∀j,j∉t.place.toList->He t.mask h (·∈t.place.toList) j->Q (.free j false) s):
  ∀ g n r l,l.getD (t.probeStart h)=pb t.mask h n r->r<=L t.mask (rn t.mask h n).1->(n<N\/n=N/\r=0)->10*(N-n)+1<=g+r->uB t.mask h n r (λj=>∃i,t.place[i]?=some j/\∀v,es[i]?=some (h,v)->same i=false)->
    wpAny (model prog w) A (setSearchFrom a x h adding g l) Q E s:=by
 intro g
 induction g with
 |zero=>intro n r _ _ Z hn hf;have:=Ig t.mask (rn t.mask h n).1;omega
 | succ g ih=>
   intro n r l H Z hn hf hB
   unfold setSearchFrom
   show Qaq<|wpAny_setState_of ho hd T.fits ?_
   dsimp only
   rw[T.odd]
   erw[Bool.false_eq_true,if_false]
   split
   · rename_i a6 e
     let#[k,u,a1,P,a3,C,X]:=zp T e H (λ_=>rfl) G hN Z hn hB
     rcases X with⟨y,p⟩|⟨i,v,y,p,b3⟩
     · cases p
       dsimp only
       show Qgq<|q2 (λi v K=>?_) _ y #[k,u,a1,rfl,C.imp λj ⟨i,K,_⟩=>by have:=Array.mem_of_getElem? K;simpa using this]
       cases F:same i with
       |false=>rfl
       | true=>
         exfalso
         have J:i<t.place.size:=by rw[T.sz];show(Array.getElem?_eq_some_iff.mp K).1
         let#[W,M,c1,c2,c3]:=T.rch i h v _ K (Array.getElem?_eq_getElem J)
         have no:∀{n1 S:Nat},sl t.mask h W M=sl t.mask h n1 S->(∃q,t.place[q]?=some (sl t.mask h n1 S)/\∀v,es[q]?=some (h,v)->same q=false)->False:=λ{n1 S} e ⟨q,d1,d2⟩=>by
           have:q=i:=yY T.rise d1 (by rw[Array.getElem?_eq_getElem J,c2,e])
           subst this
           rw[d2 v K] at F
           cases F
         rcases Nat.lt_trichotomy W k with d|d|d
         · show no rfl<|C.1 W M d c1
         · subst d
           rcases Nat.lt_trichotomy M u with d|d|d
           · show no rfl<|C.2 M d
           · subst d
             show y (by rw[<-c2];simp)
           · show y<|c3.2 u d
         · show y<|c3.1 k u d a1
     · cases b3
       have a0:k<N:=by
         rcases P with P|⟨rfl,rfl⟩
         · show P
         · show absurd (by have:=Array.mem_of_getElem? y;simpa [sl] using this) hN
       let#[b,rfl]:=R i h v p
       have B:wpAny (model prog w) A (do
           let equal<-holding [Value.ref b] (eqBool (Value.ref b) x)
           let __x<-setState a
           if (adding&&equal)=true then pure (SetFound.there none)
             else
               match __x.2.snd.sameMemory t.moves t.mask with
               | some same=>
                 match if same=true then __x.2.snd.slot (sl t.mask h k u) else Slot.empty with
                 | Slot.live q=>
                   match __x.fst[q]? with
                   | some (fst,y')=>do
                     let __do_lift<-isSame y' (Value.ref b)
                     let still<-pure (if __do_lift=true then some q else none)
                     match still with
                       | none=>do
                         rule "set.search.anew"
                         setSearchFrom a x h adding g none
                       | some q=>
                         if equal=true then pure (SetFound.there<|some q)
                         else setSearchFrom a x h adding g (some<|t.advance<|pb t.mask h k u)
                   | none=>do
                     let still<-pure none
                     match still with
                       | none=>do
                         rule "set.search.anew"
                         setSearchFrom a x h adding g none
                       | some q=>
                         if equal=true then pure (SetFound.there<|some q)
                         else setSearchFrom a x h adding g (some<|t.advance<|pb t.mask h k u)
                 | x_1=>do
                   let still<-pure none
                   match still with
                     | none=>do
                       rule "set.search.anew"
                       setSearchFrom a x h adding g none
                     | some q=>
                       if equal=true then pure (SetFound.there<|some q)
                       else setSearchFrom a x h adding g (some<|t.advance<|pb t.mask h k u)
               |x=>unsupported "set.changed-during-lookup:is-the-new-block-at-the-old-address") Q E s:=by
         show Qaq<|QLq<|U i _ p _ ?_
         show Qaq<|wpAny_setState_of ho hd T.fits ?_
         dsimp only
         have sm:t.sameMemory t.moves t.mask=some true:=by unfold sameMemory;simp
         cases F:same i with
         | true=>
           cases adding with
           | true=>
             erw[Bool.true_and,if_true]
             show Qgq (q1 #[i,_,p,F] _ λz=>by cases z)
           | false=>
             erw[Bool.false_and,Bool.false_eq_true,if_false]
             rw[sm]
             dsimp only
             rw[Qhq rfl,ml T.rise y]
             dsimp only
             rw[p]
             dsimp only
             show Qaq ?_
             unfold isSame
             dsimp only
             rw[Qhq (by simp)]
             show Qgq<|Qaq<|Qgq ?_
             erw[if_true]
             show Qgq (q1 #[i,_,p,F] _ λ_=>rfl)
         | false=>
           rw[Bool.and_false]
           erw[Bool.false_eq_true,if_false]
           rw[sm]
           dsimp only
           rw[Qhq rfl,ml T.rise y]
           dsimp only
           rw[p]
           dsimp only
           show Qaq ?_
           unfold isSame
           dsimp only
           rw[Qhq (by simp)]
           show Qgq<|Qaq<|Qgq ?_
           erw[if_true]
           have hv:∃Y,t.place[Y]?=some (sl t.mask h k u)/\∀v,es[Y]?=some (h,v)->same Y=false:=#[i,y,λ_ _=>F]
           have:=Ig t.mask (rn t.mask h k).1
           by_cases cr:u<L t.mask (rn t.mask h k).1
           · show ih k (u+1) _ (by rw[<-Ej cr];rfl) cr (.inl a0) (!0)<|C.in hv
           · have er:u=L t.mask (rn t.mask h k).1:=by omega
             subst er
             show ih (k+1) 0 _ (by rw[<-Ct];rfl) (Nat.zero_le _) (!0) (!0)<|C.out hv
       dsimp only
       split
       · show Qaq (I _ ?_)
         erw[Bool.false_eq_true,if_false]
         rw[p]
         show B
       · rw[p]
         show B
   · rename_i e
     let#[k,u,a1,P,a3,C,X]:=zp T (m:=t.probe _ h _) rfl H (λ_=>rfl) G hN Z hn hB
     rcases X with⟨_,p⟩|⟨_,_,_,_,p⟩
     · show absurd p<|e _
     · show absurd p<|e _
def IW(a:Array (Option Nat))(j:Nat):Prop:=∃k:Nat,a[j]?=some (some k)
structure OI(m:Nat)(hs:List Int)(ow:Array (Option Nat)):Prop where
 sz:ow.size=m+1
 fn:∀(k:Nat) (h:Int),hs[k]?=some h->∃j,ow[j]?=some (some k)/\He m h (IW ow) j
 inj:∀(j j' k:Nat),ow[j]?=some (some k)->ow[j']?=some (some k)->j=j'
 lt:∀(j k:Nat),ow[j]?=some (some k)->k<hs.length
noncomputable def slots(m:Nat)(g:Array (Option Nat)):List (Nat×Nat):=(List.range (m+1)).filterMap λj=>(g.getD j none).map (j,·)
def getD_some{g:Array (Option Nat)}:g.getD j none=some k↔g[j]?=some (some k):=by
 unfold Array.getD
 by_cases h:j<g.size
 ·simp[h]
 ·simp[h]
def fB(x:OI m l g):p∈slots m g↔g[p.1]?=some (some p.2):=by
 unfold slots
 rw[List.mem_filterMap]
 constructor
 ·rintro⟨j,_,e⟩
  let#[k,a,rfl]:=oQm.mp e
  show getD_some.mp a
 ·intro h
  show#[p.1,List.mem_range.mpr ?_,by rw[getD_some.mpr h];rfl]
  rw[<-x.sz]
  show(Array.getElem?_eq_some_iff.mp h).1
theorem tj:∀(n a:Nat) (f:Nat->Option Nat),(((List.range' a n).filterMap λj=>(f j).map (j,·)).map (·.1)).Pairwise (·<·)
 |0,a,f=>by simp
 | n+1,a,f=>by
   rw[List.range'_succ]
   let c:=tj n (a+1) f
   cases e:f a with
   |none=>rw[List.filterMap_cons_none (by rw[e];rfl)];show c
   | some k=>
     rw[List.filterMap_cons_some (by rw[e];rfl),QDq,List.pairwise_cons]
     show#[λb i=>?_,c]
     let#[p,d,rfl]:=Qkq.mp i
     let#[j,h,e]:=List.mem_filterMap.mp d
     let#[o,_,rfl]:=oQm.mp e
     have:=(List.mem_range'_1.mp h).1
     show a<j
     omega
def zQ(m:Nat)(g:Array (Option Nat)):((slots m g).map (·.1)).Pairwise (·<·):=by
 unfold slots
 rw[List.range_eq_range']
 show tj (m+1) 0 λj=>g.getD j none
def sV(x:OI m l g):((slots m g).map (·.2)).Perm (List.range l.length):=by
 show(List.perm_ext_iff_of_nodup ?_ List.nodup_range).mpr λk=>?_
 ·rw[List.nodup_iff_pairwise_ne,List.pairwise_map]
  let c:=zQ m g
  rw[List.pairwise_map] at c
  show List.Pairwise.imp_of_mem (λ{p q} a hq lt e=>?_) c
  let h:=(fB x).mp a
  let b:=(fB x).mp hq
  rw[<-e] at b
  have:=x.inj _ _ _ h b
  omega
 ·rw[Qkq,List.mem_range]
  constructor
  ·rintro⟨p,a,rfl⟩
   show x.lt _ _ ((fB x).mp a)
  ·intro d
   let#[j,f,_]:=x.fn k l[k] (gQe d)
   show#[(j,k),(fB x).mpr f,rfl]
def DH{g:Array (Option Nat)}(I:g.size=m+1)(C:¬IW g (rn m h N).1):∀a n,n<=N->N-n<a->uB m h n 0 (IW g)->∃j,layClean.free m g a (rn m h n).1 (rn m h n).2=some j/\g[j]?=some none/\He m h (IW g) j:=by
 have p:∀{j:Nat},j<=m->¬IW g j->g[j]?=some none:=λ{j} w no=>by
  have hl:j<g.size:=by omega
  rw[Array.getElem?_eq_getElem hl]
  cases e:g[j] with
  |none=>rfl
  |some k=>show absurd #[k,by rw[Array.getElem?_eq_getElem hl,e]] no
 intro a
 induction a with
 |zero=>intro n B A;omega
 | succ a F=>
   intro n B A x
   let v:=Jn m h n
   have G:runEnd m (rn m h n).1+1-(rn m h n).1=L m (rn m h n).1+1:=by unfold L runEnd;split <;>omega
   unfold layClean.free
   rw[G]
   cases e:(List.range (L m (rn m h n).1+1)).find? λk=>(g.getD ((rn m h n).1+k)<|some 0).isNone with
   | some r=>
     have u:r<=L m (rn m h n).1:=by have:=List.mem_range.mp (List.mem_of_find?_eq_some e);omega
     let t:=List.find?_some e
     have w:(rn m h n).1+r<=m:=M4 v u
     have hl:(rn m h n).1+r<g.size:=by omega
     show#[_,rfl,?_,n,r,u,rfl,x.1,λb o=>?_]
     · rw[Array.getElem?_eq_getElem hl]
       erw[Array.getD,hl,dif_pos] at t
       simpa using t
     · have f:=List.find?_range_eq_some.mp e
       let#[_,_,f]:=f
       let f:=f b o
       have i:(rn m h n).1+b<g.size:=by omega
       erw[Array.getD,i,dif_pos,Bool.not_eq_true',Option.isNone_eq_false_iff,Option.isSome_iff_exists] at f
       let#[k,s]:=f
       show#[k,by show g[(rn m h n).1+b]?=_;rw[Array.getElem?_eq_getElem i];show congrArg some s]
   | none=>
     have q:∀b,b<=L m (rn m h n).1->IW g (sl m h n b):=λb o=>by
       have:=List.find?_eq_none.mp e b (List.mem_range.mpr (!0))
       have w:(rn m h n).1+b<=m:=M4 v o
       have i:(rn m h n).1+b<g.size:=by omega
       erw[Array.getD,i,dif_pos,Bool.not_eq_true,Option.isNone_eq_false_iff,Option.isSome_iff_exists] at this
       let#[k,s]:=this
       show#[k,by show g[(rn m h n).1+b]?=_;rw[Array.getElem?_eq_getElem i];show congrArg some s]
     have H:n≠N:=λz=>by subst z;show C (q 0<|Nat.zero_le _)
     show F (n+1) (!0) (!0) #[λy b c d=>(Nat.lt_succ_iff_lt_or_eq.mp c).elim (λc=>x.1 y b c d) λe=>by subst e;show q b d,λb c=>absurd c<|Nat.not_lt_zero _]
def OI.step(u:m+1=2^k)(x:OI m l g)(hl:l.length<=m)(h:Int):∃j,layClean.free m g (turns m) (bits h%(m+1)) (bits h)=some j/\OI m (l++ [h]) (g.setIfInBounds j<|some l.length):=by
 let n:=(sV x).length_eq
 rw[lQm,QVq] at n
 let#[N,r,p]:=Cv (m:=m) h u (occ:=(slots m g).map (·.1)) (by rw[lQm,n];show hl)
 rw[lQm,n] at r
 have z:¬IW g (rn m h N).1:=λ⟨k,b⟩=>p (Qkq.mpr #[((rn m h N).1,k),(fB x).mpr b,rfl])
 let#[j,v,f,w]:=DH x.sz z (turns m) 0 (Nat.zero_le _) (by unfold turns;omega) uB.zero
 show#[j,v,?_]
 have y:j<g.size:=(Array.getElem?_eq_some_iff.mp f).1
 have d:∀i,(g.setIfInBounds j<|some l.length)[i]?=if j=i then some (some l.length) else g[i]? :=λi=>by
  rw[Array.getElem?_setIfInBounds]
  by_cases c:j=i
  ·subst c;simp[y]
  ·simp[c]
 have o:∀i,IW g i->IW (g.setIfInBounds j<|some l.length) i:=λi s=>by
  let#[k,b]:=s
  show#[k,?_]
  rw[d,Quq]
  ·show b
  ·rintro rfl;rw[f] at b;cases b
 show#[by rw[Array.size_setIfInBounds];show x.sz,λk q b=>?_,λi A k a e=>?_,λi k a=>?_]
 ·by_cases c:k<l.length
  ·rw[QHq c] at b
   let#[i,a,t]:=x.fn k q b
   show#[i,?_,t.imp o]
   rw[d,Quq]
   ·show a
   ·rintro rfl;rw[f] at a;cases a
  ·rw[QQq (!0)] at b
   have:k-l.length=0:=by have:=(gQs.mp b).1;simp at this;omega
   rw[this] at b
   cases b
   have:k=l.length:=by omega
   subst this
   show#[j,by rw[d,Qhq rfl],w.imp o]
 ·rw[d] at a e
  split at a <;>split at e
  ·omega
  ·cases a;have:=x.lt _ _ e;omega
  ·cases e;have:=x.lt _ _ a;omega
  ·show x.inj _ _ _ a e
 ·rw[d] at a
  rw[lQa]
  split at a
  ·cases a;simp
  ·have:=x.lt _ _ a;simp;omega
def OI.nil:OI m [] (Array.replicate (m+1) none):=by
 show#[by simp,λk h e=>by simp at e,λj a k h _=>?_,λj k h=>?_]
 ·rw[Array.getElem?_replicate] at h;split at h <;>cases h
 ·rw[Array.getElem?_replicate] at h;split at h <;>cases h
noncomputable def Ol(m:Nat)(a:Option (Array (Option Nat)×Nat))(h:Int):Option (Array (Option Nat)×Nat):=do
 let (owner,k)<-a
 let j<-layClean.free m owner (turns m) (bits h%(m+1)) (bits h)
 pure (owner.setIfInBounds j<|some k,k+1)
theorem Bw(c:m+1=2^k):∀(more l:List Int) (g:Array (Option Nat)),OI m l g->l.length+more.length<=m+1->
  ∃a,more.foldl (Ol m) (some (g,l.length))=some (a,l.length+more.length)/\OI m (l++more) a
 | [],l,g,x,_=>#[g,rfl,by rw[List.append_nil];show x]
 | h::more,l,g,x,hl=>by
   rw[Qnq] at hl
   let#[j,e,y]:=x.step c (!0) h
   let#[a,b,z]:=Bw c more (l++ [h]) _ y (by rw[lQa];simp;omega)
   show#[a,?_,by rw[Qvq] at z;show z]
   have d:Ol m (some (g,l.length)) h=some (g.setIfInBounds j<|some l.length,l.length+1):=by simp[Ol,e]
   rw[List.foldl_cons,d]
   rw[lQa] at b
   erw[Qnq,QGq,Nat.zero_add] at b|-
   rw[b]
   congr 2
   omega
def Fl(a:m+1=2^k)(l:Array Int)(hl:l.size<=m+1):∃g,layClean m l=some g/\OI m l.toList g:=by
 let#[g,e,x]:=Bw a l.toList [] _ OI.nil (by simpa using hl)
 show#[g,?_,by simpa using x]
 unfold layClean
 rw[<-Array.foldl_toList]
 show Option.map _ (l.toList.foldl (Ol m)<|some (Array.replicate (m+1) none,0))=_
 rw[show(some (Array.replicate (m+1) none,0):Option (Array (Option Nat)×Nat))=some (Array.replicate (m+1) none,([]:List Int).length) from rfl,e]
 rfl
theorem zP:∀(b n a:Nat),(∃k,a=2^k/\3<=k)->n<a*2^b->a<=2*n+8->(∃k,sizeAbove.go n b a=2^k/\3<=k)/\n<sizeAbove.go n b a/\sizeAbove.go n b a<=2*n+8
 |0,n,a,h,lt,le=>#[h,by simpa [sizeAbove.go] using lt,le]
 | b+1,n,a,h,lt,le=>by
   unfold sizeAbove.go
   by_cases c:a<=n
   · rw[Qhq c]
     let#[k,rfl,hk]:=h
     show zP b n _ #[k+1,by rw[Nat.pow_succ],by omega] ?_ (!0)
     rw[Nat.pow_succ] at lt
     rw[Nat.mul_assoc,Nat.mul_comm 2]
     show lt
   · rw[Quq c]
     show#[h,by omega,le]
def r8(a:n<2^64):(∃k,sizeAbove n=2^k/\3<=k)/\n<sizeAbove n/\sizeAbove n<=2*n+8:=by
 unfold sizeAbove
 show zP 64 n 8 #[3,rfl,Qmq _] ?_ (!0)
 omega
def yg{t:SetTable}{es:Array (Int×Value)}(hw:es.size<=wanted)(A:wanted<2^64):∃(t':SetTable) (a:Array Nat),t.relaid (es.map (·.1)) wanted=some (t',a)/\t'.mask+1=sizeAbove wanted∧
  (a.filterMap (es[·]?)).size=es.size/\(a.filterMap (es[·]?)).toList.Perm es.toList/\TI t' (a.filterMap (es[·]?)):=by
 let#[#[k,P,W],Z,Y]:=r8 A
 have I:sizeAbove wanted-1+1=2^k:=by rw[P];have:=Nat.two_pow_pos k;omega
 generalize z:sizeAbove wanted-1=m at I
 have F:(es.map (·.1)).size=es.size:=by simp
 let#[K,e,x]:=Fl I (es.map (·.1)) (by rw[F];omega)
 have hl:((es.map (·.1)).toList).length=es.size:=by simp
 let c:=sV x
 rw[hl] at c
 let d:_:=slots m K
 let b:_:=(d.map (·.2)).toArray.filterMap (es[·]?)
 have o:d.length=es.size:=by have:=c.length_eq;simpa using this
 have w:∀i (f:i<d.length),b[i]?=es[(d[i]).2]? :=by
  have B:∀(l:List (Nat×Nat)),(∀p∈l,p.2<es.size)->∀i (f:i<l.length),((l.map (·.2)).filterMap (es[·]?))[i]?=es[(l[i]).2]? :=by
   intro l
   induction l with
   |nil=>intro _ i f;simp at f
   | cons p l X=>
     intro g i f
     let r:=g p (QBq ..)
     rw[QDq,List.filterMap_cons_some (Array.getElem?_eq_getElem r)]
     cases i with
     |zero=>simp[r]
     |succ i=>simpa using X (λq Q=>g q<|Qpq _ Q) i (by simpa using f)
  intro i f
  have:=B d (λp g=>by have:=x.lt _ _ ((fB x).mp g);rw[hl] at this;show this) i f
  simpa [b] using this
 have J:b.toList.Perm es.toList:=by
  have:=c.filterMap (es[·]?)
  rw[filterMap_getElem?_range] at this
  simpa [b] using this
 have n:b.size=es.size:=by have:=J.length_eq;simpa using this
 show#[{mask:=m,place:=(d.map (·.1)).toArray,dummies:= (List.toArray []),finger:=t.finger,led:=t.led,moves:=t.movedTo m,plain:=t.plain},(d.map (·.2)).toArray,?_,?_,n,J,?_]
 ·unfold relaid laid
  rw[z,e]
  rfl
 ·show m+1=_
  omega
 ·show#[#[k,I,by omega],rfl,?_,?_,?_,?_]
  ·show((d.map (·.1)).toArray.toList).Pairwise _
   show zQ m K
  ·show(d.map (·.1)).toArray.size=b.size
   rw[n,Qjq,lQm]
   show o
  ·show b.size<=m
   omega
  ·intro i h v j s u
   have u:(d.map (·.1))[i]?=some j:=by simpa using u
   rw[gQm] at u
   let#[p,g,rfl]:=oQm.mp u
   let#[f,y]:=gQs.mp g
   have s:b[i]?=some (h,v):=s
   rw[w i f,y] at s
   let#[N,H,S]:=x.fn p.2 h (by
    rw[Array.toList_map,gQm]
    have:es.toList[p.2]?=some (h,v):=by simpa using s
    rw[this]
    rfl)
   let G:=(fB x).mp (mQg g)
   have:N=p.1:=x.inj _ _ _ H G
   subst this
   show S.imp λM U=>?_
   let#[R,C]:=U
   show M∈((d.map (·.1)).toArray).toList
   show Qkq.mpr #[(M,R),(fB x).mpr C,rfl]
mutual
noncomputable def nu:Nat->PyData->Bool
 |_,.int _=>true
 |n+1,.tuple ps=>mK n ps
 |_,_=>false
noncomputable def mK:Nat->List PyData->Bool
 |_,[]=>true
 |n,p::ps=>nu n p&&mK n ps
end
mutual
noncomputable def v7:PyData->Int
 |.int i=>hashInt i
 |.tuple a=>reduceHash (Builtin.Tuple.tupleHashOf<|sk a)
 |_=>0
noncomputable def sk:List PyData->List Int
 | []=> []
 |p::ps=>v7 p::sk ps
end
mutual
theorem Ef:∀{n:Nat} {p q:PyData} {m:Nat},nu n p=true->nu m q=true->PyData.eqv p q=true->p=q
 |_,.int i,.int j,_,_,_,h=>by simp[PyData.eqv] at h;rw[h]
 | n+1,.tuple ps,.tuple qs,m+1,h1,h2,h=>by
   erw[nu] at h1 h2
   rw[PyData.eqv] at h
   rw[Gw h1 h2 h]
 |_,.int i,.tuple qs,_,_,_,h=>by simp[PyData.eqv] at h
 |_,.tuple ps,.int j,_,_,_,h=>by simp[PyData.eqv] at h
 |_,.none,_,_,h,_,_=>by simp[nu] at h
 |_,.bool _,_,_,h,_,_=>by simp[nu] at h
 |_,.str _,_,_,h,_,_=>by simp[nu] at h
 |_,.list _,_,_,h,_,_=>by simp[nu] at h
 |_,.dict _,_,_,h,_,_=>by simp[nu] at h
 |_,_,.none,_,_,h,_=>by simp[nu] at h
 |_,_,.bool _,_,_,h,_=>by simp[nu] at h
 |_,_,.str _,_,_,h,_=>by simp[nu] at h
 |_,_,.list _,_,_,h,_=>by simp[nu] at h
 |_,_,.dict _,_,_,h,_=>by simp[nu] at h
 |0,.tuple _,_,_,h,_,_=>by simp[nu] at h
 |_,_,.tuple _,0,_,h,_=>by simp[nu] at h
theorem Gw:∀{n:Nat} {ps a:List PyData} {m:Nat},mK n ps=true->mK m a=true->PyData.eqvAll ps a=true->ps=a
 |_,[],[],_,_,_,_=>rfl
 | _,p::ps,q::a,_,h1,h2,h=>by
   erw[mK,QCq] at h1 h2
   erw[PyData.eqvAll,QCq] at h
   rw[Ef h1.1 h2.1 h.1,Gw h1.2 h2.2 h.2]
 |_,[],_::_,_,_,_,h=>by simp[PyData.eqvAll] at h
 |_,_::_,[],_,_,_,h=>by simp[PyData.eqvAll] at h
end
mutual
theorem xf:∀{n:Nat} {p:PyData} {v:Xd} {as:X7} {A:X_} {E:X0} {s:X4} {Q:Int->Shared->Prop},Reads s.heap v p as->nu n p=true->A.units+n<cLine->(∀d,Q (v7 p) {s with toks:=d})->wpAny (model prog w) A (pyHash v) Q E s
 |_,.int i,_,_,A,E,s,Q,.int _ t,_,_,q=>wpAny_pyHash_int (q _)
 | n+1,.tuple ps,_,_,A,E,s,Q,.tuple (a:=a) (o:=o) (vs:=vs) ho hc hd hi,hn,hu,q=>by
   have b:s.TypeIs (.ref a) "tuple":=#[o,ho,hc]
   unfold pyHash
   first|unfold pyHashByItsType|skip
   show Qaq<|wpAny_cRoomFor_or (.inr (!0))<|Qaq<|wpAny_specialOf b F.slot_tuple_hash.lookup ?_
   show wpAny _ _ (if (some (Value.builtin "tuple.__hash__")==some Value.none)=true then _ else _) Q E s
   rw[Quq (by rw[beq_builtin_none];show Qtq)]
   show Qaq<|wpAny_specialOf b F.slot_tuple_hash.lookup ?_
   show wpAny _ _ (callSpecialIfBoundUnlessNone? (.ref a) "__hash__" _ >>= _) Q E s
   show Qaq<|wpAny_callSpecialIfBoundUnlessNone?_slot b F.slot_tuple_hash<|wpAny_call_entry F.slot_tuple_hash b F.entry_tuple_hash ?_<|F.args_tuple_hash_1 _
   show wpAny _ _ (Builtin.Tuple.tupleItemsOf (.ref a) >>= _) _ _ s
   show Qaq<|wpAny_tupleItemsOf ho hd<|Qaq ?_
   rw[<-Array.forIn_toList]
   show sU (n:=n) (List.toArray []) hi hn (show A.in1.units+n<cLine from by have:A.in1.units=A.units+1:=rfl;omega) λd=>?_
   show wpAny _ _ (retInt<|Builtin.Tuple.tupleHashOf ((List.toArray [])++(sk ps).toArray).toList) _ _ _
   rw[show((List.toArray [])++(sk ps).toArray:Array Int).toList=sk ps by simp]
   show wpAny_ret_mkInt ?_
   let q:=q
   erw[v7] at q
   generalize Builtin.Tuple.tupleHashOf (sk ps)=z at q
   show wpAny _ _ (if (decide (-(2:Int)^63<=z)&&decide (z<2^63))=true then _ else _) Q E _
   unfold reduceHash at q
   by_cases c:(decide (-(2:Int)^63<=z)&&decide (z<2^63))=true
   · rw[Qhq c]
     rw[Qhq c] at q
     show Qgq<|q _
   · rw[Quq c]
     rw[Quq c] at q
     show Qaq<|wpAny_rule<|Qgq<|q _
 |_,.none,_,_,_,_,_,_,_,h,_,_=>by simp[nu] at h
 |_,.bool _,_,_,_,_,_,_,_,h,_,_=>by simp[nu] at h
 |_,.str _,_,_,_,_,_,_,_,h,_,_=>by simp[nu] at h
 |_,.list _,_,_,_,_,_,_,_,h,_,_=>by simp[nu] at h
 |_,.dict _,_,_,_,_,_,_,_,h,_,_=>by simp[nu] at h
 |0,.tuple _,_,_,_,_,_,_,_,h,_,_=>by simp[nu] at h
theorem sU:∀{n:Nat} {ps:List PyData} {vs:X5} {as:X7} {A:X_} {E:X0} {s:X4} {R:Array Int->Shared->Prop} (a:Array Int),ReadsAll s.heap vs ps as->mK n ps=true->A.units+n<cLine->(∀b,R (a++(sk ps).toArray) {s with toks:=b})->
  wpAny (model prog w) A (forIn vs a λx d=>do let h<-pyHash x;pure (ForInStep.yield<|d.push h)) R E s
 | _,[],_,_,A,E,s,R,a,.nil,_,_,q=>by
   rw[List.forIn_nil]
   have:=q s.toks
   simp[sk] at this
   show Qgq this
 | n,p::ps,_,_,A,E,s,R,a,.cons h d,hn,hu,q=>by
   erw[mK,QCq] at hn
   rw[List.forIn_cons]
   show Qaq<|Qaq (xf h hn.1 hu λb=>Qgq ?_)
   show sU (s:={s with toks:=b}) (a.push<|v7 p) d hn.2 hu λc=>?_
   have:=q c
   erw[sk] at this
   rw[show a.push (v7 p)++(sk ps).toArray=a++(v7 p::sk ps).toArray by apply Array.toList_inj.mp;simp]
   show this
end
mutual
theorem s_:∀{n:Nat} {p:PyData} {v:Xd} {as:X7} {A:X_} {E:X0} {s:X4} {Q:Xf} {m:Nat},Reads s.heap v p as->nu n p=true->n<=m->Q true s->wpAny (model prog w) A (eqIsQuiet m v) Q E s
 |_,.int i,_,_,A,E,s,Q,m,.int _ t,_,_,q=>by rw[eqIsQuiet_byValue m rfl];show Qgq q
 | n+1,.tuple ps,_,_,A,E,s,Q,m+1,.tuple (a:=a) (o:=o) (vs:=vs) ho hc hd hi,hn,hm,q=>by
   have b:s.TypeIs (.ref a) "tuple":=#[o,ho,hc]
   unfold eqIsQuiet
   show Qaq<|wpAny_specialOf b F.slot_tuple_eq.lookup ?_
   show wpAny _ _ (isInstance (.ref a) (.type "tuple") >>= _) _ _ s
   show Qaq<|wpAny_isInstance b isSubtype_tuple_tuple ?_
   erw[Bool.not_true,Bool.false_eq_true,if_false]
   show Qaq<|wpAny_seqItems ho hd<|Qaq ?_
   show wpAny _ _ (forIn vs _ _) _ _ s
   rw[<-Array.forIn_toList]
   show tf (n:=n) hi hn (!0)<|Qgq q
 |n+1,.tuple _,_,_,_,_,_,_,0,_,_,hm,_=>absurd hm (Nat.not_succ_le_zero n)
 |_,.none,_,_,_,_,_,_,_,_,h,_,_=>by simp[nu] at h
 |_,.bool _,_,_,_,_,_,_,_,_,h,_,_=>by simp[nu] at h
 |_,.str _,_,_,_,_,_,_,_,_,h,_,_=>by simp[nu] at h
 |_,.list _,_,_,_,_,_,_,_,_,h,_,_=>by simp[nu] at h
 |_,.dict _,_,_,_,_,_,_,_,_,h,_,_=>by simp[nu] at h
 |0,.tuple _,_,_,_,_,_,_,_,_,h,_,_=>by simp[nu] at h
theorem tf:∀{n:Nat} {ps:List PyData} {vs:X5} {as:X7} {A:X_} {E:X0} {s:X4} {R:Option Bool×Unit->Shared->Prop} {m:Nat},ReadsAll s.heap vs ps as->mK n ps=true->n<=m->R (none,()) s->
  wpAny (model prog w) A (forIn vs (none,()) λy (r:Option Bool×Unit)=>do let b<-eqIsQuiet m y;if (!b)=true then pure (ForInStep.done (some false,())) else pure (ForInStep.yield (none,()))) R E s
 |_,[],_,_,A,E,s,R,_,.nil,_,_,q=>by rw[List.forIn_nil];show Qgq q
 | n,p::ps,_,_,A,E,s,R,m,.cons h hs,hn,hm,q=>by
   erw[mK,QCq] at hn
   rw[List.forIn_cons]
   show Qaq<|Qaq<|s_ h hn.1 hm ?_
   erw[Bool.not_true,Bool.false_eq_true,if_false]
   show Qgq<|tf hs hn.2 hm q
end
mutual
theorem qt:∀{n:Nat} {p:PyData} {v:Xd} {as:X7} {A:X_} {E:X0} {s:X4} {Q:Xf} {m:Nat},Reads s.heap v p as->nu n p=true->n<=m->Q false s->wpAny (model prog w) A (ofAClassStatement m v) Q E s
 |_,.int i,_,_,A,E,s,Q,m,.int _ t,_,_,q=>by unfold ofAClassStatement;show Qgq q
 | n+1,.tuple ps,_,_,A,E,s,Q,m+1,.tuple (a:=a) (o:=o) (vs:=vs) ho hc hd hi,hn,hm,q=>by
   have b:s.TypeIs (.ref a) "tuple":=#[o,ho,hc]
   unfold ofAClassStatement
   show Qaq<|wpAny_typeOf b ?_
   dsimp only
   rw[Qhq (!1)]
   show Qaq<|Qgq ?_
   erw[Bool.not_true,Bool.false_eq_true,if_false]
   show Qaq<|wpAny_seqItems ho hd ?_
   dsimp only
   show Qaq ?_
   rw[<-Array.forIn_toList]
   show qA (n:=n) hi hn (!0)<|Qgq q
 |n+1,.tuple _,_,_,_,_,_,_,0,_,_,hm,_=>absurd hm (Nat.not_succ_le_zero n)
 |_,.none,_,_,_,_,_,_,_,_,h,_,_=>by simp[nu] at h
 |_,.bool _,_,_,_,_,_,_,_,_,h,_,_=>by simp[nu] at h
 |_,.str _,_,_,_,_,_,_,_,_,h,_,_=>by simp[nu] at h
 |_,.list _,_,_,_,_,_,_,_,_,h,_,_=>by simp[nu] at h
 |_,.dict _,_,_,_,_,_,_,_,_,h,_,_=>by simp[nu] at h
 |0,.tuple _,_,_,_,_,_,_,_,_,h,_,_=>by simp[nu] at h
theorem qA:∀{n:Nat} {ps:List PyData} {vs:X5} {as:X7} {A:X_} {E:X0} {s:X4} {R:Option Bool×Unit->Shared->Prop} {m:Nat},ReadsAll s.heap vs ps as->mK n ps=true->n<=m->R (none,()) s->
  wpAny (model prog w) A (forIn vs (none,()) λy (r:Option Bool×Unit)=>do let b<-ofAClassStatement m y;if b=true then pure (ForInStep.done (some true,())) else pure (ForInStep.yield (none,()))) R E s
 |_,[],_,_,A,E,s,R,_,.nil,_,_,q=>by rw[List.forIn_nil];show Qgq q
 | n,p::ps,_,_,A,E,s,R,m,.cons h hs,hn,hm,q=>by
   erw[mK,QCq] at hn
   rw[List.forIn_cons]
   show Qaq<|Qaq<|qt h hn.1 hm ?_
   erw[Bool.false_eq_true,if_false]
   show Qgq<|qA hs hn.2 hm q
end
mutual
theorem zu:∀{n:Nat} {p:PyData} {v:Xd} {as:X7} {A:X_} {E:X0} {s:X4} {Q:Xf} {m:Nat},Reads s.heap v p as->nu n p=true->n<=m->(∀b,Q b s)->wpAny (model prog w) A (hashByValue m v) Q E s
 |_,.int i,_,_,A,E,s,Q,m,.int _ t,_,_,q=>by unfold hashByValue;show Qgq (q _)
 | n+1,.tuple ps,_,_,A,E,s,Q,m+1,.tuple (a:=a) (o:=o) (vs:=vs) ho hc hd hi,hn,hm,q=>by
   have c:s.TypeIs (.ref a) "tuple":=#[o,ho,hc]
   unfold hashByValue
   show Qaq<|wpAny_specialOf c F.slot_tuple_hash.lookup ?_
   dsimp only
   show wpAny _ _ (seqItems? (.ref a) >>= _) _ _ s
   show Qaq<|wpAny_seqItems ho hd<|Qaq ?_
   show wpAny _ _ (forIn vs _ _) _ _ s
   rw[<-Array.forIn_toList]
   show uv (n:=n) hi hn (!0) (Qgq<|q _)<|Qgq<|q _
 |n+1,.tuple _,_,_,_,_,_,_,0,_,_,hm,_=>absurd hm (Nat.not_succ_le_zero n)
 |_,.none,_,_,_,_,_,_,_,_,h,_,_=>by simp[nu] at h
 |_,.bool _,_,_,_,_,_,_,_,_,h,_,_=>by simp[nu] at h
 |_,.str _,_,_,_,_,_,_,_,_,h,_,_=>by simp[nu] at h
 |_,.list _,_,_,_,_,_,_,_,_,h,_,_=>by simp[nu] at h
 |_,.dict _,_,_,_,_,_,_,_,_,h,_,_=>by simp[nu] at h
 |0,.tuple _,_,_,_,_,_,_,_,_,h,_,_=>by simp[nu] at h
theorem uv:∀{n:Nat} {ps:List PyData} {vs:X5} {as:X7} {A:X_} {E:X0} {s:X4} {R:Option Bool×Unit->Shared->Prop} {m:Nat},ReadsAll s.heap vs ps as->mK n ps=true->n<=m->R (none,()) s->R (some false,()) s->
  wpAny (model prog w) A (forIn vs (none,()) λy (r:Option Bool×Unit)=>do let b<-hashByValue m y;if (!b)=true then pure (ForInStep.done (some false,())) else pure (ForInStep.yield (none,()))) R E s
 |_,[],_,_,A,E,s,R,_,.nil,_,_,q,_=>by rw[List.forIn_nil];show Qgq q
 | n,p::ps,_,_,A,E,s,R,m,.cons h hs,hn,hm,q,q'=>by
   erw[mK,QCq] at hn
   rw[List.forIn_cons]
   show Qaq<|Qaq (zu h hn.1 hm λb=>?_)
   cases b with
   | true=>
     erw[Bool.not_true,Bool.false_eq_true,if_false]
     show Qgq<|uv hs hn.2 hm q q'
   | false=>
     erw[Bool.not_false,if_true]
     show Qgq<|Qgq q'
end
def Ja[Decidable c]{E:X0}(e:wpAny M A a Q E s)(d:wpAny M A b Q E s):wpAny M A (if c then a else b) Q E s:=by
 split
 ·show e
 ·show d
def LQ{E:X0}{s:X4}(f:Reads s.heap x p as)(e:nu 8 p=true):∀(l:X5) {Q:Xf},(∀y∈l,∃q bs,Reads s.heap y q bs/\nu 8 q=true)->Q false s->wpAny (model prog w) A (searchCouldBeSeen x l) Q E s:=by
 intro l Q hl q
 unfold searchCouldBeSeen
 show Qaq<|wpAny_forIn_list _ (λa (r:Option Bool×Unit) c=>r=(none,())/\c=s/\∀y∈a,∃q bs,Reads s.heap y q bs/\nu 8 q=true) _ ?_ ?_ _ _ #[rfl,rfl,hl]
 ·rintro y a r c ⟨rfl,rfl,hr⟩
  let#[i,bs,g,d]:=hr y (QBq ..)
  have b:∀y∈a,∃q bs,Reads c.heap y q bs/\nu 8 q=true:=λy h=>hr y (Qpq _ h)
  dsimp only
  show Ja (Qgq ⟨rfl,rfl,b⟩) ?_
  ·show Qaq (s_ f e (Qmq _) ?_)
   erw[Bool.not_true,Bool.false_eq_true,if_false]
   show Qaq<|s_ g d (Qmq _) ?_
   erw[Bool.not_true,Bool.false_eq_true,if_false]
   show Qaq<|qt f e (Qmq _) ?_
   erw[Bool.false_eq_true,if_false]
   show Qaq<|qt g d (Qmq _) ?_
   erw[Bool.false_eq_true,if_false]
   show Qgq ⟨rfl,rfl,b⟩
 ·rintro r c ⟨rfl,rfl,_⟩
  show Qgq q
def rM{xs:Array α}(d:p<=xs.size)(i:Nat):(insertAt xs p x)[i]?=if i<p then xs[i]? else if i=p then some x else xs[i-1]? :=by
 rw[<-Array.getElem?_toList,SetTable.toList_insertAt]
 have hl:(xs.toList.take p).length=p:=by rw[Qxq,Array.length_toList];omega
 by_cases c:i<p
 ·rw[Qhq c,QHq (!0),List.getElem?_take_of_lt c,Array.getElem?_toList]
 ·rw[Quq c,QQq (!0),hl]
  by_cases a:i=p
  ·subst a;simp
  ·obtain⟨k,b⟩:∃k,i-p=k+1:=#[i-p-1,by omega]
   rw[Quq a,b,List.getElem?_cons_succ,List.getElem?_drop,Array.getElem?_toList]
   congr 1
   omega
def TI.put(T:TI t es)(S:j∉t.place.toList)(Q:He t.mask h (·∈t.place.toList) j)(q:es.size+1<=t.mask):
  TI (t.put j).1 (insertAt es (t.put j).2 (h,x))/\(t.put j).1.mask=t.mask/\(insertAt es (t.put j).2 (h,x)).size=es.size+1:=by
 let#[B,R,M]:=uo t.place j T.rise
 have N:(t.put j).2=below t.place j:=rfl
 have g:(t.put j).1.place=insertAt t.place (below t.place j) j:=rfl
 have u:(t.put j).1.dummies= (List.toArray []):=by
  show(if has t.dummies j then _ else t.dummies)= (List.toArray [])
  rw[T.dm]
  simp[has,below,below.go]
 have m:(t.put j).1.mask=t.mask:=rfl
 rw[N]
 have w:below t.place j<=es.size:=by rw[<-T.sz];show B
 have k:∀{I:Type} (r:Array I) (p:Nat) (y:I),(insertAt r p y).size=r.size+1:=λr p y=>by
  have:=(SetTable.insertAt_perm r p y).length_eq
  simpa using this
 have f:∀i,i∈t.place.toList->i∈(t.put j).1.place.toList:=λi o=>by
  rw[g]
  show(SetTable.insertAt_perm t.place _ j).mem_iff.mpr ?_
  rw[Array.toList_push]
  show mQa.mpr<|.inl o
 show#[#[T.pw,u,?_,?_,?_,?_],m,k ..]
 ·rw[g,SetTable.toList_insertAt]
  have z:∀a∈t.place.toList.take (below t.place j),a<j:=λa n=>by
   let#[i,o,e]:=QbQ n
   rw[Qxq] at o
   rw[List.getElem_take] at e
   show R i a (by rw[<-Array.getElem?_toList,gQe (!0),e]) (!0)
  have v:∀a∈t.place.toList.drop (below t.place j),j<a:=λa n=>by
   let#[i,o,e]:=QbQ n
   rw[List.length_drop] at o
   rw[List.getElem_drop] at e
   have:=M (below t.place j+i) a (by rw[<-Array.getElem?_toList,gQe (!0),e]) (!0)
   rcases Nat.lt_or_eq_of_le this with c|c
   ·show c
   ·show absurd (c▸List.mem_of_mem_drop n) S
  let H:=T.rise
  rw[<-List.take_append_drop (below t.place j) t.place.toList] at H
  let#[P,K,J]:=List.pairwise_append.mp H
  show List.pairwise_append.mpr #[P,List.pairwise_cons.mpr #[v,K],λa n b s=>?_]
  rcases Qsq.mp s with rfl|s
  ·show z a n
  ·show J a n b s
 ·rw[g,k,k,T.sz]
 ·rw[k,m];show q
 ·intro i F C A l d
  rw[m]
  rw[g,rM B] at d
  rw[rM w] at l
  by_cases c:i<below t.place j
  ·rw[Qhq c] at l d
   show(T.rch i F C A l d).imp f
  ·rw[Quq c] at l d
   by_cases G:i=below t.place j
   ·rw[Qhq G] at l d
    cases l
    cases d
    show Q.imp f
   ·rw[Quq G] at l d
    show(T.rch _ F C A l d).imp f
def dj(a:X8)(c:List (PyData×Addr))(h:Xe):Prop:=∃o b d t,h.get? a=some o/\o.ExactSet/\o.data=.set b d t/\TI t b/\b.size*5<t.mask*3/\b.toList.Perm (c.map λe=>(v7 e.1,.ref e.2))
def dj.keep{h h':Xe}(x:dj a b h)(k:∀o,h.get? a=some o->h'.get? a=some o):dj a b h':=by
 let#[o,f,c,t,e,d]:=x
 show#[o,f,c,t,k o e,d]
def J0(h:Xe)(a:List (PyData×Addr)):Prop:=∀e∈a,nu 8 e.1=true/\∃b,Reads h (.ref e.2) e.1 b
mutual
theorem nM:∀{n:Nat} {p:PyData},nu n p=true->p.canLay0=true/\p.depth<=n+1
 |_,.int _,_=>#[rfl,by simp[PyData.depth]]
 | n+1,.tuple ps,h=>by
   let#[a,b]:=BW (n:=n) (ps:=ps) h
   show#[a,by erw[PyData.depth];omega]
 |_,.none,h=>by simp[nu] at h
 |_,.bool _,h=>by simp[nu] at h
 |_,.str _,h=>by simp[nu] at h
 |_,.list _,h=>by simp[nu] at h
 |_,.dict _,h=>by simp[nu] at h
 |0,.tuple _,h=>by simp[nu] at h
theorem BW:∀{n:Nat} {ps:List PyData},mK n ps=true->PyData.canLayAll0 ps=true/\PyData.depthAll ps<=n+1
 |_,[],_=>#[rfl,by simp[PyData.depthAll]]
 | n,p::ps,h=>by
   erw[mK,QCq] at h
   let#[a,c]:=nM h.1
   let#[b,d]:=BW h.2
   show#[by erw[PyData.canLayAll0,QCq];show#[a,b],by erw[PyData.depthAll];omega]
end
def vH{A:X_}{E:X0}{s:X4}{c:List (PyData×Addr)}{Q:SetFound->Shared->Prop}(hu:A.units+16<cLine)(ho:s.heap.get? a=some o)(hd:o.data=.set es U t)(T:TI t es)(M:es.toList.Perm (c.map λe=>(v7 e.1,.ref e.2)))(he:J0 s.heap c)(hl:c.length<=5000)
  (Y:Reads s.heap (.ref b) p as) (S:nu 8 p=true) (q1:(c.any λe=>PyData.eqv e.1 p)=true->∀f:Option Nat,(adding=false->f.isSome=true)->Q (.there f) s) (q2:(c.any λe=>PyData.eqv e.1 p)=false->∀j,j∉t.place.toList->He t.mask (v7 p) (·∈t.place.toList) j->Q (.free j false) s):
  wpAny (model prog w) A (setSearch a (.ref b) (v7 p) adding) Q E s:=by
 have a0:es.size=c.length:=by have:=M.length_eq;simpa using this
 let#[lp,dp]:=nM S
 let#[N,P,W]:=T.free (v7 p)
 have d:∀{i:Nat} {h:Int} {v:Xd},es[i]?=some (h,v)->∃e∈c,h=v7 e.1/\v=.ref e.2:=λ{i h v} k=>by
  have m:(h,v)∈es.toList:=by have:=Array.mem_of_getElem? k;simpa using this
  let#[e,he,l]:=Qkq.mp (M.mem_iff.mp m)
  cases l
  show#[e,he,rfl,rfl]
 have x:∀{e:PyData×Addr},e∈c->∃i:Nat,es[i]?=some (v7 e.1,.ref e.2):=λ{e} he=>by
  let m:=M.mem_iff.mpr (Qkq.mpr #[e,he,rfl])
  let#[i,k,l]:=QbQ m
  show#[i,by rw[<-Array.getElem?_toList,gQe k,l]]
 let same:Nat->Bool:=λi=> @decide (∃e∈c,es[i]?=some (v7 e.1,.ref e.2)/\PyData.eqv e.1 p=true) (Classical.propDecidable _)
 have g:∀{i:Nat} {h:Int} {e:PyData×Addr},e∈c->es[i]?=some (h,.ref e.2)->same i=PyData.eqv e.1 p:=λ{i h e} n k=>by
  cases l:PyData.eqv e.1 p with
  | true=>
    let#[G,C,F,r]:=d k
    show @Qeq _ (Classical.propDecidable _) #[e,n,?_,l]
    rw[k,F]
    congr 2
    let#[u,q,B]:=he e n
    let#[n2,K,H]:=he G C
    have r:e.2=G.2:=by injection r
    rw[<-r] at H
    rw[SeqAt.Reads.unique _ _ _ _ _ (nM u).1 B H]
  | false=>
    show @Qdq _ (Classical.propDecidable _) ?_
    rintro⟨G,C,F,r⟩
    rw[k] at F
    have h3:Value.ref e.2=Value.ref G.2:=by injection F with F;injection F
    let#[u,q,B]:=he e n
    let#[n2,K,H]:=he G C
    rw[<-h3] at H
    rw[SeqAt.Reads.unique _ _ _ _ _ (nM u).1 B H] at l
    rw[l] at r
    cases r
 unfold setSearch
 show x9 T (λi h v k=>by let#[e,_,_,rfl]:=d k;show#[_,rfl]) ho hd (same:=same) P W (λQ' I=>?_) (λi v k Q' I=>?_) (λR f hf=>?_) (λJ j hj hr=>?_) 100000 0 0 none rfl (Nat.zero_le _) (!0) (!0) uB.zero
 ·show LQ Y S _ (λy hy=>?_) I
  let#[z,l,rfl]:=Qkq.mp hy
  have l:z∈es.toList:=by
   rw[Array.toList_filter] at l
   show(List.mem_filter.mp l).1
  let#[i,k,X]:=QbQ l
  let#[e,n,_,r]:=d (i:=i) (h:=z.1) (v:=z.2) (by rw[<-Array.getElem?_toList,gQe k,X])
  let#[u,q,B]:=he e n
  rw[r]
  show#[e.1,q,B,u]
 ·let#[e,n,_,rfl]:=d k
  let#[u,q,B]:=he e n
  rw[g n k] at I
  show SeqAt.eqBoolOverData _ _ _ _ _ _ _ _ _ _ _ _ B Y (nM u).1 lp (by have:=(nM u).2;omega) I
 ·show q1 ?_ f hf
  let#[i,v,k,Z]:=R
  let#[e,n,_,rfl]:=d k
  rw[g n k] at Z
  show List.any_eq_true.mpr #[e,n,Z]
 ·show q2 ?_ j hj hr
  rw[List.any_eq_false]
  intro e n l
  let U:=Ef (he e n).1 S l
  let#[i,k]:=x n
  have:=J i _ (by rw[<-U];show k)
  rw[g n k] at this
  rw[l] at this
  cases this
def zk{A:X_}{E:X0}{s:X4}{Q:Xf}(x:A.units+16<cLine)(z:dj a c s.heap)(he:J0 s.heap c)(hl:c.length<=5000)(l:Reads s.heap (.ref b) p as)(m:nu 8 p=true)(q:∀d,Q (c.any λe=>PyData.eqv e.1 p) {s with toks:=d}):
  wpAny (model prog w) A (setContains a<|.ref b) Q E s:=by
 let#[o,v,F,t,k,C,h,T,n,u]:=z
 unfold setContains
 show QLq<|Qaq (xf l m (!0) λd=>Qaq ?_)
 unfold setFind setFindIn
 show Qaq<|wpAny_setState_of (s:={s with toks:=d}) k h T.fits ?_
 dsimp only
 have r:byScan (Value.ref b) v=false:=by unfold byScan Value.scannable;simp
 rw[r]
 erw[Bool.false_eq_true,if_false]
 show Qaq (vH (s:={s with toks:=d}) x k h T u he hl l m (λf y g=>?_) λf j G B=>?_)
 ·cases y with
  |none=>show absurd (g rfl) (!1)
  | some i=>
    show Qgq<|Qgq ?_
    have:=q d
    rw[f] at this
    show this
 ·show Qgq (Qgq ?_)
  have:=q d
  rw[f] at this
  show this
def Kd{A:X_}{E:X0}{s:X4}{Q:Xf}(hu:A.units+16<cLine)(Z:dj a c s.heap)(he:J0 s.heap c)(hl:c.length<=5000)(R:Reads s.heap (.ref b) p as)(S:nu 8 p=true)
  (q:∀h f h',Heap.SameBut a s.heap h'->dj a (if (c.any λe=>PyData.eqv e.1 p)=true then c else c++ [(p,b)]) h'->Q f {s with heap:=h',toks:=h}):
  wpAny (model prog w) A (setAdd a<|.ref b) Q E s:=by
 let I:=Z
 let#[o,es,n,t,z,hx,r,T,a0,K]:=Z
 have a4:es.size=c.length:=by have:=K.length_eq;simpa using this
 unfold setAdd
 show QLq<|Qaq (xf R S (!0) λh=>?_)
 unfold setAddHashed setAddHashedIn
 show QLq<|Qaq<|wpAny_setState_of (s:={s with toks:=h}) z r T.fits ?_
 dsimp only
 have hb:byScan (Value.ref b) es=false:=by unfold byScan Value.scannable;simp
 rw[hb]
 erw[Bool.false_eq_true,if_false]
 show Qaq (vH (s:={s with toks:=h}) (adding:=true) hu z r T K he hl R S (λJ o' _=>?_) λJ j hj hr=>?_)
 ·show Qgq ?_
  have:=q h false s.heap (Heap.SameBut.refl a s.heap)
  rw[J,Qhq rfl] at this
  show this I
 ·dsimp only
  show Qaq<|wpAny_setState_of (s:={s with toks:=h}) z r T.fits ?_
  dsimp only
  rw[J,Quq (!1)] at q
  let#[k,a2,a1]:=T.pw
  let#[l,Y,H]:=T.put (x:=Value.ref b) hj hr (!0)
  have M:(insertAt es (t.put j).2 (v7 p,Value.ref b)).toList.Perm ((c++ [(p,b)]).map λe=>(v7 e.1,Value.ref e.2)):=by
   show(SetTable.insertAt_perm es _ _).trans ?_
   rw[Array.toList_push,Qzq]
   show K.append_right _
  generalize (insertAt es (t.put j).2 (v7 p,Value.ref b))=es1 at l H M|-
  generalize (t.put j).1=t1 at l Y|-
  have i:∀(d:SetTable),TI d es1->d.mask=t1.mask->wpAny (model prog w) A (do
    storeSet a es1 d
    if (!false&&d.tooFull)=true then do
     setRelay a (SetTable.grown (es.size+1))
     pure true
    else pure true) Q E {s with toks:=h}:=by
   intro d F m2
   show Qaq<|wpAny_storeSet_of (s:={s with toks:=h}) z r ?_ (by rw[H,sizeLine_eq];omega)
   have C:(s.heap.update a<|Obj.putSet es1 d).get? a=some {o with data:=.set es1 (n+1) d}:=by
    have:=Heap.get?_update_self (Obj.putSet es1 d) z (by rw[putSet_of es1 d r];rfl)
    rw[putSet_of es1 d r] at this
    show this
   have v:({o with data:=.set es1 (n+1) d}:Obj).ExactSet:=hx
   have B:Heap.SameBut a s.heap (s.heap.update a<|Obj.putSet es1 d):=Heap.SameBut.update _ a _
   have a5:t1.mask=t.mask:=Y
   cases hf:(!false&&d.tooFull) with
   | true=>
     rw[Qhq rfl]
     have P:SetTable.grown (es.size+1)=(es.size+1)*4:=by unfold SetTable.grown;rw[Quq (!0)]
     have u:(es.size+1)*4<2^64:=by omega
     let#[_,a3,a6]:=r8 u
     show Qaq ?_
     rw[P]
     unfold setRelay
     show Qaq<|wpAny_setState_of (s:={s with toks:=h,heap:=s.heap.update a (Obj.putSet es1 d)}) C rfl F.fits ?_
     dsimp only
     rw[Quq (by rw[sizeLine_eq];omega)]
     let#[m,g,e1,e2,U,e4,W]:=yg (t:=d) (es:=es1) (wanted:=(es.size+1)*4) (!0) u
     show Qaq ?_
     rw[e1]
     have y:((g.filterMap (es1[·]?)).size !=es1.size)=false:=by rw[U];simp
     show(?_:wpAny (model prog w) A (do
       if ((g.filterMap (es1[·]?)).size !=es1.size)=true then unsupported "internal:set-table-lost-an-element"
       pure (g.filterMap (es1[·]?),m)) _ E _)
     rw[y]
     erw[Bool.false_eq_true,if_false]
     show Qgq ?_
     generalize (g.filterMap (es1[·]?))=es3 at U e4 W
     dsimp only
     show wpAny_storeSet_of (s:={s with toks:=h,heap:=s.heap.update a (Obj.putSet es1 d)}) C rfl ?_ (by rw[U,H,sizeLine_eq];omega)
     have G:((s.heap.update a<|Obj.putSet es1 d).update a (Obj.putSet es3 m)).get? a=some {o with data:=.set es3 (n+1+1) m}:=by
       have:=Heap.get?_update_self (Obj.putSet es3 m) C (by rw[putSet_of (o:={o with data:=.set es1 (n+1) d}) es3 m rfl];rfl)
       rw[putSet_of (o:={o with data:=.set es1 (n+1) d}) es3 m rfl] at this
       show this
     show Qgq<|q h true _ (B.trans<|Heap.SameBut.update _ a _) #[_,es3,n+1+1,m,G,v,rfl,W,by omega,e4.trans M]
   | false=>
     rw[Quq (!1)]
     show Qgq<|q h true _ B #[_,es1,n+1,d,C,v,rfl,F,?_,M]
     have:d.tooFull=false:=by simpa using hf
     unfold SetTable.tooFull SetTable.fill at this
     rw[F.dm] at this
     let h5:=F.sz
     simp at this
     omega
  have N:∀X:Bool,TI {t1 with plain:=X} es1:=λX=>#[l.pw,l.dm,l.rise,l.sz,l.room,l.rch]
  show Ja ?_ ?_
  ·show Qaq (zu (s:={s with toks:=h}) R S (Qmq _) λbv=>?_)
   cases bv with
   |true=>show i t1 l rfl
   |false=>show i _ (N false) rfl
  ·show Qaq<|Qgq<|i t1 l rfl
def dj.typeIs{s:X4}(x:dj a c s.heap):s.TypeIs (.ref a) "set":=by
 let#[o,g,f,t,e,d,_]:=x
 show#[o,e,d.1]
def dj.noDict{s:X4}(x:dj a c s.heap):∀b,Value.ref a=.ref b->∃d,s.heap.get? b=some d/\d.dict=none:=λb e=>by
 let#[o,i,h,t,g,f,_]:=x
 cases e
 show#[o,g,f.2.1]
def J8{A:X_}{E:X0}{s:X4}{Q:Xf}(i:A.units+32<cLine)(d:dj a c s.heap)(he:J0 s.heap c)(hl:c.length<=5000)(g:Reads s.heap (.ref b) p as)(h:nu 8 p=true)(q:∀f,Q (c.any λe=>PyData.eqv e.1 p) {s with toks:=f}):
  wpAny (model prog w) A (contains (.ref a)<|.ref b) Q E s:=by
 unfold contains
 try with_reducible show QLq ?_
 show Qaq<|wpAny_specialOf d.typeIs F.slot_set_contains.lookup ?_
 show wpAny _ _ (if (some (Value.builtin "set.__contains__")==some Value.none)=true then _ else _) _ E s
 rw[Quq (by rw[beq_builtin_none];show Qtq)]
 show Qaq<|wpAny_callSpecialUnlessNone?_slot (name:=Str.ofString "__contains__") d.typeIs F.slot_set_contains<|wpAny_call_entry F.slot_set_contains d.typeIs entry_set_contains ?_<|F.args_set_contains_2 _ _
 unfold Builtin.«frozenset.__contains__» Builtin.Frozenset.oneOther
 erw[List.isEmpty_nil,bind_assoc]
 unfold Builtin.Frozenset.addrOf Builtin.Frozenset.withSetAsKey
 show Qaq<|Qgq ?_
 try dsimp only
 show Qaq<|Qgq ?_
 try dsimp only
 show Qaq<|wpAny_tryCatch (zk (show A.in1.units+16<cLine from by have:A.in1.units=A.units+1:=rfl;omega) d he hl g h λf=>?_)
 show wpAny _ _ (ret<|Value.bool _) _ _ _
 show Qgq #[_,rfl,wpAny_truthy_bool<|q f]
def Ee{A:X_}{E:X0}{s:X4}{Q:X0}(g:A.units+32<cLine)(f:dj a c s.heap)(he:J0 s.heap c)(hl:c.length<=5000)(h:Reads s.heap (.ref b) p as)(i:nu 8 p=true)(q:∀d,Q (.bool (!c.any λe=>PyData.eqv e.1 p)) {s with toks:=d}):
  wpAny (model prog w) A (compareOp .NotIn (.ref b)<|.ref a) Q E s:=by
 show wpAny _ _ (do return .bool (!(<-contains (.ref a) (.ref b)))) Q E s
 show Qaq (J8 g f he hl h i λd=>Qgq<|q d)
def GX{A:X_}{E:X0}{s:X4}{Q:X0}(l:A.units+32<cLine)(h:dj a c s.heap)(he:J0 s.heap c)(hl:c.length<=5000)(i:Reads s.heap (.ref b) p as)(k:nu 8 p=true)
  (q:∀d h',Heap.SameBut a s.heap h'->dj a (if (c.any λe=>PyData.eqv e.1 p)=true then c else c++ [(p,b)]) h'->Q .none {s with heap:=h',toks:=d}):
  wpAny (model prog w) A (call (.builtin "set.add") [.ref a,.ref b]) Q E s:=by
 show wpAny_call_entry F.slot_set_add h.typeIs F.entry_set_add ?_<|F.args_set_add_2 _ _
 unfold Builtin.«set.add» Builtin.Frozenset.oneOther
 erw[List.isEmpty_nil,bind_assoc]
 unfold Builtin.Frozenset.addrOf
 show Qaq<|Qgq ?_
 try dsimp only
 show Qaq<|Qgq ?_
 try dsimp only
 show Qaq (Kd (show A.in1.units+16<cLine from by have:A.in1.units=A.units+1:=rfl;omega) h he hl i k λd f h' j g=>?_)
 show wpAny _ _ (ret Value.none) _ _ _
 show Qgq #[_,rfl,q d h' j g]
def Ij{E:X0}{s:X4}{Q:X0}(q:∀h':Heap,(∀b o,s.heap.get? b=some o->h'.get? b=some o)->dj s.heap.objs.size [] h'->Q (.ref s.heap.objs.size) {s with heap:=h'}):wpAny (model prog w) A (call (.type "set") []) Q E s:=by
 show call_set_0 λd=>?_
 show q _ (λb o e=>Qcq _ e) #[_,(List.toArray []),0,.fresh 0 0 d,Qrq _ rfl,#[rfl,rfl,rfl],rfl,#[#[3,rfl,by decide],rfl,by simp[SetTable.fresh],rfl,Nat.zero_le _,λi h v j e=>by simp at e],by show 0<7*3;decide,by simp]
end ST
namespace DL
open PyProof.Rows L2
inductive D where
 |non|bl (b:Bool)|int (i:Int)|str (x:Str)|tup (xs:List D)|ref (k:Nat)|fn (x:Str)
inductive O where
 |lst (xs:List D)|frz (xs:List D)|dct (kvs:List (Key×D))|sett (xs:List D)
abbrev aE:=List O
mutual
noncomputable def fS:D->Option PyData
 |.int i=>some (.int i)
 |.tup a=>(eh a).map .tuple
 |_=>none
noncomputable def eh:List D->Option (List PyData)
 | []=>some []
 |d::ds=>(fS d).bind λp=>(eh ds).map (p::·)
end
abbrev cv:=List (Option D)
structure Md where
 K:PySem.W.Frag
 mg:Str->Option Value
mutual
inductive Rel(M:Md)(ρ:X7)(H:Hp):D->V->Prop
 |non:Rel M ρ H .non .non
 |bl (b:Bool):Rel M ρ H (.bl b) (.bl b)
 |int (i:Int):Rel M ρ H (.int i) (.int i)
 |str (x:Str):Rel M ρ H (.str x) (.str x)
 |tup {a:X8} {vs:List V} {ds:List D}:H a=some (.tup vs)->bj M ρ H ds vs->Rel M ρ H (.tup ds) (.ref a)
 |ref {k:Nat} {a:X8}:ρ[k]?=some a->Rel M ρ H (.ref k) (.ref a)
 |fn {x:Str} {a:X8}:M.mg x=some (.ref a)->Rel M ρ H (.fn x) (.ref a)
inductive bj(M:Md)(ρ:X7)(H:Hp):List D->List V->Prop
 |nil:bj M ρ H [] []
 |cons {d:D} {v:V} {ds:List D} {vs:List V}:Rel M ρ H d v->bj M ρ H ds vs->bj M ρ H (d::ds) (v::vs)
end
def Pj:HO->Prop
 |.tup _=>True
 |.frz _ _=>True
 |_=>False
structure bX(ρ:X7)(H:Hp)(g:X7)(s:Hp):Prop where
 pre:ρ <+: g
 new:∀a∈g,a∈ρ\/H a=none
 keep:∀a o,H a=some o->a∉ρ\/Pj o->s a=some o
 grow:∀a,s a=none->H a=none
def bX.refl:bX ρ H ρ H:=#[List.prefix_refl _,λ_ h=>.inl h,λ_ _ h _=>h,λ_ h=>h]
def bX.trans{H1 H2:Hp}(e:bX ρ H b H1)(f:bX b H1 d H2):bX ρ H d H2 where
 pre:=e.pre.trans f.pre
 new:=λa h=>(f.new a h).elim (λh=>e.new a h) λh=>.inr (e.grow a h)
 keep:=λa o h c=>f.keep a o (e.keep a o h c) (c.imp (λn m=>(e.new a m).elim n λz=>by rw[z] at h;cases h) id)
 grow:=λa h=>e.grow a (f.grow a h)
def bX.laid{H:Hp}(h:H a=none):bX ρ H ρ (upd H a o) where
 pre:=List.prefix_refl _
 new:=λ_ h=>.inl h
 keep:=λb c e _=>by rw[bc];show e;intro z;subst z;rw[h] at e;cases e
 grow:=λb e=>by
  by_cases z:b=a
  ·subst z;show h
  ·rw[bc z] at e;show e
theorem iu:∀{l:List α},l.Nodup->∀{i j:Nat} {a:α},l[i]?=some a->l[j]?=some a->i=j
 | [],_,_,_,_,h,_=>by simp at h
 |x::l,n,0,0,_,_,_=>rfl
 | x::l,n,0,j+1,a,h1,h2=>by
   rw[List.nodup_cons] at n
   simp at h1 h2
   subst h1
   show absurd (mQg h2) n.1
 | x::l,n,i+1,0,a,h1,h2=>by
   rw[List.nodup_cons] at n
   simp at h1 h2
   subst h2
   show absurd (mQg h1) n.1
 | x::l,n,i+1,j+1,a,h1,h2=>by
   rw[List.nodup_cons] at n
   simp at h1 h2
   show congrArg (·+1)<|iu n.2 h1 h2
def cq(h:some (a,b)=some (c,d)):a=c/\b=d:=by cases h;show#[L,L]
def cK{α:Type}{l b:List α}(h:l <+: b){k:Nat}{a:α}(e:l[k]?=some a):b[k]?=some a:=by
 let#[t,rfl]:=h
 rw[QHq (gQs.mp e).1]
 show e
mutual
theorem Rel.ext(e:bX ρ H g s):∀{d:D} {v:V},Rel M ρ H d v->Rel M g s d v
 |_,_,.non=>.non
 |_,_,.bl b=>.bl b
 |_,_,.int i=>.int i
 |_,_,.str x=>.str x
 |_,_,.tup h hs=>.tup (e.keep _ _ h<|.inr trivial) (bj.ext e hs)
 |_,_,.ref h=>.ref (cK e.pre h)
 |_,_,.fn h=>.fn h
theorem bj.ext(e:bX ρ H g s):∀{ds:List D} {vs:List V},bj M ρ H ds vs->bj M g s ds vs
 |_,_,.nil=>.nil
 |_,_,.cons h hs=>.cons (Rel.ext e h) (bj.ext e hs)
end
mutual
theorem Rel.pre(e:ρ <+: g):∀{d:D} {v:V},Rel M ρ H d v->Rel M g H d v
 |_,_,.non=>.non
 |_,_,.bl b=>.bl b
 |_,_,.int i=>.int i
 |_,_,.str x=>.str x
 |_,_,.tup h hs=>.tup h (bj.pre e hs)
 |_,_,.ref h=>.ref (cK e h)
 |_,_,.fn h=>.fn h
theorem bj.pre(e:ρ <+: g):∀{ds:List D} {vs:List V},bj M ρ H ds vs->bj M g H ds vs
 |_,_,.nil=>.nil
 |_,_,.cons h hs=>.cons (Rel.pre e h) (bj.pre e hs)
end
theorem bj.length:∀{ds:List D} {vs:List V},bj M ρ H ds vs->ds.length=vs.length
 |_,_,.nil=>rfl
 |_,_,.cons _ h=>congrArg (·+1) h.length
theorem bj.append:∀{ds es:List D} {vs ws:List V},bj M ρ H ds vs->bj M ρ H es ws->bj M ρ H (ds++es) (vs++ws)
 |_,_,_,_,.nil,h=>h
 |_,_,_,_,.cons h hs,h'=>.cons h (hs.append h')
theorem bj.get:∀{ds:List D} {vs:List V} {i:Nat} {d:D},bj M ρ H ds vs->ds[i]?=some d->∃v,vs[i]?=some v/\Rel M ρ H d v
 |_,_,0,_,.cons h _,e=>by cases e;show#[_,L,h]
 |_,_,i+1,_,.cons _ hs,e=>hs.get (i:=i) (by simpa using e)
 |_,_,_,_,.nil,e=>by simp at e
theorem bj.set(h:Rel M ρ H d v):∀{ds:List D} {vs:List V} (i:Nat),bj M ρ H ds vs->bj M ρ H (ds.set i d) (vs.set i v)
 |_,_,_,.nil=>.nil
 |_,_,0,.cons _ t=>.cons h t
 |_,_,i+1,.cons q t=>.cons q (bj.set h i t)
theorem bj.take:∀{ds:List D} {vs:List V} (n:Nat),bj M ρ H ds vs->bj M ρ H (ds.take n) (vs.take n)
 |_,_,0,_=>.nil
 |_,_,_+1,.nil=>.nil
 |_,_,n+1,.cons h hs=>.cons h (hs.take n)
theorem bj.drop:∀{ds:List D} {vs:List V} (n:Nat),bj M ρ H ds vs->bj M ρ H (ds.drop n) (vs.drop n)
 |_,_,0,h=>h
 |_,_,_+1,.nil=>.nil
 |_,_,n+1,.cons _ hs=>hs.drop n
theorem bj.rep(h:bj M ρ H ds vs):∀k:Nat,bj M ρ H (List.replicate k ds).flatten (List.replicate k vs).flatten
 |0=>.nil
 |k+1=>by rw[QNq,QNq,List.flatten_cons,List.flatten_cons];show h.append (h.rep k)
def cf(M:Md)(ρ:X7)(H:Hp):List (Key×D)->List (Key×V)->Prop
 | [],kv=>kv= []
 |(k,d)::r,kv=>∃v t,kv=(k,v)::t/\Rel M ρ H d v/\cf M ρ H r t
theorem cf.imp(f:∀d v,Rel M ρ H d v->Rel M g s d v):∀{l:List (Key×D)} {kv:List (Key×V)},cf M ρ H l kv->cf M g s l kv
 | [],_,h=>h
 |(_,_)::_,_,#[v,t,e,h,hs]=>#[v,t,e,f _ _ h,cf.imp f hs]
theorem cf.length:∀{l:List (Key×D)} {kv:List (Key×V)},cf M ρ H l kv->l.length=kv.length
 | [],_,h=>by cases h;rfl
 |(_,_)::_,_,#[v,t,e,h,hs]=>by subst e;show congrArg (·+1) hs.length
def oF(M:Md)(ρ:X7)(H:Hp)(a:X8):O->Prop
 |.lst b=>∃c,H a=some (.lst c)/\bj M ρ H b c
 |.frz b=>∃c o,H a=some (.frz o (.lst c))/\bj M ρ H b c
 |.dct d=>∃f,H a=some (.dK f)/\cf M ρ H d f
 |.sett b=>∃(h:X7) (e:List PyData),H a=some (.ext (ST.dj a<|List.zip e h))/\bj M ρ H b (h.map V.ref)/\eh b=some e/\ST.mK 8 e=true
structure fR(M:Md)(ρ:X7)(S:aE)(H:Hp):Prop where
 len:ρ.length=S.length
 nd:ρ.Nodup
 obj:∀(k:Nat) (a:X8) (o:O),ρ[k]?=some a->S[k]?=some o->oF M ρ H a o
def oF.lay(h:oF M ρ H a o)(j:H b=none):oF M ρ (upd H b u) a o:=by
 have e:bX ρ H ρ (upd H b u):=bX.laid j
 have f:∀{x},H a=some x->upd H b u a=some x:=λ{x} h=>by rw[bc];show h;intro z;subst z;rw[j] at h;cases h
 cases o with
 |lst k=>let#[i,d,c]:=h;show#[i,f d,c.ext e]
 |frz k=>let#[i,o,d,c]:=h;show#[i,o,f d,c.ext e]
 |dct l=>let#[q,d,c]:=h;show#[q,f d,c.imp λ_ _ r=>r.ext e]
 |sett k=>let#[m,n,d,c,p]:=h;show#[m,n,f d,c.ext e,p]
def fR.lay(h:fR M ρ S H)(e:H b=none):fR M ρ S (upd H b u):=#[h.len,h.nd,λk a o d c=>(h.obj k a o d c).lay e]
theorem oF.pre(e:ρ <+: g)(h:oF M ρ H a o):oF M g H a o:=by
 cases o with
 |lst f=>let#[d,c,b]:=h;show#[d,c,b.pre e]
 |frz f=>let#[d,o,c,b]:=h;show#[d,o,c,b.pre e]
 |dct i=>let#[j,c,b]:=h;show#[j,c,b.imp λ_ _ r=>r.pre e]
 |sett f=>let#[m,k,c,b,l]:=h;show#[m,k,c,b.pre e,l]
def fR.box(h:fR M ρ S H)(m:a∉ρ)(i:oF M (ρ++ [a]) H a o):fR M (ρ++ [a]) (S++ [o]) H where
 len:=by rw[lQa,lQa,h.len];rfl
 nd:=by rw[List.nodup_append];show#[h.nd,by simp,λx l y f=>by rw[Qfq] at f;subst f;show λz=>m (z▸l)]
 obj:=λk b u d e=>by
  by_cases c:k<ρ.length
  ·rw[QHq c] at d
   rw[QHq (h.len▸c)] at e
   show(h.obj k b u d e).pre (List.prefix_append _ _)
  ·have c:ρ.length<=k:=Nat.le_of_not_lt c
   rw[QQq c] at d
   rw[QQq (h.len▸c)] at e
   have z:k-ρ.length=0:=by
    have:=(gQs.mp d).1
    simp at this
    omega
   have j:k-S.length=0:=by rw[<-h.len];show z
   rw[z] at d
   rw[j] at e
   cases d
   cases e
   show i
def fR.put(h:fR M ρ S H)(t:ρ[k]?=some a)(P:S[k]?=some o)(Q:oF M ρ (upd H a u) a o')(J:∀x,H a=some x->¬Pj x):fR M ρ (S.set k o') (upd H a u)/\bX ρ H ρ (upd H a u):=by
 have N:a∈ρ:=mQg t
 have e:bX ρ H ρ (upd H a u):=by
  show#[List.prefix_refl _,λ_ h=>.inl h,λb x A c=>?_,λb m=>?_]
  ·rw[bc]
   ·show A
   ·intro z
    subst z
    show c.elim (λn=>n N) λU=>J _ A U
  ·by_cases z:b=a
   ·subst z;rw[bz] at m;cases m
   ·rw[bc z] at m;show m
 show#[#[by rw[List.length_set];show h.len,h.nd,λj b p i l=>?_],e]
 by_cases c:j=k
 ·subst c
  rw[t] at i
  cases i
  rw[Qyq (gQs.mp P).1] at l
  cases l
  show Q
 ·rw[QKq (Ne.symm c)] at l
  have v:b≠a:=by
   intro z
   subst z
   let B:=(gQs.mp i)
   let C:=(gQs.mp t)
   let#[B,X]:=B
   let#[C,W]:=C
   show c<|iu h.nd i t
  let q:=h.obj j b p i l
  cases p with
  |lst y=>let#[w,d,f]:=q;show#[w,by rw[bc v];show d,f.ext e]
  |frz y=>let#[w,o,d,f]:=q;show#[w,o,by rw[bc v];show d,f.ext e]
  |dct F=>let#[R,d,f]:=q;show#[R,by rw[bc v];show d,f.imp λ_ _ r=>r.ext e]
  |sett y=>let#[G,I,d,f,K]:=q;show#[G,I,by rw[bc v];show d,f.ext e,K]
structure En(M:Md)(ρ:X7)(H:Hp)(Γ:cv)(σ:L2.St):Prop where
 len:σ.length=Γ.length
 get:∀(i:Nat) (d:D),Γ[i]?=some (some d)->∃v,σ[i]?=some (some v)/\Rel M ρ H d v
def En.ext(h:En M ρ H c f)(e:bX ρ H a b):En M a b c f:=#[h.len,λi d q=>by let#[v,j,g]:=h.get i d q;show#[v,j,g.ext e]]
def En.set(h:En M ρ H a b)(r:Rel M ρ H d v):En M ρ H (a.set i<|some d) (b.set i<|some v) where
 len:=by rw[List.length_set,List.length_set];show h.len
 get:=λj e q=>by
  by_cases c:i=j
  ·subst c
   have l:i<a.length:=by
    have:=(gQs.mp q).1
    rwa [List.length_set] at this
   rw[Qyq l] at q
   cases q
   show#[v,Qyq (h.len▸l),r]
  ·rw[QKq c] at q|-
   show h.get j e q
structure Ok(M:Md)(ρ:X7)(Γ:cv)(S:aE)(σ:L2.St)(H:Hp):Prop where
 en:En M ρ H Γ σ
 st:fR M ρ S H
def Ok.to(h:Ok M ρ d S f H)(e:bX ρ H a b)(s:fR M a c b):Ok M a d c f b:=#[h.en.ext e,s]
abbrev bp:=cv->aE->Option (D×aE)
abbrev fT:=cv->aE->Option (List D×aE)
abbrev iE:=cv->aE->Option (Bool×aE)
def tD(M:Md)(f:bp):TE:=λh H Q=>∃e g S d c,Ok M e g S h H/\f g S=some (d,c)/\∀a v b,bX e H a b->fR M a c b->Rel M a b d v->Q v b
def tL(M:Md)(f:fT):TE:=λj H Q=>∃g h S i d,Ok M g h S j H/\f h S=some (i,d)∧
 ∀b a e c,bX g H b c->fR M b d c->H a=none->a∉b->c a=some (.lst e)->bj M b c i e->Q (.ref a) c
def zV(M:Md)(f:fT):TA:=λi H Q=>∃e g S h c,Ok M e g S i H/\f g S=some (h,c)/\∀a d b,bX e H a b->fR M a c b->bj M a b h d->Q d b
def tB(M:Md)(f:iE):TT:=λh H Q=>∃e g S b d,Ok M e g S h H/\f g S=some (b,d)/\∀a c,bX e H a c->fR M a d c->Q b c
noncomputable abbrev md(X:Cx):Md:=#[X.K,X.mg]
def kr{t t':TE}(h:PE X e t)(w:∀b H Q,t' b H Q->t b H Q):PE X e t':=λa s b H Q I q=>h a s b H Q I (w _ _ _ q)
def Ov{t t':TT}(h:PT X e t)(w:∀b H Q,t' b H Q->t b H Q):PT X e t':=λa s b H Q I q=>h a s b H Q I (w _ _ _ q)
def Qh{t t':TT}(h:PW X e t)(w:∀b H Q,t' b H Q->t b H Q):PW X e t':=λc a s b H Q I q=>h c a s b H Q I (w _ _ _ q)
def P7{t t':TA}(h:PA X es t)(w:∀b H Q,t' b H Q->t b H Q):PA X es t':=λc a s b H Q I q=>h c a s b H Q I (w _ _ _ q)
def CH{t t':TS}(h:PS X e t)(w:∀D b H,t' D b H->t D b H):PS X e t':=λa s b H D I q=>h a s b H D I (w _ _ _ q)
def Nz{t t':TS}(h:rq X e t)(w:∀D b H,t' D b H->t D b H):rq X e t':=λa s b H D I q=>h a s b H D I (w _ _ _ q)
noncomputable def au(i:Nat):bp:=λa S=>match a[i]? with
 |some (some d)=>some (d,S)
 |_=>none
def Dz(h:au i b S=some (d,a)):b[i]?=some (some d)/\a=S:=by
 unfold au at h
 split at h
 ·cases h;show#[by assumption,L]
 ·cases h
def N4(h:PE X e (KC i)):PE X e (tD (md X)<|au i):=kr h λl H Q b=>by
 let#[c,k,S,d,j,ok,e,q]:=b
 let#[a,rfl]:=Dz e
 let#[v,g,f]:=ok.en.get i d a
 show#[v,g,q c v H bX.refl ok.st f]
noncomputable def cF(d:D):bp:=λ_ S=>some (d,S)
def l7(h:PE X e (tC v))(r:∀ρ H,Rel (md X) ρ H d v):PE X e (tD (md X)<|cF d):=kr h λg H Q a=>by
 let#[ρ,f,S,c,b,ok,e,q]:=a
 cases e
 show q ρ v H bX.refl ok.st<|r _ _
def vi{i:Int}{j pos}:PE X (.Constant (.int i) j pos) (tD (md X)<|cF<|.int i):=l7 KZ λ_ _=>.int i
def QO{b:Bool}{j pos}:PE X (.Constant (.bool b) j pos) (tD (md X)<|cF<|.bl b):=l7 MD λ_ _=>.bl b
def Jr{j pos}:PE X (.Constant .none j pos) (tD (md X)<|cF .non):=l7 KB λ_ _=>.non
def P4{x:Str}{j pos}:PE X (.Constant (.str x) j pos) (tD (md X)<|cF<|.str x):=l7 KN λ_ _=>.str x
noncomputable def bA(f:fT):bp:=λb S=>(f b S).bind λ(c,a)=>some (.ref a.length,a++ [.lst c])
def Jf(h:PE X e (tL (md X) f)):PE X e (tD (md X)<|bA f):=kr h λz H Q t=>by
 let#[u,k,S,d,A,ok,e,q]:=t
 unfold bA at e
 cases j:f k S with
 |none=>rw[j] at e;cases e
 | some p=>
   let#[n,w]:=p
   rw[j] at e
   let#[rfl,rfl]:=cq e
   show#[u,k,S,n,w,ok,j,λg a m y x l o s v r=>?_]
   let i:=r.pre (List.prefix_append g [a])
   show q (g++ [a]) (.ref a) y #[x.pre.trans<|List.prefix_append _ _,λb c=>?_,x.keep,x.grow] (l.box s #[m,v,i])<|.ref ?_
   · rcases mQa.mp c with c|c
     · show x.new b c
     · rw[Qfq] at c;subst c;show .inr o
   · rw[<-l.len,QQq (Qmq _)]
     simp
noncomputable def av:fT:=λ_ S=>some ([],S)
noncomputable def ar(f:bp)(g:fT):fT:=λa S=>(f a S).bind λ(d,c)=>(g a c).bind λ(e,b)=>some (d::e,b)
def aq{o:Option α}(h:o.bind f=some b):∃a,o=some a/\f a=some b:=by
 cases o with
 |none=>cases h
 |some a=>show#[a,L,h]
def iQ:PA X [] (zV (md X) av):=P7 gh λg H Q a=>by
 let#[b,f,S,d,c,ok,e,q]:=a
 cases e
 show q b [] H bX.refl ok.st .nil
def cQ(A:PE X e (tD (md X) f))(t:PA X es (zV (md X) g))(w:autoParam (starEach (e::es) X.env=(false,eval e X.env)::starEach es X.env) db._auto_1):PA X (e::es) (zV (md X)<|ar f g):=
 P7 (dD A t w) λB H Q r=>by
  let#[s,i,S,d,C,ok,e,q]:=r
  let#[#[x,k],z,e]:=aq e
  let#[#[u,p],o,e]:=aq e
  let#[rfl,rfl]:=cq e
  show#[s,i,S,x,k,ok,z,λh v H1 l a m=>#[h,i,k,u,p,ok.to l a,o,λb n H2 j c y=>?_]]
  show q b (v::n) H2 (l.trans j) c<|.cons (m.ext j) y
noncomputable def aW(f:fT):bp:=λc S=>(f c S).bind λ(a,b)=>if a.length<=sizeLine then some (.tup a,b) else none
def E8{es:List Expr}{f:fT}{k pos}(h:PA X es (zV (md X) f)):PE X (.Tuple es k pos) (tD (md X)<|aW f):=kr (LN h) λu H Q l=>by
 let#[m,n,S,d,v,ok,e,q]:=l
 let#[#[j,r],o,e]:=aq e
 dsimp only at e
 split at e
 ·rename_i c
  let#[rfl,rfl]:=cq e
  show#[m,n,S,j,r,ok,o,λb t H1 s a i=>#[i.length▸c,λp g=>?_]]
  show q b (.ref p) _ (s.trans<|bX.laid g) (a.lay g)<|.tup bz (i.ext<|bX.laid g)
 ·cases e
noncomputable def bq(f:fT):fT:=λc S=>(f c S).bind λ(a,b)=>if a.length<=sizeLine then some (a,b) else none
def cW(x:bX ρ H a d)(st:fR M a S d)(b:d p=none):p∉a:=λm=>by
 let#[k,f]:=List.getElem?_of_mem m
 have l:k<S.length:=st.len▸(gQs.mp f).1
 have:=st.obj k p _ f (gQe l)
 cases e:S[k] with
 |lst c=>rw[e] at this;let#[g,h,_]:=this;rw[b] at h;cases h
 |frz c=>rw[e] at this;let#[g,o,h,_]:=this;rw[b] at h;cases h
 |dct c=>rw[e] at this;let#[g,h,_]:=this;rw[b] at h;cases h
 |sett c=>rw[e] at this;let#[_,_,h,_]:=this;rw[b] at h;cases h
def Fy{es:List Expr}{f:fT}{pos}(h:PA X es (zV (md X) f)):PE X (.List es pos) (tL (md X)<|bq f):=kr (LG h) λt H Q m=>by
 let#[n,o,S,d,u,ok,e,q]:=m
 let#[#[l,s],r,e]:=aq e
 dsimp only at e
 split at e
 ·rename_i c
  let#[rfl,rfl]:=cq e
  show#[n,o,S,l,s,ok,r,λg k H1 i a j=>#[j.length▸c,λp b=>?_]]
  show q g p k _ (i.trans<|bX.laid b) (a.lay b) (i.grow p b) (cW i a b) bz<|j.ext<|bX.laid b
 ·cases e
def FF:jO X (binaryOp .Add) (λx y H Q=>∃a b ys,x=.ref a/\y=.ref b/\gV X.K H a []/\gV X.K H b ys/\Q (.ref b) H):=by
 intro z s S H x y v u Q I M N h
 let#[a,b,ys,rfl,rfl,ha,j,q]:=h
 cases M
 cases N
 let#[J,C,G,_]:=I.tuple ha
 let#[g,U,j,_]:=I.tuple j
 cases C
 let#[#[B,P,r,sl],w,A,n,p]:=id G
 let#[#[t,k,o,l],i,f,R,d]:=id j
 simp only at A p f d
 subst A p f d
 show concat_meets #[_,w,L] #[_,i,L] noFill_tuple_add seq_tuple_add PySem.F.slot_tuple_add PySem.F.entry_tuple_add (PySem.F.args_tuple_add_2 _ _)
   (tuple_addW0 a b _ g.toArray n R P k sl l (by simp)) #[w,i,.ref b,H,I,L,q]
abbrev uA:=aE->D->D->Option D
def lB(M:Md)(r:R2)(o:uA):Prop:=∀{f:X7} {S:aE} {H:Hp} {x y d:D} {u v:V} {Q:VK},fR M f S H->Rel M f H x u->Rel M f H y v->o S x y=some d->(∀w g,bX f H f g->fR M f S g->Rel M f g d w->Q w g)->r u v H Q
noncomputable def bf(o:uA)(f g:bp):bp:=λi S=>(f i S).bind λ(x,j)=>(g i j).bind λ(y,h)=>(o h x y).bind λd=>some (d,h)
def o6(I:lB (md X) r o)(h:PE X e (GM r (tD (md X) f)<|tD (md X) g)):PE X e (tD (md X)<|bf o f g):=kr h λU H Q J=>by
 let#[K,p,S,d,W,ok,e,q]:=J
 let#[#[x,t],N,e]:=aq e
 let#[#[y,G],F,e]:=aq e
 let#[R,P,e]:=aq e
 let#[rfl,rfl]:=cq e
 show#[K,p,S,x,t,ok,N,λn v H1 u i B=>#[n,p,t,y,G,ok.to u i,F,λj w H2 s l M=>?_]]
 show I l (B.ext s) M P λA H3 C k z=>q j A H3 ((u.trans s).trans C) k z
noncomputable def bS:uA:=λ_ x y=>match x,y with
 |.int i,.int j=>some (.int (i+j))
 |.str i,.str j=>if i.length+j.length<=sizeLine then some (.str (i++j)) else none
 |.tup i,.tup j=>if i.length+j.length<=sizeLine then some (.tup (i++j)) else none
 |_,_=>none
abbrev NO(K:X1):R2:=λx y H Q=>(∃i j,x=.int i/\y=.int j/\Q (.int (i+j)) H)\/(∃i j,x=.str i/\y=.str j/\i.length+j.length<=sizeLine/\Q (.str (i++j)) H)∨
 (∃a b d,x=.ref a/\y=.ref b/\gV K H a []/\gV K H b d/\Q (.ref b) H)\/Jg K x y H Q
def GT:jO X (binaryOp .Add) (NO X.K):=Ky.or (Ae.or<|FF.or Hi)
def LF:lB M (NO M.K) bS:=by
 intro w S H x y d u v Q h r o e q
 cases r with
 |int i=>cases o <;>erw[bS,reduceCtorEq] at e;cases e;show .inl #[_,_,L,L,q _ _ bX.refl h<|.int _]
 | str i=>
   cases o <;>erw[bS,reduceCtorEq] at e
   split at e <;>cases e
   show .inr (.inl #[_,_,L,L,by assumption,q _ _ bX.refl h<|.str _])
 | tup k f=>
   cases o with
   | tup n j=>
     erw[bS] at e
     split at e <;>cases e
     rename_i hl
     let s:=f.length
     let t:=j.length
     cases f with
     |nil=>show .inr (.inr (.inl #[_,_,_,L,L,gV.of k,gV.of n,q _ _ bX.refl h<|.tup n j]))
     | cons f g=>
       show .inr (.inr (.inr #[_,_,_,_,L,L,gV.of k,gV.of n,by simp,by rw[<-s,<-t];show hl,λz=>?_,λz p l=>?_]))
       · subst z
         cases j
         rw[List.append_nil] at q
         show q _ _ bX.refl h<|.tup k (.cons f g)
       · show q _ _ (bX.laid l) (h.lay l)<|.tup bz ((bj.append (.cons f g) j).ext (bX.laid l))
   |_=>erw[bS,reduceCtorEq] at e
 |_=>erw[bS,reduceCtorEq] at e
def Qs(d:PE X a (tD (md X) f))(h:PE X b (tD (md X) g)):PE X (.BinOp a .Add b m) (tD (md X)<|bf bS f g):=o6 LF (oo GT d h)
noncomputable def intD(C:Int->Int->Prop)[∀i j,Decidable (C i j)](k:Int->Int->D):uA:=λ_ x y=>match x,y with
 |.int i,.int j=>if C i j then some (k i j) else none
 |_,_=>none
def wD{C:Int->Int->Prop}[∀i j,Decidable (C i j)]{k:Int->Int->D}{g:Int->Int->V}(h:∀i j ρ H,Rel M ρ H (k i j)<|g i j):lB M (rI C g) (intD C k):=by
 intro ρ S H x y d u v Q l f n e q
 cases f <;>cases n <;>erw[intD,reduceCtorEq] at e
 split at e <;>cases e
 show#[_,_,L,L,by assumption,q _ _ bX.refl l<|h _ _ _ _]
def oV{k:Int->Int->D}{g:Int->Int->V}(h:∀i j ρ H,Rel M ρ H (k i j)<|g i j):lB M (DW g) (intD (λ_ _=>True) k):=by
 intro ρ S H x y d u v Q l f n e q
 cases f <;>cases n <;>erw[intD,reduceCtorEq] at e
 rw[Qhq trivial] at e
 cases e
 show#[_,_,L,L,q _ _ bX.refl l<|h _ _ _ _]
instance{i j:Int}:Decidable (Ge i j):=by unfold Ge;infer_instance
instance{i j:Int}:Decidable (Ft i j):=by unfold Ft;infer_instance
open Classical in
noncomputable instance{i j:Int}:Decidable (IntMulOk i j):=Classical.propDecidable _
noncomputable abbrev y1:uA:=intD (λ_ _=>True) λi j=>.int (i-j)
noncomputable abbrev tZ:uA:=intD IntMulOk λi j=>.int (i*j)
noncomputable abbrev oD:uA:=intD (λ_ j=>0<j) λi j=>.int (i%j)
noncomputable abbrev yH:uA:=intD Ge λi j=>.int (i/j)
noncomputable abbrev HL:uA:=intD Ft λi j=>.int (i^j.toNat)
def Qt(d:PE X a (tD (md X) f))(h:PE X b (tD (md X) g)):PE X (.BinOp a .Sub b m) (tD (md X)<|bf y1 f g):=o6 (oV λi j _ _=>.int _) (oo J6 d h)
def P6(d:PE X a (tD (md X) f))(h:PE X b (tD (md X) g)):PE X (.BinOp a .Mult b m) (tD (md X)<|bf tZ f g):=o6 (wD λi j _ _=>.int _) (oo HE d h)
def PY(d:PE X a (tD (md X) f))(h:PE X b (tD (md X) g)):PE X (.BinOp a .Mod b m) (tD (md X)<|bf oD f g):=o6 (wD λi j _ _=>.int _) (oo Kc d h)
def Pc(d:PE X a (tD (md X) f))(h:PE X b (tD (md X) g)):PE X (.BinOp a .FloorDiv b m) (tD (md X)<|bf yH f g):=o6 (wD λi j _ _=>.int _) (oo G_ d h)
def Qk(d:PE X a (tD (md X) f))(h:PE X b (tD (md X) g)):PE X (.BinOp a .Pow b m) (tD (md X)<|bf HL f g):=o6 (wD λi j _ _=>.int _) (oo Ld d h)
noncomputable def tX(f:bp):bp:=λh S=>(f h S).bind λ(d,g)=>match d with
 |.int i=>some (.int (-i),g)
 |_=>none
def JC(o:PE X a (tD (md X) f)):PE X (.UnaryOp .USub a m) (tD (md X)<|tX f):=kr (Nw J5 o) λs H Q j=>by
 let#[k,l,S,d,t,ok,e,q]:=j
 let#[#[x,p],n,e]:=aq e
 dsimp only at e
 split at e
 ·let#[rfl,rfl]:=cq e
  show#[k,l,S,_,p,ok,n,λi v H1 r g h=>?_]
  cases h
  show#[_,L,q _ _ _ r g<|.int _]
 ·cases e
noncomputable def wL:D->Option V
 |.non=>some .non
 |.bl b=>some (.bl b)
 |.int i=>some (.int i)
 |.str x=>some (.str x)
 |_=>none
def nQ(r:Rel M ρ H d u)(e:wL d=some v):u=v:=by
 cases r <;>simp[wL] at e <;>show e
noncomputable def gq(d:Bool):uA:=λ_ x y=>match wL x,wL y with
 |some u,some v=>if Ai u v=true then some (.bl (if d then !decide (u=v) else decide (u=v))) else none
 |_,_=>none
def yQ(e:gq f S x y=some d):∃u v,wL x=some u/\wL y=some v/\Ai u v=true/\d=.bl (if f then !decide (u=v) else decide (u=v)):=by
 unfold gq at e
 split at e
 ·split at e <;>cases e
  show#[_,_,by assumption,by assumption,by assumption,L]
 ·cases e
def MH:lB M Qw (gq false):=by
 intro o S H x y d u v Q j g k e q
 let#[n,l,h,f,i,rfl]:=yQ e
 cases nQ g h
 cases nQ k f
 show#[i,q _ _ bX.refl j<|.bl _]
def PX:lB M PZ (gq true):=by
 intro o S H x y d u v Q j g k e q
 let#[n,l,h,f,i,rfl]:=yQ e
 cases nQ g h
 cases nQ k f
 show#[i,q _ _ bX.refl j<|.bl _]
noncomputable abbrev Ea:uA:=intD (λ_ _=>True) λi j=>.bl (decide (i<j))
noncomputable abbrev LY:uA:=intD (λ_ _=>True) λi j=>.bl (decide (i<=j))
noncomputable abbrev OA:uA:=intD (λ_ _=>True) λi j=>.bl (decide (j<i))
noncomputable abbrev Pq:uA:=intD (λ_ _=>True) λi j=>.bl (decide (j<=i))
def Jc:lB M (DW λi j=>.bl (decide (i<j))) Ea:=oV λi j _ _=>.bl _
def Ji:lB M (DW λi j=>.bl (decide (i<=j))) LY:=oV λi j _ _=>.bl _
def Qv:lB M (DW λi j=>.bl (decide (j<i))) OA:=oV λi j _ _=>.bl _
def Ng:lB M (DW λi j=>.bl (decide (j<=i))) Pq:=oV λi j _ _=>.bl _
noncomputable def isNone:D->Bool
 |.non=>true
 |_=>false
noncomputable def mz(d:Bool):uA:=λ_ x y=>match y with
 |.non=>some (.bl (if d then !isNone x else isNone x))
 |_=>none
def u6(r:Rel M ρ H d u):decide (u=V.non)=isNone d:=by
 cases r <;>simp[isNone]
def Pa:lB M (λx y H Q=>y=.non/\Q (.bl (decide (x=.non))) H) (mz false):=by
 intro i S H x y d u v Q h g f e q
 cases f <;>erw[mz,reduceCtorEq] at e
 cases e
 rw[u6 g]
 show#[L,q _ _ bX.refl h<|.bl _]
def Ob:lB M (λx y H Q=>y=.non/\Q (.bl (!decide (x=.non))) H) (mz true):=by
 intro i S H x y d u v Q h g f e q
 cases f <;>erw[mz,reduceCtorEq] at e
 cases e
 rw[u6 g]
 show#[L,q _ _ bX.refl h<|.bl _]
def P8(j:jO X (compareOp d) r)(h:lB (md X) r o)(k:PE X a (tD (md X) f))(l:PE X b (tD (md X) g))(i:behindInMarks d b=false):PE X (.Compare a [d] [b] m) (tD (md X)<|bf o f g):=o6 h (BQ j k l i)
noncomputable def aK(f:bp):iE:=λh S=>(f h S).bind λ(d,g)=>match d with
 |.bl k=>some (k,g)
 |_=>none
def t4(e:aK f h S=some (k,g)):f h S=some (.bl k,g):=by
 let#[#[d,j],i,e]:=aq e
 dsimp only at e
 split at e
 ·cases e;show i
 ·cases e
def M8(G:lB (md X) r o)(h:PT X e (Gh<|GM r (tD (md X) f)<|tD (md X) g)):PT X e (tB (md X)<|aK<|bf o f g):=Ov h λU H Q I=>by
 let#[J,p,S,d,W,ok,e,q]:=I
 let e:=t4 e
 let#[#[x,t],M,e]:=aq e
 let#[#[y,F],C,e]:=aq e
 let#[R,N,e]:=aq e
 let#[rfl,rfl]:=cq e
 show#[J,p,S,x,t,ok,M,λn v H1 u i A=>#[n,p,t,y,F,ok.to u i,C,λj w H2 s l K=>?_]]
 show G l (A.ext s) K N λP H3 B k z=>by cases z;show#[_,L,q j H3 ((u.trans s).trans B) k]
def uX(j:jO X (compareOp d) r)(h:lB (md X) r o)(k:PE X a (tD (md X) f))(l:PE X b (tD (md X) g))(i:behindInMarks d b=false):PT X (.Compare a [d] [b] m) (tB (md X)<|aK<|bf o f g):=M8 h (lU j k l i)
noncomputable def AE(S:aE):D->Option Bool
 |.non=>some false
 |.bl b=>some b
 |.int i=>some (i !=0)
 |.str y=>if y.length<=sizeLine then some ((y.length:Int) !=0) else none
 |.tup d=>some (!d.isEmpty)
 | .ref k=>match S[k]? with
   |some (.lst d)=>some (!d.isEmpty)
   |some (.dct d)=>some (!d.isEmpty)
   |_=>none
 |.fn _=>none
def bj.isEmpty(h:bj M ρ H ds vs):ds.isEmpty=vs.isEmpty:=by cases h <;>rfl
theorem cf.isEmpty(h:cf M ρ H ds vs):ds.isEmpty=vs.isEmpty:=by
 cases ds with
 |nil=>cases h;rfl
 |cons p r=>let#[v,t,e,_]:=h;subst e;rfl
def HN(st:fR M ρ S H)(r:Rel M ρ H d u)(e:AE S d=some k):K6 M.K u H k:=by
 cases r with
 |non=>cases e;rfl
 |bl=>cases e;rfl
 |int=>cases e;rfl
 |str=>erw[AE] at e;split at e <;>cases e;show#[by assumption,L]
 |tup h j=>cases e;show .inr (.inl #[_,gV.of h,by rw[j.isEmpty]])
 |fn=>cases e
 | ref h=>
   erw[AE] at e
   split at e
   · cases e
     let#[f,i,g]:=st.obj _ _ _ h (by assumption)
     show .inl #[f,iX.of i,by rw[g.isEmpty]]
   · cases e
     let#[f,i,g]:=st.obj _ _ _ h (by assumption)
     show .inr (.inr #[f,i,by rw[g.isEmpty]])
   · cases e
noncomputable def lC(f:bp):iE:=λh S=>(f h S).bind λ(d,g)=>(AE g d).bind λk=>some (k,g)
def Qr(s:PE X a (tD (md X) f))(he:autoParam (∀d,isTrue a X.env d=(do let v<-d;standAt a.pos;holding [v] (truthy v))) dl._auto_1):PT X a (tB (md X)<|lC f):=Ov (F1 s he) λw H Q n=>by
 let#[o,p,S,k,y,ok,e,q]:=n
 let#[#[x,t],r,e]:=aq e
 let#[j,l,e]:=aq e
 let#[rfl,rfl]:=cq e
 show#[o,p,S,x,t,ok,r,λi v H1 u g h=>#[j,HN g h l,q _ _ u g]]
noncomputable def sP(f:iE):iE:=λg S=>(f g S).bind λ(k,d)=>some (!k,d)
def Qq(o:PT X a (tB (md X) f)):PT X (.UnaryOp .Not a m) (tB (md X)<|sP f):=Ov (Kv o) λs H Q i=>by
 let#[j,l,S,k,t,ok,e,q]:=i
 let#[#[g,p],n,e]:=aq e
 let#[rfl,rfl]:=cq e
 show#[j,l,S,g,p,ok,n,λh H1 r d=>q _ _ r d]
noncomputable def gD(f g:iE):iE:=λh S=>(f h S).bind λ(k,d)=>if k=true then g h d else some (false,d)
noncomputable def Fp(f g:iE):iE:=λh S=>(f h S).bind λ(k,d)=>if k=true then some (true,d) else g h d
def Fj(d:PT X a (tB (md X) f)):PW X (.BoolOp .And [a] m) (tB (md X) f):=G7 d
def Qg(d:PT X a (tB (md X) f)):PW X (.BoolOp .Or [a] m) (tB (md X) f):=Lv d
def w_and(y:PT X a (tB (md X) f))(r:PW X (.BoolOp .And (b::d) m) (tB (md X) g)):PW X (.BoolOp .And (a::b::d) m) (tB (md X)<|gD f g):=Qh (LB y r) λz H Q t=>by
 let#[u,n,S,k,w,ok,e,q]:=t
 let#[#[p,o],x,e]:=aq e
 show#[u,n,S,p,o,ok,x,λj H1 l h=>?_]
 dsimp only at e
 split at e
 ·rename_i c
  rw[Qhq c]
  show#[j,n,o,k,w,ok.to l h,e,λs H2 v i=>q _ _ (l.trans v) i]
 ·rename_i c
  rw[Quq c]
  let#[rfl,rfl]:=cq e
  show q _ _ l h
def w_or(y:PT X a (tB (md X) f))(r:PW X (.BoolOp .Or (b::d) m) (tB (md X) g)):PW X (.BoolOp .Or (a::b::d) m) (tB (md X)<|Fp f g):=Qh (L_ y r) λz H Q t=>by
 let#[u,n,S,k,w,ok,e,q]:=t
 let#[#[p,o],x,e]:=aq e
 show#[u,n,S,p,o,ok,x,λj H1 l h=>?_]
 dsimp only at e
 split at e
 ·rename_i c
  rw[Qhq c]
  let#[rfl,rfl]:=cq e
  show q _ _ l h
 ·rename_i c
  rw[Quq c]
  show#[j,n,o,k,w,ok.to l h,e,λs H2 v i=>q _ _ (l.trans v) i]
noncomputable def FL(f g:bp):bp:=λi S=>(f i S).bind λ(d,h)=>match d with
 |.bl true=>g i h
 |.bl false=>some (.bl false,h)
 |_=>none
def Qf{op}{f:bp}(h:PE X a (tD (md X) f)):PE X (.BoolOp op [a] m) (tD (md X) f):=LD h
def Qn(C:PE X a (tD (md X) f))(r:PE X (.BoolOp .And (b::h) m) (tD (md X) g)):PE X (.BoolOp .And (a::b::h) m) (tD (md X)<|FL f g):=kr (Lk C r) λF H Q t=>by
 let#[u,o,S,d,A,ok,e,q]:=t
 let#[#[x,p],B,e]:=aq e
 show#[u,o,S,x,p,ok,B,λk v H1 l i n=>?_]
 dsimp only at e
 split at e
 ·cases n
  show#[_,L,?_]
  rw[Qhq L]
  show#[k,o,p,d,A,ok.to l i,e,λs w H2 y j z=>q _ _ _ (l.trans y) j z]
 ·cases n
  show#[_,L,?_]
  rw[Quq Qtq]
  let#[rfl,rfl]:=cq e
  show q _ _ _ l i<|.bl _
 ·cases e
noncomputable def sM(c:iE)(f g:bp):bp:=λd S=>(c d S).bind λ(k,h)=>if k=true then f d h else g d h
def M5(B:PT X c (tB (md X) h))(A:PE X a (tD (md X) f))(v:PE X b (tD (md X) g)):PE X (.IfExp c a b m) (tD (md X)<|sM h f g):=kr (F8 B A v) λC H Q x=>by
 let#[y,o,S,d,t,ok,e,q]:=x
 let#[#[u,s],z,e]:=aq e
 show#[y,o,S,u,s,ok,z,λk H1 l j=>?_]
 dsimp only at e
 split at e
 ·rename_i c
  rw[Qhq c]
  show#[k,o,s,d,t,ok.to l j,e,λn w H2 p i r=>q _ _ _ (l.trans p) i r]
 ·rename_i c
  rw[Quq c]
  show#[k,o,s,d,t,ok.to l j,e,λn w H2 p i r=>q _ _ _ (l.trans p) i r]
noncomputable def kc:uA:=λS x y=>match x,y with
 |.tup xs,.int i=>mi xs i
 |.str z,.int i=>if z.length<=sizeLine then(mi z.cps.toList i).map λc=>.str #[(List.toArray [c])] else none
 | .ref k,.int i=>match S[k]? with
   |some (.lst xs)=>mi xs i
   |some (.frz xs)=>mi xs i
   |_=>none
 |_,_=>none
def HC{ys:List d}(h:mi xs i=some x)(l:xs.length=ys.length):∃j:Nat,xs[j]?=some x/\∀y,ys[j]?=some y->mi ys i=some y:=by
 unfold mi at h
 let#[j,e,h]:=aq h
 show#[j,h,λy f=>by unfold mi;rw[<-l,e];show f]
def bj.atI(h:bj M ρ H ds vs)(e:L2.mi ds i=some d):∃v,L2.mi vs i=some v/\Rel M ρ H d v:=by
 let#[j,k,f]:=HC e h.length
 let#[v,l,g]:=h.get k
 show#[v,f v l,g]
def Nt:lB M (Qx M.K) kc:=by
 intro s S H x y d u v Q i l r e q
 cases r <;>cases l <;>erw[kc,reduceCtorEq] at e
 ·split at e
  ·let#[c,g,f]:=oQm.mp e
   subst f
   show .inr (.inr #[_,_,c,L,L,by assumption,g,q _ _ bX.refl i<|.str _])
  ·cases e
 ·rename_i h p
  let#[v,g,f]:=p.atI e
  show .inr (.inl #[_,_,_,v,L,L,gV.of h,g,q _ _ bX.refl i f])
 ·rename_i h
  split at e
  ·let#[n,k,j]:=i.obj _ _ _ h (by assumption)
   let#[v,g,f]:=j.atI e
   show .inl #[_,_,_,v,L,L,iX.of k,g,q _ _ bX.refl i f]
  ·let#[n,o,k,j]:=i.obj _ _ _ h (by assumption)
   let#[v,g,f]:=j.atI e
   show .inl #[_,_,_,v,L,L,.inl (.inr #[o,k]),g,q _ _ bX.refl i f]
  ·cases e
def KL(d:PE X a (tD (md X) f))(h:PE X b (tD (md X) g))(i:autoParam (Ca b) dL._auto_1):PE X (.Subscript a b m) (tD (md X)<|bf kc f g):=o6 Nt (Nd KS d h i)
inductive Tag where
 |tu|fr|st (k:Nat)|fz (k:Nat)
def Bt(M:Md)(ρ:X7)(H:Hp)(a:X8)(vs:List V):Tag->Prop
 |.tu=>gV M.K H a vs
 |.fr=>H a=some (.lst vs)/\a∉ρ
 |.st k=>ρ[k]?=some a/\H a=some (.lst vs)
 |.fz k=>ρ[k]?=some a/\∃o,H a=some (.frz o (.lst vs))
abbrev d0:=cv->aE->Option ((List D×Tag)×aE)
def tQ(M:Md)(f:d0):TE:=λj H Q=>∃g h S i t d,Ok M g h S j H/\f h S=some ((i,t),d)∧
 ∀b a e c,bX g H b c->fR M b d c->Bt M b c a e t->bj M b c i e->Q (.ref a) c
def Bt.sq(h:Bt M ρ H a vs t):iX M.K H a vs\/gV M.K H a vs:=by
 cases t with
 |tu=>show .inr h
 |fr=>show .inl (iX.of h.1)
 |st k=>show .inl (iX.of h.2)
 |fz k=>let#[_,o,h]:=h;show .inl (.inl (.inr #[o,h]))
noncomputable def Tag.isL:Tag->Bool
 |.tu=>false
 |_=>true
noncomputable def Tag.isM:Tag->Bool
 |.fr=>true
 |.st _=>true
 |_=>false
def Bt.sqL(h:Bt M ρ H a vs t)(c:t.isL=true):iX M.K H a vs:=by
 cases t with
 |tu=>cases c
 |fr=>show iX.of h.1
 |st k=>show iX.of h.2
 |fz k=>let#[_,o,h]:=h;show .inl (.inr #[o,h])
def Bt.sqM(h:Bt M ρ H a vs t)(c:t.isM=true):H a=some (.lst vs):=by
 cases t with
 |tu=>cases c
 |fr=>show h.1
 |st k=>show h.2
 |fz k=>cases c
def Bt.sqT(h:Bt M ρ H a vs t)(c:t.isL=false):gV M.K H a vs:=by
 cases t with
 |tu=>show h
 |fr=>cases c
 |st k=>cases c
 |fz k=>cases c
def Tag.stays(S:aE)(ds:List D):Tag->Prop
 |.st k=>S[k]?=some (.lst ds)
 |.fz k=>S[k]?=some (.frz ds)
 |_=>True
def gV.ext{K:X1}{ρ b:X7}{H c:Hp}{a:X8}{vs:List V}(e:bX ρ H b c)(h:gV K H a vs):gV K c a vs:=by
 rcases h with(h|⟨o,h⟩)|h
 ·show .inl (.inl (e.keep _ _ h<|.inr trivial))
 ·show .inl (.inr #[o,e.keep _ _ h<|.inr trivial])
 ·show .inr h
def Bt.to(h:Bt M ρ H a vs t)(r:bj M ρ H ds vs)(e:bX ρ H d i)(st:fR M d S i)(c:t.stays S ds):∃b,Bt M d i a b t/\bj M d i ds b:=by
 cases t with
 |tu=>show#[vs,gV.ext e h,r.ext e]
 |fr=>show#[vs,#[e.keep _ _ h.1<|.inl h.2,λm=>(e.new a m).elim h.2 λz=>by have f:=h.1;rw[z] at f;cases f],r.ext e]
 | st k=>
   let g:=cK e.pre h.1
   let#[b,f,j]:=st.obj k a _ g c
   show#[b,#[g,f],j]
 | fz k=>
   let g:=cK e.pre h.1
   let#[b,o,f,j]:=st.obj k a _ g c
   show#[b,#[g,o,f],j]
noncomputable def fg(f:fT):d0:=λg S=>(f g S).bind λ(h,d)=>some ((h,.fr),d)
def QH(h:PE X e (tL (md X) f)):PE X e (tQ (md X)<|fg f):=kr h λz H Q l=>by
 let#[n,o,S,w,t,A,ok,e,q]:=l
 let#[#[d,u],r,e]:=aq e
 let#[i,rfl]:=cq e
 let#[rfl,rfl]:=Prod.mk.inj i
 show#[n,o,S,d,u,ok,r,λg a v B x p y k s j=>q _ _ _ _ x p #[s,k] j]
noncomputable def uk(S:aE):D->Option (List D×Tag)
 |.tup d=>some (d,.tu)
 | .ref k=>match S[k]? with
   |some (.lst d)=>some (d,.st k)
   |some (.frz d)=>some (d,.fz k)
   |_=>none
 |_=>none
noncomputable def aP(f:bp):d0:=λh S=>(f h S).bind λ(d,g)=>(uk g d).bind λp=>some (p,g)
def GR(st:fR M ρ S H)(r:Rel M ρ H d v)(e:uk S d=some (ds,t)):∃a vs,v=.ref a/\Bt M ρ H a vs t/\bj M ρ H ds vs:=by
 cases r with
 |tup h i=>erw[uk] at e;cases e;show#[_,_,L,gV.of h,i]
 | ref h=>
   erw[uk] at e
   split at e
   · rename_i q
     cases e
     let#[vs,g,f]:=st.obj _ _ _ h q
     show#[_,vs,L,#[h,g],f]
   · rename_i q
     cases e
     let#[vs,o,g,f]:=st.obj _ _ _ h q
     show#[_,vs,L,#[h,o,g],f]
   · cases e
 |_=>erw[uk,reduceCtorEq] at e
def NI(h:PE X e (tD (md X) f)):PE X e (tQ (md X)<|aP f):=kr h λA H Q l=>by
 let#[n,o,S,z,t,B,ok,e,q]:=l
 let#[#[d,u],p,e]:=aq e
 let#[#[k,w],j,e]:=aq e
 let#[s,rfl]:=cq e
 let#[rfl,rfl]:=Prod.mk.inj s
 show#[n,o,S,d,u,ok,p,λi v C x g r=>?_]
 let#[a,y,rfl,h1,h2]:=GR g r j
 show q _ _ _ _ x g h1 h2
def se(n:Gl X "len")(w:X.mg "len"=none)(z:PE X a (tQ (md X) f))(k:autoParam (starEach [a] X.env= [(false,eval a X.env)]) db._auto_1):
  PE X (.Call (.Name "len" p) [a] [] m) (tD (md X) λg S=>(f g S).bind λ(p,i)=>some (.int p.1.length,i)):=
 kr (jr w9 n w PySem.boot_len (dD z gh k) (he:=k)) λA H Q s=>by
  let#[u,g,S,d,B,ok,e,q]:=s
  let#[#[#[o,t],i],y,e]:=aq e
  let#[rfl,rfl]:=cq e
  show#[u,g,S,o,t,i,ok,y,λl a j C x v h r=>#[a,j,L,h.sq,?_]]
  have:=q _ (.int j.length) _ x v (by rw[<-r.length];show .int _)
  show this
noncomputable def et(f:d0):bp:=λg S=>(f g S).bind λ(p,d)=>some (.int p.1.length,d)
noncomputable def yJ(S:aE):D->Option Nat
 |.str z=>if z.length<=sizeLine then some z.length else none
 | .ref k=>match S[k]? with
   |some (.dct l)=>some l.length
   |_=>none
 |_=>none
noncomputable def HK(f:bp):bp:=λh S=>(f h S).bind λ(d,g)=>(yJ g d).bind λn=>some (.int n,g)
def JV(o:Gl X "len")(B:X.mg "len"=none)(F:PE X a (tD (md X) f))(j:autoParam (starEach [a] X.env= [(false,eval a X.env)]) db._auto_1):
  PE X (.Call (.Name "len" p) [a] [] m) (tD (md X)<|HK f):=
 kr (jr (wY.or Df) o B PySem.boot_len (dD F gh j) (he:=j)) λI H Q t=>by
  let#[u,y,S,d,J,ok,e,q]:=t
  let#[#[w,G],C,e]:=aq e
  let#[n,g,e]:=aq e
  let#[rfl,rfl]:=cq e
  show#[u,y,S,w,G,ok,C,λl v K x i r=>?_]
  cases r with
  | str z=>
    erw[yJ] at g
    split at g <;>cases g
    show .inl #[z,L,by assumption,q _ _ _ x i<|.int _]
  | ref h=>
    erw[yJ] at g
    split at g <;>cases g
    let#[A,s,k]:=i.obj _ _ _ h (by assumption)
    show .inr #[_,A,L,s,?_]
    rw[<-k.length]
    show q _ _ _ x i<|.int _
  |_=>erw[yJ,reduceCtorEq] at g
noncomputable def tupQ(f:d0):bp:=λg S=>(f g S).bind λ(p,d)=>some (.tup p.1,d)
def Hj(o:Gl X "tuple")(y:X.mg "tuple"=none)(z:PE X a (tQ (md X) f))(i:autoParam (starEach [a] X.env= [(false,eval a X.env)]) db._auto_1)(ht:∀g S ds t j,f g S=some ((ds,t),j)->t.isL=true):
  PE X (.Call (.Name "tuple" p) [a] [] m) (tD (md X)<|tupQ f):=
 kr (Dj uF o y (by rfl) (dD z gh i) (he:=i)) λB H Q u=>by
  let#[v,g,S,d,j,ok,e,q]:=u
  let#[#[#[ds,t],A],k,e]:=aq e
  let#[rfl,rfl]:=cq e
  show#[v,g,S,ds,t,A,ok,k,λn a s C x w h r=>#[a,s,L,.inl #[h.sqL<|ht _ _ _ _ _ k,λl hl=>?_]]]
  show q _ _ _ (x.trans<|bX.laid hl) (w.lay hl)<|.tup bz (r.ext<|bX.laid hl)
def Ow:∀g S ds t d,fg f g S=some ((ds,t),d)->t.isL=true:=λg S ds t d e=>by
 let#[#[h,j],i,e]:=aq e
 cases e
 rfl
noncomputable def dq(f:d0):d0:=λg S=>(f g S).bind λ(p,d)=>if p.2.isL=true then some (p,d) else none
def yN:∀g S ds t d,dq f g S=some ((ds,t),d)->t.isL=true:=λg S ds t d e=>by
 let#[#[#[h,k],j],i,e]:=aq e
 dsimp only at e
 split at e <;>cases e
 assumption
def Ms(h:PE X e (tQ (md X) f)):PE X e (tQ (md X)<|dq f):=kr h λs H Q i=>by
 let#[j,o,S,r,t,p,ok,e,q]:=i
 let#[#[#[d,n],l],g,e]:=aq e
 dsimp only at e
 split at e
 ·let#[k,rfl]:=cq e
  let#[rfl,rfl]:=Prod.mk.inj k
  show#[j,o,S,d,n,l,ok,g,q]
 ·cases e
noncomputable def k8:List D->Option (List Bool)
 | []=>some []
 |.bl b::r=>(k8 r).bind λd=>some (b::d)
 |_::_=>none
theorem F2:∀{ds:List D} {vs:List V} {bs:List Bool},bj M ρ H ds vs->k8 ds=some bs->vs=bs.map V.bl
 | [],_,_,h,e=>by cases h;cases e;rfl
 | d::ds,_,_,h,e=>by
   cases d with
   | bl b=>
     erw[k8] at e
     let#[g,f,e]:=aq e
     cases e
     cases h with
     | cons h i=>
       cases h
       rw[F2 i f]
       rfl
   |_=>cases e
noncomputable def uJ(f:d0):bp:=λg S=>(f g S).bind λ(p,d)=>if p.2.isL=true then(k8 p.1).bind λh=>some (.bl (h.all id),d) else none
def Qb{X:Cx}(B:X.calm=true)(k:Gl X "all")(w:X.mg "all"=none)(z:PE X a (tQ (md X) f))(g:autoParam (starEach [a] X.env= [(false,eval a X.env)]) db._auto_1):
  PE X (.Call (.Name "all" p) [a] [] m) (tD (md X)<|uJ f):=
 kr (jr (D7 B) k w (by rfl) (dD z gh g) (he:=g)) λF H Q o=>by
  let#[s,u,S,d,G,ok,e,q]:=o
  let#[#[#[l,t],A],y,e]:=aq e
  dsimp only at e
  split at e
  ·rename_i c
   let#[j,n,e]:=aq e
   let#[rfl,rfl]:=cq e
   show#[s,u,S,l,t,A,ok,y,λi a C I x v h r=>#[a,j,L,?_,q _ _ _ x v<|.bl _]]
   rw[<-F2 r n]
   show h.sqL c
  ·cases e
noncomputable def Hc(S:aE)(T:String):D->Option Bool
 |.non=>some (T=="NoneType")
 |.bl _=>some (T=="bool" ||T=="int")
 |.int _=>some (T=="int")
 |.str _=>some (T=="str")
 |.tup _=>some (T=="tuple")
 | .ref k=>match S[k]? with
   |some (.lst _)=>some (T=="list")
   |some (.frz _)=>some (T=="list")
   |some (.dct _)=>some (T=="dict")
   |_=>none
 |.fn _=>none
def NH(K:X1)(T:String):Prop:=(PySem.W.kitOne K (.type "NoneType") (.type T)=some (T=="NoneType"))/\(PySem.W.kitOne K (.type "bool") (.type T)=some (T=="bool" ||T=="int"))/\(PySem.W.kitOne K (.type "int") (.type T)=some (T=="int"))/\(PySem.W.kitOne K (.type "str") (.type T)=some (T=="str"))∧
 (PySem.W.kitOne K (.type "tuple") (.type T)=some (T=="tuple"))/\(PySem.W.kitOne K (.type "list") (.type T)=some (T=="list"))/\(PySem.W.kitOne K (.type "dict") (.type T)=some (T=="dict"))
noncomputable def Ds(T:String)(f:bp):bp:=λh S=>(f h S).bind λ(d,g)=>(Hc g T d).bind λk=>some (.bl k,g)
def P_{X:Cx}{T:String}(F:NH X.K T)(B:Gl X "isinstance")(R:X.mg "isinstance"=none)(Y:PE X a (tD (md X) f))(ht:PE X l (tC<|.ty T))(u:autoParam (starEach [a,l] X.env= [(false,eval a X.env),(false,eval l X.env)]) db._auto_1)(j:autoParam (starEach [l] X.env= [(false,eval l X.env)]) db._auto_1):
  PE X (.Call (.Name "isinstance" p) [a,l] [] m) (tD (md X)<|Ds T f):=
 kr (jr Fg B R boot_isinstance (dD Y (dD ht gh j) (by rw[u,j])) (he:=by rw[u,j]) (hpl:=by rw[j];rfl)) λσ H Q J=>by
  let#[M,P,S,d,S',ok,e,q]:=J
  let#[#[N,Z],W,e]:=aq e
  let#[k,i,e]:=aq e
  let#[rfl,rfl]:=cq e
  let#[z,U,G,k4,I,y,C]:=F
  show#[M,P,S,N,Z,ok,W,λA v H' x t r=>?_]
  let g:=q _ _ _ x t (.bl _)
  cases r with
  |non=>cases i;show#[_,_,_,_,L,.non,z,g]
  |bl=>cases i;show#[_,_,_,_,L,.bl _,U,g]
  |int=>cases i;show#[_,_,_,_,L,.int _,G,g]
  |str=>cases i;show#[_,_,_,_,L,.str _,k4,g]
  |tup h u=>cases i;show#[_,_,_,_,L,.tup h,I,g]
  |fn=>cases i
  | ref h=>
    erw[Hc] at i
    split at i
    · rename_i s;cases i;let#[w,n,_]:=t.obj _ _ _ h s;show#[_,_,_,_,L,.lst n,y,g]
    · rename_i s;cases i;let#[w,o,n,_]:=t.obj _ _ _ h s;show#[_,_,_,_,L,.frz n,y,g]
    · rename_i s;cases i;let#[w,n,_]:=t.obj _ _ _ h s;show#[_,_,_,_,L,.dK n,C,g]
    · cases i
abbrev Jt:=List D->Option D
def FZ(M:Md)(r:List V->Hp->VK->Prop)(o:Jt):Prop:=∀{f:X7} {S:aE} {H:Hp} {h:List D} {d:D} {g:List V} {Q:VK},fR M f S H->bj M f H h g->o h=some d->(∀w,Rel M f H d w->Q w H)->r g H Q
noncomputable def Cu(o:Jt)(f:fT):bp:=λi S=>(f i S).bind λ(h,g)=>(o h).bind λd=>some (d,g)
def OF(l:FZ (md X) r o)(h:PE X e (M9 r<|zV (md X) f)):PE X e (tD (md X)<|Cu o f):=kr h λB H Q n=>by
 let#[p,t,S,d,C,ok,e,q]:=n
 let#[#[s,x],u,e]:=aq e
 let#[A,v,e]:=aq e
 let#[rfl,rfl]:=cq e
 show#[p,t,S,s,x,ok,u,λi z H1 y g k=>l g k v λw j=>q i w H1 y g j]
noncomputable def Ep:Jt
 | [.int i]=>some (.int (if i<0 then -i else i))
 |_=>none
noncomputable def maxD:Jt
 | [.int i,.int j]=>some (.int (if j>i then j else i))
 |_=>none
noncomputable def minD:Jt
 | [.int i,.int j]=>some (.int (if j<i then j else i))
 |_=>none
noncomputable def intOfD:Jt
 | [.int i]=>some (.int i)
 | [.bl k]=>some (.int (if k then 1 else 0))
 |_=>none
def OM:FZ M (λxs H Q=>∃i,xs= [.int i]/\Q (.int (if i<0 then -i else i)) H) Ep:=by
 intro h S H xs d g Q j r e q
 unfold Ep at e
 split at e <;>cases e
 cases r with|cons r f=>cases f;cases r;show#[_,L,q _<|.int _]
def Pb:FZ M (λxs H Q=>∃i j,xs= [.int i,.int j]/\Q (.int (if j>i then j else i)) H) maxD:=by
 intro k S H xs d h Q l r e q
 unfold maxD at e
 split at e <;>cases e
 cases r with|cons r f=>cases f with|cons g f=>cases f;cases r;cases g;show#[_,_,L,q _<|.int _]
def Pg:FZ M (λxs H Q=>∃i j,xs= [.int i,.int j]/\Q (.int (if j<i then j else i)) H) minD:=by
 intro k S H xs d h Q l r e q
 unfold minD at e
 split at e <;>cases e
 cases r with|cons r f=>cases f with|cons g f=>cases f;cases r;cases g;show#[_,_,L,q _<|.int _]
def Me:FZ M (λxs H Q=>(∃i,xs= [.int i]/\Q (.int i) H)\/∃k,xs= [.bl k]/\Q (.int (if k then 1 else 0)) H) intOfD:=by
 intro h S H xs d g Q j r e q
 unfold intOfD at e
 split at e <;>cases e
 ·cases r with|cons r f=>cases f;cases r;show .inl #[_,L,q _<|.int _]
 ·cases r with|cons r f=>cases f;cases r;show .inr #[_,L,q _<|.int _]
noncomputable def iz:List D->Option (List V)
 | []=>some []
 |d::r=>(wL d).bind λv=>(iz r).bind λf=>some (v::f)
def t5(e:wL d=some v):gP v=true:=by
 cases d <;>simp[wL] at e <;>subst e <;>rfl
theorem kG:∀{ds:List D} {d vs:List V},bj M ρ H ds d->iz ds=some vs->d=vs/\vs.all gP=true
 |_,_,_,.nil,e=>by cases e;show#[L,L]
 | _,_,_,.cons h hs,e=>by
   let#[v,f,e]:=aq e
   let#[vs,j,e]:=aq e
   cases e
   let#[i,g]:=kG hs j
   rw[nQ h f,i]
   show#[L,by rw[List.all_cons,t5 f,g];rfl]
noncomputable def HX(d:Bool)(f:bp)(g:d0):bp:=λi S=>(f i S).bind λ(x,k)=>(g i k).bind λ(p,j)=>(wL x).bind λv=>(iz p.1).bind λh=>some (.bl (if d then !Ec v h else Ec v h),j)
def nI{t:TE}(g:∀d H Q,tD (md X) f d H Q->t d H Q)(h:PT X e (Gh t)):PT X e (tB (md X)<|aK f):=Ov h λd H Q ⟨j,n,S,k,i,ok,e,q⟩=>
 g _ _ _ #[j,n,S,.bl k,i,ok,t4 e,λl v p x o r=>by cases r;show#[k,L,q _ _ x o]]
def Jp:∀l H Q,tD (md X) (HX h f g) l H Q->GM (Pr X.K h) (tD (md X) f) (tQ (md X) g) l H Q:=λl H Q F=>by
 let#[G,n,S,d,W,ok,e,q]:=F
 let#[#[x,p],P,e]:=aq e
 let#[#[#[A,t],C],B,e]:=aq e
 let#[v,o,e]:=aq e
 let#[U,R,e]:=aq e
 let#[rfl,rfl]:=cq e
 show#[G,n,S,x,p,ok,P,λk u H1 r i w=>#[k,n,p,A,t,C,ok.to r i,B,λy a N H2 J j s M=>?_]]
 cases nQ w o
 let#[I,z]:=kG M R
 subst I
 show#[a,N,L,s.sq,t5 o,z,q _ _ _ (r.trans J) j<|.bl _]
def QM(h:PE X a (tD (md X) f))(i:PE X b (tQ (md X) g))(d:autoParam (behindInMarks .In b=false) db._auto_1):PT X (.Compare a [.In] [b] m) (tB (md X)<|aK<|HX false f g):=nI Jp (lU DU h i d)
def Os(h:PE X a (tD (md X) f))(i:PE X b (tQ (md X) g))(d:autoParam (behindInMarks .NotIn b=false) db._auto_1):PT X (.Compare a [.NotIn] [b] m) (tB (md X)<|aK<|HX true f g):=nI Jp (lU xm h i d)
inductive Out where
 |nx (Γ:cv) (S:aE)|bk (Γ:cv) (S:aE)|ct (Γ:cv) (S:aE)|rt (d:D) (S:aE)|rl (ds:List D) (S:aE)
abbrev cH:=cv->aE->Option Out
def xV(M:Md)(ρ:X7)(H:Hp)(D:Ends):Out->Prop
 |.nx f g=>∀b e c,bX ρ H b c->Ok M b f g e c->D.nx e c
 |.bk f g=>∀b e c,bX ρ H b c->Ok M b f g e c->D.bk e c
 |.ct f g=>∀b e c,bX ρ H b c->Ok M b f g e c->D.ct e c
 |.rt d g=>∀b v c,bX ρ H b c->fR M b g c->Rel M b c d v->D.rt v c
 |.rl i g=>∀b a h c,bX ρ H b c->fR M b g c->H a=none->a∉b->c a=some (.lst h)->bj M b c i h->D.rt (.ref a) c
def xV.to{H H1:Hp}{D:Ends}(h:xV M ρ H D o)(e:bX ρ H c H1):xV M c H1 D o:=by
 cases o with
 |nx=>show λb d f x ok=>h _ _ _ (e.trans x) ok
 |bk=>show λb d f x ok=>h _ _ _ (e.trans x) ok
 |ct=>show λb d f x ok=>h _ _ _ (e.trans x) ok
 |rt=>show λb v f x g r=>h _ _ _ (e.trans x) g r
 |rl=>show λb a l f x g i j k r=>h _ _ _ _ (e.trans x) g (e.grow _ i) j k r
def tS(M:Md)(g:cH):TS:=λD c H=>∃a b S o,Ok M a b S c H/\g b S=some o/\xV M a H D o
noncomputable def fQ:cH:=λd S=>some (.nx d S)
def Jz:rq X [] (tS (md X) fQ):=Nz GU λD g H ⟨d,f,S,o,ok,e,q⟩=>by cases e;show q _ _ _ bX.refl ok
noncomputable def aD(f g:cH):cH:=λi S=>(f i S).bind λo=>match o with
 |.nx d h=>g d h
 |o=>some o
def eT{X:Cx}{st:Stmt}{C:List Stmt}{f g:cH}(l:PS X st (tS (md X) f))(k:rq X C (tS (md X) g)):rq X (st::C) (tS (md X)<|aD f g):=Nz (FW l k) λD v H n=>by
 let#[p,r,S,o,ok,e,q]:=n
 let#[j,s,e]:=aq e
 show#[p,r,S,j,ok,s,?_]
 cases j with
 |nx i t=>show λd m H1 u h=>#[d,i,t,o,h,e,q.to u]
 |bk=>cases e;show q
 |ct=>cases e;show q
 |rt=>cases e;show q
 |rl=>cases e;show q
def qG{X:Cx}{st:Stmt}{f:cH}(d:PS X st (tS (md X) f)):rq X [st] (tS (md X) f):=HP d
noncomputable def never:cH:=λ_ _=>none
def Om{X:Cx}{st:Stmt}:PS X st (tS (md X) never):=CH Ed λD g H ⟨d,f,S,o,ok,e,q⟩=>by cases e
noncomputable def rj(f:bp):cH:=λd S=>(f d S).bind λ(_,g)=>some (.nx d g)
def vO{y:Pos}(h:PE X e (tD (md X) f))(l:autoParam (swapsWith e none y.line X.env=pure false) db._auto_1):PS X (.Expr e y) (tS (md X)<|rj f):=CH (Hm h l) λD p H i=>by
 let#[j,k,S,o,ok,e,q]:=i
 let#[#[d,n],m,e]:=aq e
 cases e
 show#[j,k,S,d,n,ok,m,λg v s x st r=>q _ _ _ x<|ok.to x st]
noncomputable def cB(f:bp):cH:=λh S=>(f h S).bind λ(d,g)=>some (.rt d g)
def BC(h:PE X e (tD (md X) f)):PS X (.Return (some e) y) (tS (md X)<|cB f):=CH (Ga h) λD m H i=>by
 let#[j,l,S,o,ok,e,q]:=i
 let#[#[d,k],g,e]:=aq e
 cases e
 show#[j,l,S,d,k,ok,g,q]
noncomputable def JL(f:fT):cH:=λg S=>(f g S).bind λ(h,d)=>some (.rl h d)
def OS(h:PE X e (tL (md X) f)):PS X (.Return (some e) y) (tS (md X)<|JL f):=CH (Ga h) λD m H i=>by
 let#[j,l,S,o,ok,e,q]:=i
 let#[#[d,k],g,e]:=aq e
 cases e
 show#[j,l,S,d,k,ok,g,q]
noncomputable def fK(c:iE)(f g:cH):cH:=λd S=>(c d S).bind λ(k,h)=>if k=true then f d h else g d h
def MU(u:PT X c (tB (md X) h))(t:rq X z (tS (md X) f))(n:rq X B (tS (md X) g)):PS X (.If c z B y) (tS (md X)<|fK h f g):=CH (Mf u t n) λD v H p=>by
 let#[r,l,S,o,ok,e,q]:=p
 let#[#[k,m],s,e]:=aq e
 show#[r,l,S,k,m,ok,s,λi H1 j d=>?_]
 dsimp only at e
 split at e
 ·rename_i c
  rw[Qhq c]
  show#[i,l,m,o,ok.to j d,e,q.to j]
 ·rename_i c
  rw[Quq c]
  show#[i,l,m,o,ok.to j d,e,q.to j]
abbrev mv:=D->cv->aE->Option (cv×aE)
abbrev qZ:=List D->cv->aE->Option (cv×aE)
def tG(M:Md)(g:mv):TG:=λv n H Q=>∃j m S d f l,Ok M j m S n H/\Rel M j H d v/\g d m S=some (f,l)/\∀h i k,bX j H h k->Ok M h f l i k->Q i k
def Od(M:Md)(g:qZ):Hh:=λn o H Q=>∃i l S m f k,Ok M i l S o H/\bj M i H m n/\g m l S=some (f,k)/\∀h d j,bX i H h j->Ok M h f k d j->Q d j
def OZ{t t':TG}(h:PG X e t)(w:∀v f H Q,t' v f H Q->t v f H Q):PG X e t':=λd s f H v u Q I r q=>h d s f H v u Q I r (w _ _ _ _ q)
def Mi{t t':Hh}(h:GN X es t)(w:∀v f H Q,t' v f H Q->t v f H Q):GN X es t':=λd s f H v u Q I r q=>h d s f H v u Q I r (w _ _ _ _ q)
noncomputable def bB(i:Nat):mv:=λd f S=>some (f.set i<|some d,S)
def FD(h:PG X e (oq i)):PG X e (tG (md X)<|bB i):=OZ h λv m H Q f=>by
 let#[k,l,S,d,g,j,ok,r,e,q]:=f
 cases e
 show q _ _ _ bX.refl #[ok.en.set r,ok.st]
noncomputable def di:qZ:=λd f S=>match d with
 | []=>some (f,S)
 |_=>none
noncomputable def aH(f:mv)(g:qZ):qZ:=λk j S=>match k with
 |d::r=>(f d j S).bind λ(h,i)=>g r h i
 | []=>none
def FR:GN X [] (Od (md X) di):=Mi GY λh l H Q d=>by
 let#[i,j,S,k,f,g,ok,r,e,q]:=d
 cases r with
 |nil=>cases e;show#[L,q _ _ _ bX.refl ok]
 |cons=>cases e
def rL(p:PG X e (tG (md X) f))(n:GN X es (Od (md X) g))(x:autoParam ((assignEach (e::es) X.env).map (·.2)=assign e X.env::(assignEach es X.env).map (·.2)) db._auto_1):GN X (e::es) (Od (md X)<|aH f g):=
 Mi (Gn p n x) λJ M H Q u=>by
  let#[v,w,S,K,k,F,ok,r,e,q]:=u
  cases r with
  |nil=>cases e
  | cons r s=>
    let#[#[d,l],G,e]:=aq e
    show#[_,_,L,v,w,S,_,d,l,ok,r,G,λi t H1 m j=>#[i,d,l,_,k,F,j,s.ext m,e,λo I H2 A h=>q _ _ _ (m.trans A) h]]
noncomputable def iy(g:qZ):mv:=λd f S=>match d with
 |.tup h=>g h f S
 |_=>none
noncomputable def nG(n:Nat)(g:qZ):qZ:=λd f S=>if d.length=n then g d f S else none
def JH{X:Cx}(s:X.calm=true)(h:GN X es (Od (md X) g))(o:autoParam ((assignEach es X.env).length=n) db._auto_1)(f:autoParam ((assignEach es X.env).findIdx? (·.1)=none) db._auto_1):
  PG X (.Tuple es k y) (tG (md X)<|iy<|nG n g):=OZ (Kr s h o f) λv t H Q ⟨l,m,S,d,i,p,ok,r,e,q⟩=>by
 cases r with
 | tup h j=>
   erw[iy,nG] at e
   split at e
   · rename_i c
     show#[_,_,L,gV.of h,by rw[<-j.length];show c,l,m,S,_,i,p,ok,j,e,q]
   · cases e
 |_=>cases e
noncomputable def lT(f:bp)(g:mv):cH:=λi S=>(f i S).bind λ(d,k)=>(g d i k).bind λ(h,j)=>some (.nx h j)
def Mq:∀D k H,tS (md X) (lT f g) D k H->Dm (tD (md X) f) (tG (md X) g) D k H:=λD k H w=>by
 let#[x,m,S,o,ok,e,q]:=w
 let#[#[d,n],F,e]:=aq e
 let#[#[l,u],t,e]:=aq e
 cases e
 show#[x,m,S,d,n,ok,F,λj v H1 p h r=>#[j,m,n,d,l,u,ok.to p h,r,t,λs G H2 A i=>q _ _ _ (p.trans A) i]]
def JB{y:Pos}(he:PE X e (tD (md X) f))(k:PG X d (tG (md X) g))(j:autoParam (swapsWithSole [d] e y.line X.env=pure false) db._auto_1)(h:autoParam (swappedStores [d] e X.env=pure none) db._auto_1)
  (i:autoParam ((assignEach [d] X.env).map (·.2)= [assign d X.env]) db._auto_1):PS X (.Assign [d] e y) (tS (md X)<|lT f g):=CH (Lb he k j h i) Mq
noncomputable def aV(i:Nat)(f:bp):cH:=λg S=>(f g S).bind λ(d,h)=>some (.nx (g.set i<|some d) h)
def Nc{X:Cx}{st:Stmt}{i:Nat}{f:bp}(h:PS X st (Dm (tD (md X) f)<|oq i)):PS X st (tS (md X)<|aV i f):=CH h λD t H m=>by
 let#[n,p,S,o,ok,e,q]:=m
 let#[#[d,s],r,e]:=aq e
 cases e
 show#[n,p,S,d,s,ok,r,λl v H1 j g k=>q _ _ _ j #[(ok.en.ext j).set k,g]]
abbrev uz:=cv->aE->Option ((List D×(aE->Prop))×aE)
def Walks(M:Md)(J:It)(ρ:X7)(H:Hp)(ds:List D)(W:aE->Prop):Prop:=∀(i:Nat) (f:X7) (j:aE) (h:Hp),bX ρ H f h->fR M f j h->W j->
 (∀d,ds[i]?=some d->J.go i h/\∀x g,J.yld i h x g->bX f h f g/\fR M f j g/\Rel M f g d x)/\(i=ds.length->J.stop i h)
def tI(M:Md)(f:uz):TI:=λl H R=>∃i j S k W h,Ok M i j S l H/\f j S=some ((k,W),h)/\∀d J g,bX i H d g->fR M d h g->Walks M J d g k W->R J g
def Oj{t t':TI}(h:PI X g e t)(w:∀f H R,t' f H R->t f H R):PI X g e t':=λd s f H R I q=>h d s f H R I (w _ _ _ q)
def KU(hl:PE X l r):PI X A l (λn H R=>r n H λx H1=>∃a,x=.ref a/\((∃xs,iX X.K H1 a xs)/\R (Qe X.K a) H1\/(∃xs,gV X.K H1 a xs)/\R (Qc X.K a) H1)):=by
 intro i s n H R I h
 show cO (hl i s n H _ I h) λv d F=>?_
 let#[x,H1,f,t,m]:=F
 let#[a,e,m]:=m
 subst e
 cases t
 rcases m with⟨⟨xs,k⟩,q⟩|⟨⟨xs,k⟩,q⟩
 ·let#[g,u,p,w]:=f.list k
  show wpAny_pyIter_list p.isList ?_
  show#[d.heap.objs.size,[d.heap.objs.size],_,_,H1,L,f.kept (t':=d.toks) λb o e=>Qcq _ e,CV a _,#[_,Qrq _ L,L,L],λb j=>?_,q]
  have e:b=d.heap.objs.size:=by simpa using j
  subst e
  show f.fpOk (Qmq _)<|f.hok.fresh<|Qmq _
 ·let#[g,u,p,w]:=f.tuple k
  show wpAny_pyIter_tuple (show d.heap.IsTuple a g.toArray from p) ?_
  show#[d.heap.objs.size,[d.heap.objs.size],_,_,H1,L,f.kept (t':=d.toks) λb o e=>Qcq _ e,Br a _,#[_,Qrq _ L,L,L],λb j=>?_,q]
  have e:b=d.heap.objs.size:=by simpa using j
  subst e
  show f.fpOk (Qmq _)<|f.hok.fresh<|Qmq _
noncomputable def gQ(f:d0):uz:=λh S=>(f h S).bind λ(p,g)=>some ((p.1,λd=>p.2.stays d p.1),g)
def N3{X:Cx}{P l:Expr}{f:d0}(hl:PE X l (tQ (md X) f)):PI X P l (tI (md X)<|gQ f):=Oj (KU hl) λσ H R Q=>by
 let#[U,Y,S,ds,W,S',ok,e,q]:=Q
 let#[#[#[A,t],S1],Z,e]:=aq e
 let#[M,rfl]:=cq e
 let#[rfl,rfl]:=Prod.mk.inj M
 show#[U,Y,S,A,t,S1,ok,Z,λK a J H' x st h r=>#[a,L,?_]]
 cases c:t.isL with
 | true=>
   show .inl #[#[J,h.sqL c],q _ _ _ x st λi s N H2 G j w=>?_]
   let#[g,u,n]:=h.to r G j w
   let k:=u.sqL c
   show#[λd p=>?_,λI=>#[g,k,by rw[I,n.length];show Qmq _]]
   let#[v,o,F]:=n.get p
   show#[#[g,v,k,o],λx H3 m=>?_]
   let#[rfl,m]:=m
   have:=m g k
   rw[o] at this
   cases this
   show#[bX.refl,j,F]
 | false=>
   show .inr #[#[J,h.sqT c],q _ _ _ x st λi s N H2 G j w=>?_]
   let#[g,u,n]:=h.to r G j w
   let k:=u.sqT c
   show#[λd p=>?_,λI=>#[g,k,by rw[I,n.length];show Qmq _]]
   let#[v,o,F]:=n.get p
   show#[#[g,v,k,o],λx H3 m=>?_]
   let#[rfl,m]:=m
   have:=m g k
   rw[o] at this
   cases this
   show#[bX.refl,j,F]
noncomputable def iG(lo hi:Int):List D:=(List.range (hi-lo).toNat).map λ(i:Nat)=>D.int (lo+(i:Int))
noncomputable def iH(f:bp):uz:=λh S=>(f h S).bind λ(d,g)=>match d with
 |.int j=>if -(2^62)<=j/\j<2^62 then some ((iG 0 j,λ_=>True),g) else none
 |_=>none
def vf{M:Md}{ρ:X7}{H:Hp}{lo hi:Int}:Walks M (MP lo (hi-lo).toNat) ρ H (iG lo hi) (λ_=>True):=λi j n H2 o f w=>by
 unfold iG
 show#[λd g=>?_,λhi=>by rw[lQm,QVq] at hi;show Nat.le_of_eq hi.symm]
 rw[gQm] at g
 let#[k,l,rfl]:=oQm.mp g
 let hl:=(gQs.mp l)
 let#[hl,h]:=hl
 rw[List.getElem_range] at h
 subst h
 rw[QVq] at hl
 show#[hl,λx H3 m=>?_]
 let#[rfl,rfl]:=m
 show#[bX.refl,f,.int _]
def OJ(k:Gl X "range")(t:X.mg "range"=none)(v:PE X a (tD (md X) f))(h:autoParam (starEach [a] X.env= [(false,eval a X.env)]) db._auto_1):PI X n (.Call (.Name "range" p) [a] [] y) (tI (md X)<|iH f):=
 Oj (DK k t (cQ v iQ h) h) λI H R o=>by
  let#[ρ,s,S,G,W,J,ok,e,q]:=o
  let#[#[d,w],u,e]:=aq e
  dsimp only at e
  split at e
  ·rename_i j
   split at e
   ·rename_i i
    let#[l,rfl]:=cq e
    let#[rfl,rfl]:=Prod.mk.inj l
    show#[ρ,s,S,[.int j],w,ok,by unfold ar av;rw[u];rfl,λg F A x st r=>?_]
    cases r with
    | cons r m=>
      cases m
      cases r
      show#[j,L,i.1,i.2,q _ _ _ x st ?_]
      have:=vf (M:=md X) (ρ:=g) (H:=A) (lo:=0) (hi:=j)
      rw[Int.sub_zero] at this
      show this
   ·cases e
  ·cases e
noncomputable def IS(f g:bp):uz:=λh S=>(f h S).bind λ(d,m)=>(g h m).bind λ(l,k)=>match d,l with
 |.int i,.int j=>if -(2^62)<=i/\i<2^62/\ -(2^62)<=j/\j<2^62 then some ((iG i j,λ_=>True),k) else none
 |_,_=>none
def PR{X:Cx}{y:Pos}{w a b:Expr}{f g:bp}{p:Pos}(t:Gl X "range")(I:X.mg "range"=none)(N:PE X a (tD (md X) f))(s:PE X b (tD (md X) g))(l:autoParam (starEach [a,b] X.env= [(false,eval a X.env),(false,eval b X.env)]) db._auto_1)(h:autoParam (starEach [b] X.env= [(false,eval b X.env)]) db._auto_1):PI X w (.Call (.Name "range" p) [a,b] [] y) (tI (md X)<|IS f g):=
 Oj (Di t I (cQ N (cQ s iQ h) (by rw[l,h])) l h) λU H R A=>by
  let#[F,G,S,Q,W,Y,ok,e,q]:=A
  let#[#[d,Z],J,e]:=aq e
  let#[#[m,v],u,e]:=aq e
  cases d with
  | int i=>
    cases m with
    | int j=>
      dsimp only at e
      split at e
      · rename_i M
        let#[K,rfl]:=cq e
        let#[rfl,rfl]:=Prod.mk.inj K
        show#[F,G,S,[.int i,.int j],v,ok,by erw[ar,av,J,Qbq,u],λo P H' x st r=>?_]
        cases r with
        | cons r k=>
          cases k with
          | cons n k=>
            cases k
            cases r
            cases n
            show#[i,j,L,M,q _ _ _ x st vf]
      · cases e
    |_=>cases e
  |_=>cases e
open Classical in
def forL(g:mv)(b:cH)(W:aE->Prop):List D->cv->aE->Option Out
 | [],Γ,S=>if W S then some (.nx Γ S) else none
 |d ::ds,Γ,S=>if W S then(g d Γ S).bind λ(i,j)=>(b i j).bind λo=>match o with
    |.nx f h=>forL g b W ds f h
    |.ct f h=>forL g b W ds f h
    |.bk f h=>some (.nx f h)
    |.rt x h=>some (.rt x h)
    |.rl x h=>some (.rl x h)
  else none
def ie(i:uz)(g:mv)(b:cH):cH:=λd S=>(i d S).bind λ(p,f)=>forL g b p.2 p.1 d f
def Nn{X:Cx}(hp:PassesOwn (model X.prog X.w) X.A X.env X.xe)(hc:X.calm=true)(hi:PI X tg j (tI (md X) i))(hg:PG X tg (tG (md X) g))(hb:rq X z (tS (md X) f))
  (hs:autoParam (∀x,foldedSetIterable j X.env x=pure x) dl._auto_1):PS X (.For tg j z [] y) (tS (md X)<|ie i g f):=CH (Kt hp hc hi hg hb hs) λD σ H ⟨ρ,Γ,S,o,ok,e,q⟩=>by
 let#[#[#[h,W],S1],e1,e]:=aq e
 show#[ρ,Γ,S,h,W,S1,ok,e1,λu J H1 x1 a3 wk=>?_]
 let U:=q.to x1
 let Y:=ok.to x1 a3
 show#[λi m t I=>m=h.length-i/\i<=h.length/\∃d r G,bX u H1 d I/\Ok (md X) d r G t I/\forL g f W (h.drop i) r G=some o,#[h.length,by simp,Nat.zero_le _,u,Γ,S1,bX.refl,Y,e],?_]
 rintro i m a5 H2 ⟨rfl,hi,d,r,G,x2,ok2,e2⟩
 by_cases v:i<h.length
 ·have hd:h[i]?=some h[i]:=gQe v
  rw[QWq v] at e2
  unfold forL at e2
  split at e2
  ·rename_i w
   let#[w1,w2]:=wk i d G H2 x2 ok2.st w
   let#[go,Z]:=w1 _ hd
   show .inr #[go,λt I=>∃n p R,bX u H1 n I/\Ok (md X) n p R t I/\forL g f W (h.drop (i+1)) p R=some o,λt I ⟨n,p,R,h1,h2,h3⟩=>#[h.length-(i+1),by omega,L,v,n,p,R,h1,h2,h3],λx H3 hy=>?_]
   let#[x3,a0,r3]:=Z x H3 hy
   let#[#[M,S4],e4,e5]:=aq e2
   show#[d,r,G,_,M,S4,ok2.to x3 a0,r3,e4,λa1 a4 H4 x4 a2=>?_]
   let#[o5,e6,K]:=aq e5
   let N:=(x2.trans x3).trans x4
   show#[a1,M,S4,o5,a2,e6,?_]
   cases o5 with
   |nx s F=>show λl P H6 Q k=>#[l,s,F,N.trans Q,k,K]
   |ct s F=>show λl P H6 Q k=>#[l,s,F,N.trans Q,k,K]
   |bk s F=>cases K;show λl P H6 Q k=>U _ _ _ (N.trans Q) k
   |rt d6 F=>cases K;show U.to N
   |rl d6 F=>cases K;show U.to N
  ·cases e2
 ·have e3:i=h.length:=by omega
  subst e3
  rw[List.drop_length] at e2
  unfold forL at e2
  split at e2
  ·rename_i w
   cases e2
   let#[w1,w2]:=wk h.length d G H2 x2 ok2.st w
   show .inl #[w2 L,U _ _ _ x2 ok2]
  ·cases e2
mutual
theorem Rel.off{H:Hp}(a:H b=some (.lst f)):∀{d:D} {v:V},Rel M ρ H d v->Rel M ρ (upd H b<|.lst ws) d v
 |_,_,.non=>.non
 |_,_,.bl x=>.bl x
 |_,_,.int i=>.int i
 |_,_,.str x=>.str x
 |_,_,.tup h hs=>.tup (by rw[bc (FG h a (by intro z;cases z))];show h) (bj.off a hs)
 |_,_,.ref h=>.ref h
 |_,_,.fn h=>.fn h
theorem bj.off{H:Hp}(a:H b=some (.lst f)):∀{ds:List D} {vs:List V},bj M ρ H ds vs->bj M ρ (upd H b<|.lst ws) ds vs
 |_,_,.nil=>.nil
 |_,_,.cons h hs=>.cons (Rel.off a h) (bj.off a hs)
end
theorem fR.off(st:fR M ρ S H)(e:H b=some (.lst f))(n:b∉ρ):fR M ρ S (upd H b (.lst ws)):=⟨st.len,st.nd,λk a o i m=>by
 let q:=st.obj k a o i m
 have g:a≠b:=λz=>n (z▸mQg i)
 cases o with
 |lst j=>let#[h,c,d]:=q;show#[h,by rw[bc g];show c,d.off e]
 |frz j=>let#[h,o,c,d]:=q;show#[h,o,by rw[bc g];show c,d.off e]
 |dct l=>let#[u,c,d]:=q;show#[u,by rw[bc g];show c,d.imp λ_ _ r=>r.off e]
 |sett j=>let#[p,s,c,d,t]:=q;show#[p,s,by rw[bc g];show c,d.off e,t]⟩
def En.off(h:En M ρ H a c)(j:H b=some (.lst f)):En M ρ (upd H b<|.lst ws) a c:=#[h.len,λi d q=>by let#[v,g,e]:=h.get i d q;show#[v,g,e.off j]]
def bX.off(e:bX d g ρ H)(i:g b=none)(u:HO):bX d g ρ (upd H b u):=⟨e.pre,e.new,λa o h c=>by rw[bc (eY h i)];show e.keep a o h c,λa h=>by
 by_cases z:a=b
 ·subst z;show i
 ·rw[bc z] at h;show e.grow a h⟩
noncomputable def mE(js:List (Option Nat))(a:cv):cv:=js.map λo=>o.bind λj=>a.getD j none
def En.sig(js:List (Option Nat))(h:En M ρ H a c):En M ρ H (mE js a) (kj js c) where
 len:=by unfold mE kj;rw[lQm,lQm]
 get:=λi d q=>by
  unfold mE at q
  unfold kj
  rw[gQm] at q|-
  cases e:js[i]? with
  |none=>rw[e] at q;cases q
  | some o=>
    rw[e] at q
    cases o with
    |none=>cases q
    | some j=>
      have b:a.getD j none=some d:=QdQ q
      have k:a[j]?=some (some d):=by
        rw[Qlq] at b
        cases z:a[j]? with
        |none=>rw[z] at b;cases b
        |some y=>rw[z] at b;show congrArg some b
      let#[v,g,f]:=h.get j d k
      show#[v,?_,f]
      show some (c.getD j none)=some (some v)
      rw[Qlq,g]
      rfl
open Classical in
def mG(g:mv)(t:iE)(f:bp)(W:aE->Prop):List D->cv->aE->List D->Option (List D×aE)
 | [],Γ,S,acc=>if W S then some (acc,S) else none
 |d ::ds,Γ,S,acc=>if W S then(g d Γ S).bind λ(a,e)=>(t a e).bind λ(k,b)=>
    if k=true then(f a b).bind λ(y,c)=>if acc.length<sizeLine then mG g t f W ds a c (acc++ [y]) else none
    else mG g t f W ds a b acc
  else none
def bx(js:List (Option Nat))(i:uz)(g:mv)(t:iE)(f:bp):fT:=λa S=>(i a S).bind λ(p,b)=>mG g t f p.2 p.1 (mE js a) b []
def Fx:∀σ H Q,tL M (bx js i g t f) σ H Q->Fv js (tI M i) (tG M g) (tB M t) (tD M f) σ H Q:=λσ H Q qq=>by
 let#[ρ,Γ,S,rs,S',ok,e,q]:=qq
 let#[#[#[j,W],S1],e1,e]:=aq e
 show#[ρ,Γ,S,j,W,S1,ok,e1,λl J H1 x1 R wk D K=>?_]
 have n1:D∉l:=cW x1 R K
 have a1:Ok M l (mE js Γ) S1 (kj js σ) (upd H1 D<|.lst []):=#[((ok.en.ext x1).ext (bX.laid K)).sig js,R.lay K]
 show⟨λi m B d=>m=j.length-i/\i<=j.length/\∃c s N b h,bX l H1 c d/\Ok M c s N B d/\D∉c/\d D=some (.lst h)/\bj M c d b h/\mG g t f W (j.drop i) s N b=some (rs,S'),
  #[j.length,by simp,Nat.zero_le _,l,_,S1,[],[],bX.laid K,a1,n1,bz,.nil,e],?_⟩
 rintro i m a8 H2 ⟨rfl,hi,c,s,N,b,h,x2,ok2,n2,hD2,racc,e2⟩
 by_cases G:i<j.length
 ·have hd:j[i]?=some j[i]:=gQe G
  rw[QWq G] at e2
  unfold mG at e2
  split at e2
  ·rename_i w
   let#[w1,w2]:=wk i c N H2 x2 ok2.st w
   let#[go,a2]:=w1 _ hd
   show .inr ⟨go,λB d=>∃a r A b h,bX l H1 a d/\Ok M a r A B d/\D∉a/\d D=some (.lst h)/\bj M a d b h/\mG g t f W (j.drop (i+1)) r A b=some (rs,S'),
    λB d ⟨a,r,A,b,h,h1,h2,h3,h4,h5,h6⟩=>#[j.length-(i+1),by omega,L,G,a,r,A,b,h,h1,h2,h3,h4,h5,h6],λx H3 hy=>?_⟩
   let#[x3,a3,r3]:=a2 x H3 hy
   let#[#[n,S4],e4,e5]:=aq e2
   show#[c,s,N,_,n,S4,ok2.to x3 a3,r3,e4,λa5 a7 H4 x4 p=>?_]
   let#[#[k,S5],e6,X]:=aq e5
   show#[a5,n,S4,k,S5,p,e6,λU H5 Y P=>?_]
   let o:=(x3.trans x4).trans Y
   have C:∀{a d},bX c H2 a d->d D=some (.lst h)/\D∉a:=λ{a d} x=>#[x.keep _ _ hD2<|.inl n2,λm=>(x.new _ m).elim n2 λz=>by rw[z] at hD2;cases hD2]
   dsimp only at X|-
   split at X
   ·rename_i ck
    rw[Qhq ck]
    let#[#[y,S6],e8,Z]:=aq X
    show#[U,n,S5,y,S6,p.to Y P,e8,λa0 v H6 x6 a4 r6=>?_]
    let I:=o.trans x6
    let#[u,n6]:=C I
    let F:=racc.ext I
    dsimp only at Z
    split at Z
    ·rename_i cl
     show#[h,u,by rw[<-racc.length];show cl,a0,n,S6,b++ [y],h++ [v],(x2.trans I).off K _,#[((p.en.ext Y).ext x6).off u,a4.off u n6],n6,bz,(F.append<|.cons r6 .nil).off u,Z]
    ·cases Z
   ·rename_i ck
    rw[Quq ck]
    let#[a6,n5]:=C o
    show#[U,n,S5,b,h,x2.trans o,p.to Y P,n5,a6,racc.ext o,X]
  ·cases e2
 ·have e3:i=j.length:=by omega
  subst e3
  rw[List.drop_length] at e2
  unfold mG at e2
  split at e2
  ·rename_i w
   let#[rfl,rfl]:=cq e2
   let#[w1,w2]:=wk j.length c N H2 x2 ok2.st w
   show .inl #[w2 L,q c D h H2 (x1.trans x2) ok2.st (x1.grow _ K) n2 hD2 racc]
  ·cases e2
noncomputable def bI:iE:=λ_ S=>some (true,S)
def Nh{t t':TT}(h:m6 X f t)(w:∀g H Q,t' g H Q->t g H Q):m6 X f t':=λd s g H Q I q=>h d s g H Q I (w _ _ _ q)
def Qj:m6 X [] (tB (md X) bI):=Nh Lq λh H Q ⟨f,g,S,k,d,ok,e,q⟩=>by cases e;show q _ _ bX.refl ok.st
def Qy(d:PT X c (tB (md X) f)):m6 X [c] (tB (md X) f):=KO d
def K_
  (S:aM X N js d n) (v:X.calm=true) (hi:PI X o h (tI (md X) i))
  (q:∀C s H fp,PG (aN X N d n C s H fp) o<|tG (md X) g) (ht:∀C s H fp,m6 (aN X N d n C s H fp) m<|tB (md X) t) (he:∀C s H fp,PE (aN X N d n C s H fp) k<|tD (md X) f)
  (u:autoParam (∀x,foldedSetIterable h X.env x=pure x) dl._auto_1):PE X (.ListComp k [⟨o,h,m,0⟩] d j) (tL (md X)<|bx js i g t f):=kr (Hv S v hi q ht he u) Fx
def Ks{u:Pos}
  (S:aM X N js h B) (hc:X.calm=true) (hi:PI X A k (tI (md X) i))
  (R:∀C s H fp,PG (aN X N h B C s H fp) A<|tG (md X) g) (ht:∀C s H fp,m6 (aN X N h B C s H fp) y<|tB (md X) t) (he:∀C s H fp,PE (aN X N h B C s H fp) w<|tD (md X) f) (F:PG X m (oq n))
  (hs:autoParam (∀x,foldedSetIterable k X.env x=pure x) dl._auto_1) (J:autoParam (swapsWithSole [m] (.ListComp w [⟨A,k,y,0⟩] h j) u.line X.env=pure true) db._auto_1)
  (W:autoParam ((assignEach [m] X.env).map (·.2)= [assign m X.env]) db._auto_1):PS X (.Assign [m] (.ListComp w [#[A,k,y,0]] h j) u) (tS (md X)<|aV n<|bA<|bx js i g t f):=
 CH (HY S hc hi R ht he F hs J W) λD σ H qq=>by
  let#[P,Γ,S,o,ok,e,q]:=qq
  let#[#[d,S1],e1,e]:=aq e
  cases e
  let#[#[M,S2],Y,e3]:=aq e1
  let#[rfl,rfl]:=cq e3
  show Fx σ H _ #[P,Γ,S,M,S2,ok,Y,λv a U Q x st Z nr ha rs=>?_]
  let G:=rs.pre (List.prefix_append v [a])
  let I:=st.box (o:=.lst M) nr #[U,ha,G]
  have K:bX P H (v++ [a]) Q:=⟨x.pre.trans (List.prefix_append _ _),λb z=>by
   rcases mQa.mp z with z|z
   ·show x.new b z
   ·rw[Qfq] at z;subst z;show .inr Z,x.keep,x.grow⟩
  show q (v++ [a]) _ Q K #[((ok.en.ext K).set (.ref ?_)),I]
  rw[<-st.len,QQq (Qmq _)]
  simp
noncomputable def Ay(c:iE)(b:cH):Nat->cv->aE->Option Out
 |0,_,_=>none
 |n +1,Γ,S=>(c Γ S).bind λ(k,g)=>if k=true then(b Γ g).bind λo=>match o with
    |.nx d f=>Ay c b n d f
    |.ct d f=>Ay c b n d f
    |.bk d f=>some (.nx d f)
    |.rt x f=>some (.rt x f)
    |.rl x f=>some (.rl x f)
  else some (.nx Γ g)
def Cn{X:Cx}(n:Nat)(hp:PassesOwn (model X.prog X.w) X.A X.env X.xe)(hc:PT X c (tB (md X) h))(hb:rq X l (tS (md X) f)):PS X (.While c l [] j) (tS (md X)<|Ay h f n):=CH (Gu hp hc hb) λD σ H qq=>by
 let#[Q,Γ,S,o,ok,e,q]:=qq
 show#[λm v B=>∃d g y,bX Q H d B/\Ok (md X) d g y v B/\Ay h f m g y=some o,#[n,Q,Γ,S,bX.refl,ok,e],?_]
 rintro m a0 H1 ⟨N,I,S1,x1,F,i⟩
 cases m with
 |zero=>cases i
 | succ m=>
   unfold Ay at i
   let#[#[k,U],e2,i]:=aq i
   show#[N,I,S1,k,U,F,e2,λK H2 Y M=>?_]
   dsimp only at i|-
   let C:=F.to Y M
   let s:=x1.trans Y
   split at i
   · rename_i P
     rw[Qhq P]
     let#[W,e3,i]:=aq i
     show#[λv B=>∃d g y,bX Q H d B/\Ok (md X) d g y v B/\Ay h f m g y=some o,λv B ⟨d,g,y,h1,Z,h3⟩=>#[m,Nat.lt_succ_self _,d,g,y,h1,Z,h3],K,I,U,W,C,e3,?_]
     cases W with
     |nx x z=>show λu J R G t=>#[u,x,z,s.trans G,t,i]
     |ct x z=>show λu J R G t=>#[u,x,z,s.trans G,t,i]
     |bk x z=>cases i;show λu J R G t=>q _ _ _ (s.trans G) t
     |rt d6 z=>cases i;show q.to s
     |rl d6 z=>cases i;show q.to s
   · rename_i P
     rw[Quq P]
     cases i
     show q _ _ _ s C
inductive Res where
 |d (x:D)|l (ds:List D)
abbrev dE:=List D->aE->Option (Res×aE)
def Kf(M:Md)(ρ:X7)(H b:Hp)(v:V):Res->Prop
 |.d x=>Rel M ρ b x v
 |.l e=>∃a c,v=.ref a/\H a=none/\a∉ρ/\b a=some (.lst c)/\bj M ρ b e c
def eM(M:Md)(n:Nat)(F:dE):Sp:=λf H Q _=>∃c S d r e,d.length=n/\bj M c H d f/\fR M c S H/\F d S=some (r,e)/\∀a v b,bX c H a b->fR M a e b->Kf M a H b v r->Q v b
mutual
noncomputable def cn(m:Nat):D->Bool
 |.ref k=>decide (k<m)
 |.tup a=>bP m a
 |_=>true
noncomputable def bP(m:Nat):List D->Bool
 | []=>true
 |d::ds=>cn m d&&bP m ds
end
noncomputable def ID(m:Nat):O->Bool
 |.lst a=>bP m a
 |.frz a=>bP m a
 |.dct b=>bP m (b.map (·.2))
 |.sett a=>bP m a
mutual
theorem Rel.cut(e:ρ <+: f):∀{d:D} {v:V},Rel M f H d v->cn ρ.length d=true->Rel M ρ H d v
 |_,_,.non,_=>.non
 |_,_,.bl x,_=>.bl x
 |_,_,.int i,_=>.int i
 |_,_,.str x,_=>.str x
 |_,_,.tup h hs,b=>.tup h (bj.cut e hs (by simpa [cn] using b))
 | _,_,.ref (k:=k) (a:=a) h,b=>.ref (by
   let#[t,rfl]:=e
   have c:k<ρ.length:=by simpa [cn] using b
   rwa [QHq c] at h)
 |_,_,.fn h,_=>.fn h
theorem bj.cut(e:ρ <+: f):∀{ds:List D} {vs:List V},bj M f H ds vs->bP ρ.length ds=true->bj M ρ H ds vs
 |_,_,.nil,_=>.nil
 | _,_,.cons h hs,b=>by
   let a:=b
   erw[bP,QDq,QCq] at a
   show .cons (Rel.cut e h a.1) (bj.cut e hs a.2)
end
theorem cf.cut(e:ρ <+: f):∀{l:List (Key×D)} {kv:List (Key×V)},cf M f H l kv->bP ρ.length (l.map (·.2))=true->cf M ρ H l kv
 | [],_,h,_=>h
 | (_,_)::_,_,#[v,t,q,h,hs],b=>by
   let a:=b
   erw[bP,QDq,QCq] at a
   show#[v,t,q,h.cut e a.1,cf.cut e hs a.2]
theorem oF.cut(e:ρ <+: f)(h:oF M f H a o)(b:ID ρ.length o=true):oF M ρ H a o:=by
 cases o with
 |lst i=>let#[g,d,c]:=h;show#[g,d,c.cut e b]
 |frz i=>let#[g,o,d,c]:=h;show#[g,o,d,c.cut e b]
 |dct j=>let#[k,d,c]:=h;show#[k,d,c.cut e b]
 |sett i=>let#[n,l,d,c,m]:=h;show#[n,l,d,c.cut e b,m]
mutual
theorem Rel.low:∀{d:D} {v:V},Rel M ρ H d v->cn ρ.length d=true
 |_,_,.non=>rfl
 |_,_,.bl x=>rfl
 |_,_,.int i=>rfl
 |_,_,.str x=>rfl
 |_,_,.tup h hs=>by erw[cn];show bj.low hs
 |_,_,.ref h=>by erw[cn];show Qeq (gQs.mp h).1
 |_,_,.fn h=>rfl
theorem bj.low:∀{ds:List D} {vs:List V},bj M ρ H ds vs->bP ρ.length ds=true
 |_,_,.nil=>rfl
 |_,_,.cons h hs=>by erw[bP];rw[Rel.low h,bj.low hs];rfl
end
theorem cf.low:∀{l:List (Key×D)} {kv:List (Key×V)},cf M ρ H l kv->bP ρ.length (l.map (·.2))=true
 | [],_,_=>rfl
 |(_,_)::_,_,#[v,t,q,h,hs]=>by erw[QDq,bP];rw[h.low,cf.low hs];rfl
theorem oF.low(h:oF M ρ H a o):ID ρ.length o=true:=by
 cases o with
 |lst d=>let#[g,c,b]:=h;show b.low
 |frz d=>let#[g,o,c,b]:=h;show b.low
 |dct e=>let#[i,c,b]:=h;show b.low
 |sett d=>let#[l,j,c,b,k]:=h;show b.low
def oS(S a:aE):Prop:=S.length<=a.length/\∀k o,k<S.length->a[k]?=some o->S[k]?=some o\/ID S.length o=true
open Classical in
def settle(S:aE)(d:D)(a:aE):Option (Res×aE):=if oS S a then match d with
  | .ref k=>if k<S.length then some (.d (.ref k),a.take S.length) else match a[k]? with
    |some (.lst ds)=>if bP S.length ds=true then some (.l ds,a.take S.length) else none
    |_=>none
  |d=>if cn S.length d=true then some (.d d,a.take S.length) else none
 else none
open Classical in
def fG(S:aE)(ds:List D)(a:aE):Option (Res×aE):=if oS S a/\bP S.length ds=true then some (.l ds,a.take S.length) else none
noncomputable def fj(n:Nat)(b:cH):dE:=λc S=>(b (c.map some++List.replicate (n-c.length) none) S).bind λo=>match o with
 |.nx _ a=>settle S .non a
 |.rt d a=>settle S d a
 |.rl l a=>fG S l a
 |_=>none
noncomputable def JX(n:Nat)(b:cH):dE:=λc S=>(b (c.map some++List.replicate (n-c.length) none) S).bind λo=>match o with
 |.nx _ a=>some (.d .non,a)
 |.rt d a=>some (.d d,a)
 |.rl l a=>some (.l l,a)
 |_=>none
def fR.clean(st:fR M ρ S H)(x:bX ρ H b e)(i:fR M b j e)(c:oS S j):fR M ρ (j.take S.length) e/\bX ρ H ρ e:=by
 show#[#[?_,st.nd,λk a o g f=>?_],List.prefix_refl _,λ_ h=>.inl h,x.keep,x.grow]
 ·rw[Qxq,st.len]
  have:=c.1
  omega
 ·have l:k<ρ.length:=(gQs.mp g).1
  have d:k<S.length:=st.len▸l
  rw[List.getElem?_take_of_lt d] at f
  show(i.obj k a o (cK x.pre g) f).cut x.pre ?_
  rcases c.2 k o d f with z|z
  ·show(st.obj k a o g z).low
  ·rw[st.len];show z
def vg(st:fR M ρ S H)(x:bX ρ H b g)(f:fR M b t g)(l:Rel M b g d v)(e:settle S d t=some (r,h)):
  bX ρ H ρ g/\fR M ρ h g/\Kf M ρ H g v r:=by
 unfold settle at e
 split at e
 ·rename_i c
  let#[o,q]:=st.clean x f c
  cases d with
  | ref k=>
    dsimp only at e
    split at e
    · rename_i n
      let#[rfl,rfl]:=cq e
      show#[q,o,l.cut x.pre (by erw[cn];rw[st.len];show Qeq n)]
    · rename_i n
      split at e
      · rename_i B A
        split at e
        · rename_i i
          let#[rfl,rfl]:=cq e
          cases l with
          | ref p=>
            rename_i a
            let#[y,z,w]:=f.obj k a _ p A
            have s:a∉ρ:=λm=>by
              let#[j,u]:=List.getElem?_of_mem m
              have:=iu f.nd (cK x.pre u) p
              subst this
              show n (st.len▸(gQs.mp u).1)
            show#[q,o,a,y,L,(x.new a<|mQg p).resolve_left s,s,z,w.cut x.pre (by rw[st.len];show i)]
        · cases e
      · cases e
  | _=>
    dsimp only at e
    split at e
    · rename_i i
      let#[rfl,rfl]:=cq e
      show#[q,o,l.cut x.pre (by rw[st.len];show i)]
    · cases e
 ·cases e
def Bf(st:fR M ρ S H)(x:bX ρ H b d)(g:fR M b h d)(fr:H a=none)(j:a∉b)(l:d a=some (.lst vs))(i:bj M b d ds vs)(e:fG S ds h=some (r,f)):
  bX ρ H ρ d/\fR M ρ f d/\Kf M ρ H d (.ref a) r:=by
 unfold fG at e
 split at e
 ·rename_i c
  let#[k,n]:=st.clean x g c.1
  let#[rfl,rfl]:=cq e
  show#[n,k,a,vs,L,fr,λm=>j<|x.pre.subset m,l,i.cut x.pre (by rw[st.len];show c.2)]
 ·cases e
def yC{N:X6}(r:bj M ρ H ds vs):En M ρ H (ds.map some++List.replicate (N.length-ds.length) none) (L2.start N vs) where
 len:=by unfold L2.start;simp[r.length]
 get:=λi d q=>by
  unfold L2.start
  by_cases c:i<ds.length
  ·rw[QHq (by rw[lQm];show c),gQm] at q
   let#[g,e,a]:=oQm.mp q
   cases a
   let#[v,f,b]:=r.get e
   show#[v,by rw[QHq (by rw[lQm,<-r.length];show c),gQm,f];rfl,b]
  ·rw[QQq (by rw[lQm];omega)] at q
   have:=mQg q
   rw[List.mem_replicate] at this
   cases this.2
def bu{P:X9}{w:Xc}{K:X1}{g:X3}{c:Xe}{x i:Str}{st:Stmt}{f:X8}{I:FuncData}{N ps:X6}{k:Nat}{b:cH}(F:eQ K x i st f I)(S:aJ N ps (aC st))
  (m:∀(j:Xd) (A:X_) (h:List Env) (s:X4) (H:Hp) (E:XK),eP k (A.deeper (envOfC i (aC st) s.heap.objs.size f j))->
   rq (zX dX P w K g c N i (aC st) f j A h s H E).nox (eW st) (tS #[K,g] b)):bC P w K g c dX (k+1) f I ps (eM #[K,g] ps.length (fj N.length b)):=by
 show F.ok S (λJ H Q E ⟨R,S,Y,r,S',M,C,_⟩=>by rw[<-C.length];show M) λj A h s H J Q E hr ⟨R,S,Y,r,S',M,C,z,X,q⟩=>#[_,m j A h s H E hr,?_]
 let#[o,e1,e]:=aq X
 show#[R,_,S,o,#[yC C,z],e1,?_]
 cases o with
 |nx a1 U=>show λn a0 W t G=>by let#[u,p,y]:=vg z t G.st .non e;show q _ _ _ u p y
 |rt d U=>show λn v W t l B=>by let#[u,p,y]:=vg z t l B e;show q _ _ _ u p y
 |rl d U=>show λn a J W t l Z na ha B=>by let#[u,p,y]:=Bf z t l Z na ha B e;show q _ _ _ u p y
 |bk=>cases e
 |ct=>cases e
def E5{P:X9}{w:Xc}{K:X1}{g:X3}{c:Xe}{x i:Str}{st:Stmt}{f:X8}{B:FuncData}{N ps:X6}{k:Nat}{b:cH}(F:eQ K x i st f B)(S:aJ N ps (aC st))
  (m:∀(j:Xd) (A:X_) (h:List Env) (s:X4) (H:Hp) (E:XK),eP k (A.deeper (envOfC i (aC st) s.heap.objs.size f j))->
   rq (zX dX P w K g c N i (aC st) f j A h s H E).nox (eW st) (tS #[K,g] b)):bC P w K g c dX (k+1) f B ps (eM #[K,g] ps.length (JX N.length b)):=by
 show F.ok S (λy H Q E ⟨G,S,R,r,S',C,u,_⟩=>by rw[<-u.length];show C) λj A h s H y Q E X ⟨G,S,R,r,S',C,u,Y,M,q⟩=>#[_,m j A h s H E X,?_]
 let#[o,e1,e]:=aq M
 show#[G,_,S,o,#[yC u,Y],e1,?_]
 cases o with
 |nx a0 I=>cases e;show λn Z J p z=>q _ _ _ p z.st .non
 |rt d I=>cases e;show λn v J p l t=>q _ _ _ p l t
 |rl d I=>cases e;show λn a y J p l U W ha t=>q _ _ _ p l #[a,y,L,U,W,ha,t]
 |bk=>cases e
 |ct=>cases e
noncomputable def aA(F:dE)(g:fT):bp:=λi S=>(g i S).bind λ(j,h)=>(F j h).bind λ(r,a)=>match r with
 |.d x=>some (x,a)
 |.l _=>none
noncomputable def dU(F:dE)(g:fT):fT:=λj S=>(g j S).bind λ(a,i)=>(F a i).bind λ(r,h)=>match r with
 |.d _=>none
 |.l a=>some (a,h)
def nA(n:Nat)(g:fT):Prop:=∀h S a d,g h S=some (a,d)->a.length=n
def AJ:nA 0 av:=λ_ _ _ _ e=>by cases e;rfl
def mh{n:Nat}{f:bp}{g:fT}(h:nA n g):nA (n+1) (ar f g):=λq S r j e=>by
 let#[#[d,o],m,e]:=aq e
 let#[#[i,l],a,e]:=aq e
 cases e
 rw[Qnq,h _ _ _ _ a]
def Cg(G:nA n g):∀m H Q,tD M (aA F g) m H Q->EH (eM M n F) [] E0 (zV M g) m H Q:=λm H Q z=>by
 let#[A,B,S,d,N,ok,e,q]:=z
 let#[#[j,s],o,e]:=aq e
 let#[#[r,y],w,e]:=aq e
 show#[A,B,S,j,s,ok,o,λi K H1 J a t=>#[i,s,j,r,y,G _ _ _ _ o,by rw[List.append_nil];show t,a,w,λu v H2 C h I=>?_]]
 cases r with
 |d x=>let#[rfl,rfl]:=cq e;show q _ _ _ (J.trans C) h I
 |l j=>cases e
def GW(K:nA n g):∀o H Q,tL M (dU F g) o H Q->EH (eM M n F) [] E0 (zV M g) o H Q:=λo H Q C=>by
 let#[G,I,S,d,P,ok,e,q]:=C
 let#[#[m,t],s,e]:=aq e
 let#[#[r,B],A,e]:=aq e
 show#[G,I,S,m,t,ok,s,λj z H1 u h w=>#[j,t,m,r,B,K _ _ _ _ s,by rw[List.append_nil];show w,h,A,λy v H2 J i N=>?_]]
 cases r with
 |d x=>cases e
 | l m=>
   let#[rfl,rfl]:=cq e
   let#[a,z,rfl,fr,na,ha,rr]:=N
   show q _ _ _ _ (u.trans J) i (u.grow _ fr) na ha rr
def LI{X:Cx}(G:bC X.prog X.w X.K X.mg X.base dX k f c ps (eM (md X) n F))(j:eP k X.A)(m:Gl X x)(d:X.mg x=some (.ref f))(h:PySem.W.keepIn X.K (.ref f)=true)(l:Binds X.K c ps [])(i:PA X (e::es) (zV (md X) g))(o:nA n g)
  (a:autoParam ((x==("__debug__":Str))=false) cU._auto_1) (he:autoParam (starEach (e::es) X.env=(false,eval e X.env)::starEach es X.env) db._auto_1) (hpl:autoParam ((backTo b<|starEach es X.env).any (·.1)=false) db._auto_1):
  PE X (.Call (.Name x p) (e::es) [] b) (tD (md X)<|aA F g):=kr (CG G j m d h l .nil Ei i a he hpl) (Cg o)
def JQ{X:Cx}(G:bC X.prog X.w X.K X.mg X.base dX k f c ps (eM (md X) n F))(j:eP k X.A)(m:Gl X x)(d:X.mg x=some (.ref f))(h:PySem.W.keepIn X.K (.ref f)=true)(l:Binds X.K c ps [])(i:PA X (e::es) (zV (md X) g))(o:nA n g)
  (a:autoParam ((x==("__debug__":Str))=false) cU._auto_1) (he:autoParam (starEach (e::es) X.env=(false,eval e X.env)::starEach es X.env) db._auto_1) (hpl:autoParam ((backTo b<|starEach es X.env).any (·.1)=false) db._auto_1):
  PE X (.Call (.Name x p) (e::es) [] b) (tL (md X)<|dU F g):=kr (CG G j m d h l .nil Ei i a he hpl) (GW o)
noncomputable def fZ(xs:List α)(lo hi:Xb):List α:=(xs.drop<|HT.dQ xs.length 0 lo).take (HT.dQ xs.length xs.length hi-HT.dQ xs.length 0 lo)
def bj.cut3{M:Md}{ρ:X7}{H:Hp}{ds:List D}{vs:List V}{lo hi:Xb}(h:bj M ρ H ds vs):bj M ρ H (fZ ds lo hi) (xP vs lo hi):=by
 unfold fZ xP
 rw[h.length]
 show(h.drop _).take _
def HW{α:Type}{xs:List α}{lo hi:Xb}(b:HT.dQ xs.length 0 lo=0)(a:HT.dQ xs.length xs.length hi=xs.length):fZ xs lo hi=xs:=by
 unfold fZ
 rw[b,a]
 simp
abbrev Iu:=cv->aE->Option (Option Int×aE)
def LV(M:Md)(f:Iu):TO:=λg H Q=>∃d e S o c,Ok M d e S g H/\f e S=some (o,c)/\∀a b,bX d H a b->fR M a c b->Q o b
noncomputable def jP:Iu:=λ_ S=>some (none,S)
noncomputable def jJ(f:bp):Iu:=λh S=>(f h S).bind λ(d,g)=>match d with
 |.int i=>some (some i,g)
 |_=>none
def Qo{t t':TO}(h:PO X o t)(w:∀f H Q,t' f H Q->t f H Q):PO X o t':=λd s f H Q I q=>h d s f H Q I (w _ _ _ q)
def PU:PO X none (LV (md X) jP):=Qo I0 λh H Q ⟨f,g,S,o,d,ok,e,q⟩=>by cases e;show q _ _ bX.refl ok.st
def OB(h:PE X e (tD (md X) f)):PO X (some e) (LV (md X)<|jJ f):=Qo (Ir h) λp H Q i=>by
 let#[k,l,S,o,s,ok,e,q]:=i
 let#[#[d,n],m,e]:=aq e
 dsimp only at e
 split at e
 ·let#[rfl,rfl]:=cq e
  show#[k,l,S,_,n,ok,m,λg v t x st r=>?_]
  cases r
  show#[_,L,q _ _ x st]
 ·cases e
noncomputable def tH(f:bp)(lo hi:Iu):bp:=λg S=>(f g S).bind λ(d,m)=>(lo g m).bind λ(l,i)=>(hi g i).bind λ(h,k)=>match d with
 |.tup n=>some (.tup (fZ n l h),k)
 |_=>none
def N_{X:Cx}{e:Expr}{j:Pos}{lo hi:Option Expr}{J:Pos}{f:bp}{l h:Iu}(he:PE X e (tD (md X) f))(hl:PO X lo (LV (md X) l))(U:PO X hi (LV (md X) h)):PE X (.Subscript e (.Slice lo hi none J) j) (tD (md X)<|tH f l h):=
 kr (yq Hr he hl U) λσ H Q P=>by
  let#[R,t,S,d,S',ok,e,q]:=P
  let#[#[x,F],Y,e]:=aq e
  let#[#[G,B],N,e]:=aq e
  let#[#[z,W],Z,e]:=aq e
  cases x with
  | tup A=>
    dsimp only at e
    let#[rfl,rfl]:=cq e
    show#[R,t,S,_,F,ok,Y,λr v H1 w g K=>#[r,t,F,G,B,ok.to w g,N,λn H2 u o=>#[n,t,B,z,W,(ok.to w g).to u o,Z,λM H3 y i=>?_]]]
    let k:=(w.trans u).trans y
    let I:=K.ext (u.trans y)
    cases I with
    | tup C m=>
      show#[_,_,L,gV.of C,λc=>?_,λc p s=>?_]
      · have:fZ A G z=A:=HW (by rw[m.length];show c.1) (by rw[m.length];show c.2)
        rw[this] at q
        show q _ _ _ k i<|.tup C m
      · show q _ _ _ (k.trans<|bX.laid s) (i.lay s)<|.tup bz (m.cut3.ext<|bX.laid s)
  |_=>cases e
open Classical in
def uD(f:d0)(lo hi:Iu):fT:=λd S=>(f d S).bind λ(p,k)=>(lo d k).bind λ(l,i)=>(hi d i).bind λ(h,g)=>if p.2.isL=true/\p.2.stays g p.1 then some (fZ p.1 l h,g) else none
def Oe{X:Cx}{e:Expr}{j:Pos}{lo hi:Option Expr}{B:Pos}{f:d0}{l h:Iu}(he:PE X e (tQ (md X) f))(hl:PO X lo (LV (md X) l))(P:PO X hi (LV (md X) h)):PE X (.Subscript e (.Slice lo hi none B) j) (tL (md X)<|uD f l h):=
 kr (yq IY he hl P) λσ H Q M=>by
  let#[N,s,S,d,S',ok,e,q]:=M
  let#[#[#[J,t],z],W,e]:=aq e
  let#[#[Z,y],K,e]:=aq e
  let#[#[F,U],Y,e]:=aq e
  dsimp only at e
  split at e
  ·rename_i c
   let#[rfl,rfl]:=cq e
   show#[N,s,S,J,t,z,ok,W,λr a vs H1 w k G C=>#[r,s,z,Z,y,ok.to w k,K,λn H2 u o=>#[n,s,y,F,U,(ok.to w k).to u o,Y,λI H3 x g=>?_]]]
   let i:=(w.trans u).trans x
   let#[v,R,A]:=G.to C (u.trans x) g c.2
   show#[_,v,L,R.sqL c.1,λp m=>?_]
   show q _ _ _ _ (i.trans<|bX.laid m) (g.lay m) (i.grow _ m) (cW i g m) bz<|A.cut3.ext<|bX.laid m
  ·cases e
open Classical in
def w_(f g:d0):fT:=λh S=>(f h S).bind λ(p,i)=>(g h i).bind λ(r,d)=>if p.2.isM=true/\r.2.isM=true/\p.2.stays d p.1/\p.1.length+r.1.length<=sizeLine then some (p.1++r.1,d) else none
def P1(U:PE X a (tQ (md X) f))(A:PE X b (tQ (md X) g)):PE X (.BinOp a .Add b j) (tL (md X)<|w_ f g):=kr (oo LL U A) λY H Q K=>by
 let#[M,r,S,d,Z,ok,e,q]:=K
 let#[#[#[F,t],v],R,e]:=aq e
 let#[#[#[N,x],J],I,e]:=aq e
 dsimp only at e
 split at e
 ·rename_i c
  let#[rfl,rfl]:=cq e
  show#[M,r,S,F,t,v,ok,R,λm a W H1 w l C z=>#[m,r,v,N,x,J,ok.to w l,I,λB b G H2 s h y u=>?_]]
  let#[n,P,o]:=C.to z s h c.2.2.1
  let i:=w.trans s
  show#[_,_,n,G,L,L,P.sqM c.1,y.sqM c.2.1,by rw[<-o.length,<-u.length];show c.2.2.2,λp k=>?_]
  show q _ _ _ _ (i.trans<|bX.laid k) (h.lay k) (i.grow _ k) (cW i h k) bz ((o.append u).ext (bX.laid k))
 ·cases e
open Classical in
def Eo(f:d0)(g:bp):fT:=λh S=>(f h S).bind λ(p,i)=>(g h i).bind λ(r,d)=>match r with
 |.int k=>if p.2.isM=true/\p.2.stays d p.1/\ -(2^63)<=k/\k<2^63/\p.1.length*k.toNat<=sizeLine then some ((List.replicate k.toNat p.1).flatten,d) else none
 |_=>none
def Ql(R:PE X a (tQ (md X) f))(A:PE X b (tD (md X) g)):PE X (.BinOp a .Mult b j) (tL (md X)<|Eo f g):=kr (oo Lg R A) λW H Q J=>by
 let#[K,u,S,d,Y,ok,e,q]:=J
 let#[#[#[F,t],x],P,e]:=aq e
 let#[#[r,I],G,e]:=aq e
 cases r with
 | int k=>
   dsimp only at e
   split at e
   · rename_i c
     let#[rfl,rfl]:=cq e
     show#[K,u,S,F,t,x,ok,P,λn a U H1 y m C z=>#[n,u,x,_,I,ok.to y m,G,λB w H2 v h N=>?_]]
     let#[o,M,s]:=C.to z v h c.2.1
     let i:=y.trans v
     cases N
     show#[_,k,o,L,L,M.sqM c.1,c.2.2.1,c.2.2.2.1,by rw[<-s.length];show c.2.2.2.2,λp l=>?_]
     show q _ _ _ _ (i.trans<|bX.laid l) (h.lay l) (i.grow _ l) (cW i h l) bz ((s.rep _).ext (bX.laid l))
   · cases e
 |_=>cases e
open Classical in
def eqQ(d:Bool)(f g:d0):bp:=λl S=>(f l S).bind λ(p,m)=>(g l m).bind λ(r,h)=>if p.2.isL=true/\r.2.isL=true/\p.2.stays h p.1 then(iz p.1).bind λi=>(iz r.1).bind λk=>some (.bl (if d then !Eb i k else Eb i k),h) else none
def N9:∀n H Q,tD (md X) (eqQ i f g) n H Q->GM (K7 X.K i) (tQ (md X) f) (tQ (md X) g) n H Q:=λn H Q G=>by
 let#[I,o,S,d,Z,ok,e,q]:=G
 let#[#[#[B,t],r],P,e]:=aq e
 let#[#[#[J,u],F],C,e]:=aq e
 dsimp only at e
 split at e
 ·rename_i c
  let#[us,R,e]:=aq e
  let#[Y,U,e]:=aq e
  let#[rfl,rfl]:=cq e
  show#[I,o,S,B,t,r,ok,P,λm a W H1 s l A x=>#[m,o,r,J,u,F,ok.to s l,C,λy b z H2 p h w N=>?_]]
  let#[k,M,v]:=A.to x p h c.2.2
  let#[rfl,f1]:=kG v R
  let#[rfl,f2]:=kG N U
  show#[a,b,k,z,L,L,M.sqL c.1,w.sqL c.2.1,f1,f2,q _ _ _ (s.trans p) h<|.bl _]
 ·cases e
def Qu{X:Cx}(h:X.A.units<cLine)(d:PE X a (tQ (md X) f))(i:PE X b (tQ (md X) g)):PT X (.Compare a [.Eq] [b] j) (tB (md X)<|aK<|eqQ false f g):=nI N9 (lU (JT h) d i<|kZ _)
open Classical in
def fO(f:d0):bp:=λg S=>(f g S).bind λ(p,d)=>if p.2.isL=true/\p.2.stays d p.1 then some (.bl (!p.1.isEmpty),d) else none
def IV:∀l H Q,tD (md X) (fO f) l H Q->GM (Es X.K) (tQ (md X) f) (tL (md X)<|bq av) l H Q:=λl H Q y=>by
 let#[z,n,S,d,M,ok,e,q]:=y
 let#[#[#[x,t],m],C,e]:=aq e
 dsimp only at e
 split at e
 ·rename_i c
  let#[rfl,rfl]:=cq e
  show#[z,n,S,x,t,m,ok,C,λk a F H1 p i w s=>#[k,n,m,[],m,ok.to p i,L,λv b G H2 o g I J u B=>?_]]
  let#[h,A,r]:=w.to s o g c.2
  cases B
  show#[a,b,h,L,L,A.sqL c.1,iX.of u,?_]
  rw[<-r.isEmpty]
  show q _ _ _ (p.trans o) g<|.bl _
 ·cases e
def MS:PE X (.List [] j) (tL (md X)<|bq av):=Fy iQ
def Oa{X:Cx}(d:X.A.units<cLine)(g:PE X a (tQ (md X) f)):PT X (.Compare a [.NotEq] [.List [] p] j) (tB (md X)<|aK<|fO f):=nI IV (lU (E2 d) g MS<|kZ _)
def fR.putL{M:Md}{ρ:X7}{S:aE}{H:Hp}{k:Nat}{a:X8}{ds es:List D}{ws:List V}(st:fR M ρ S H)(d:ρ[k]?=some a)(f:S[k]?=some (.lst ds))(r:bj M ρ H es ws):fR M ρ (S.set k<|.lst es) (upd H a<|.lst ws)/\bX ρ H ρ (upd H a<|.lst ws):=by
 let#[i,g,l]:=st.obj k a _ d f
 show st.put d f #[ws,bz,r.off g] λx h=>by rw[g] at h;cases h;show id
noncomputable def Ad(m:List D->List D->Option (List D×D))(f:bp)(g:fT):bp:=λl S=>(f l S).bind λ(x,i)=>match x with
 | .ref k=>(g l i).bind λ(n,h)=>match i[k]?,h[k]? with
   |some (.lst _),some (.lst ds)=>(m ds n).bind λ(o,d)=>some (d,h.set k<|.lst o)
   |_,_=>none
 |_=>none
def Ma(M:Md)(r:V->List V->Hp->VK->Prop)(m:List D->List D->Option (List D×D)):Prop:=∀{f:X7} {H:Hp} {a:X8} {n i l:List D} {d:D} {k h:List V} {Q:VK},H a=some (.lst k)->bj M f H n k->bj M f H i h->m n i=some (l,d)->
 (∀g w,bj M f H l g->Rel M f H d w->Q w (upd H a<|.lst g))->r (.ref a) h H Q
def Pt(U:Ma (md X) r m):∀u H Q,tD (md X) (Ad m f g) u H Q->Oc X.K "list" r (tD (md X) f) (zV (md X) g) u H Q:=λu H Q Y=>by
 let#[Z,z,S,d,S',ok,e,q]:=Y
 let#[#[x,C],e1,e]:=aq e
 cases x with
 | ref k=>
   dsimp only at e
   let#[#[ys,R],P,e]:=aq e
   dsimp only at e
   split at e
   · rename_i J ds t l
     let#[#[es,d'],e3,e]:=aq e
     let#[rfl,rfl]:=cq e
     show#[Z,z,S,_,C,ok,e1,λs v H1 F h I=>?_]
     cases I with
     | ref B=>
       rename_i a
       let#[o,W,_]:=h.obj k a _ B t
       show#[.inl #[L,o,iX.of W],s,z,C,ys,R,ok.to F h,P,λM us H2 A i r2=>?_]
       let n:=cK A.pre B
       let#[vs,N,G]:=i.obj k a _ n l
       show U N G r2 e3 λws w rw rd=>?_
       let#[p,y]:=i.putL n l rw
       show q _ _ _ ((F.trans A).trans y) p<|rd.ext y
   · cases e
 |_=>cases e
noncomputable def lg:List D->List D->Option (List D×D):=λd f=>match f with
 | [y]=>if d.length<sizeLine then some (d++ [y],.non) else none
 |_=>none
def Lo:Ma M CC lg:=by
 intro n H a p m o d h l Q k g f e q
 unfold lg at e
 split at e
 ·split at e
  ·rename_i hl
   let#[rfl,rfl]:=cq e
   cases f with
   | cons f i=>
     cases i
     show#[a,h,_,L,L,k,by rw[<-g.length];show hl,q _ _ (g.append<|.cons f .nil) .non]
  ·cases e
 ·cases e
def zS{h d:Pos}(n:PE X o (tD (md X) f))(p:PE X e (tD (md X) g))(i:autoParam (attributeBase o "append" X.env (eval o X.env)=eval o X.env) db._auto_1) (l:autoParam (((backTo d (starEach [e] X.env)).all (λx=> !x.1)&&(backToKw d (keywordEach [] X.env)).all (λx=>x.1.isSome)
   &&decide ([e].length+([]:List Keyword).length+(if ([]:List Keyword).isEmpty then 0 else 1)<30))=true) db._auto_1)
  (k:autoParam ((h.endLine==d.line)=true) db._auto_1) (m:autoParam (starEach [e] X.env= [(false,eval e X.env)]) db._auto_1):PE X (.Call (.Attribute o "append" h) [e] [] d) (tD (md X)<|Ad lg f<|ar g av):=
 kr (yr PySem.F.plainAttrs_list PySem.F.slot_list_append PySem.F.type_list_append pP n (cQ p iQ m) i l k m) (Pt Lo)
noncomputable def wg(f:bp)(g:d0):bp:=λi S=>(f i S).bind λ(x,h)=>match x with
 | .ref k=>(g i h).bind λ(p,d)=>match h[k]?,d[k]? with
   |some (.lst _),some (.lst ds)=>if p.2.isM=true/\ds.length+p.1.length<=sizeLine then some (.non,d.set k<|.lst (ds++p.1)) else none
   |_,_=>none
 |_=>none
def NG:∀s H Q,tD (md X) (wg f g) s H Q->Oc X.K "list" Co (tD (md X) f) (Ff (tQ (md X) g) Hk) s H Q:=λs H Q W=>by
 let#[Y,w,S,d,S',ok,e,q]:=W
 let#[#[x,B],e1,e]:=aq e
 cases x with
 | ref k=>
   dsimp only at e
   let#[#[#[ys,t],R],P,e]:=aq e
   dsimp only at e
   split at e
   · rename_i I ds r j
     split at e
     · rename_i c
       let#[rfl,rfl]:=cq e
       show#[Y,w,S,_,B,ok,e1,λp v H1 C h G=>?_]
       cases G with
       | ref A=>
         rename_i a
         let#[n,U,_]:=h.obj k a _ A r
         show#[.inl #[L,n,iX.of U],p,w,B,ys,t,R,ok.to C h,P,λJ b us H2 y i F z=>?_]
         let m:=cK y.pre A
         let#[N,Z,u]:=i.obj k a _ m j
         show#[a,b,N,us,L,L,Z,F.sqM c.1,by rw[<-u.length,<-z.length];show c.2,?_]
         let#[o,M]:=i.putL m j (u.append z)
         show q _ _ _ ((C.trans y).trans M) o .non
     · cases e
   · cases e
 |_=>cases e
def Mk{h d:Pos}(n:PE X o (tD (md X) f))(p:PE X e (tQ (md X) g))(i:autoParam (attributeBase o "extend" X.env (eval o X.env)=eval o X.env) db._auto_1) (k:autoParam (((backTo d (starEach [e] X.env)).all (λx=> !x.1)&&(backToKw d (keywordEach [] X.env)).all (λx=>x.1.isSome)
   &&decide ([e].length+([]:List Keyword).length+(if ([]:List Keyword).isEmpty then 0 else 1)<30))=true) db._auto_1)
  (j:autoParam ((h.endLine==d.line)=true) db._auto_1) (m:autoParam (starEach [e] X.env= [(false,eval e X.env)]) db._auto_1):PE X (.Call (.Attribute o "extend" h) [e] [] d) (tD (md X)<|wg f g):=
 kr (yr PySem.F.plainAttrs_list PySem.F.slot_list_extend PySem.F.type_list_extend C_ n (dD p gh m) i k j m) NG
noncomputable def J7(f g:bp):mv:=λd h S=>(f h S).bind λ(x,n)=>(g h n).bind λ(y,m)=>match x,y with
 | .ref k,.int i=>match m[k]? with
   |some (.lst ds)=>(GL ds.length i).bind λj=>some (h,m.set k<|.lst (ds.set j d))
   |_=>none
 |_,_=>none
def PP:∀v t H Q,tG (md X) (J7 f g) v t H Q->M3 (tD (md X) f) (tD (md X) g) JJ v t H Q:=λv t H Q N=>by
 let#[P,z,S,d,Z,S',ok,r,e,q]:=N
 let#[#[x,F],W,e]:=aq e
 let#[#[y,M],K,e]:=aq e
 cases x with
 | ref k=>
   cases y with
   | int i=>
     dsimp only at e
     split at e
     · rename_i ds A
       let#[j,Y,e]:=aq e
       let#[rfl,rfl]:=cq e
       show#[P,z,S,_,F,ok,W,λs v1 H1 G o n=>#[s,z,F,_,M,ok.to G o,K,λI v2 H2 B h U=>?_]]
       cases U
       let n:=n.ext B
       cases n with
       | ref C=>
         let#[J,R,w]:=h.obj k _ _ C A
         let m:=G.trans B
         let#[p,u]:=h.putL C A (bj.set (r.ext m) j w)
         show#[_,J,i,j,L,L,R,by rw[<-w.length];show Y,q _ _ _ (m.trans u) ((ok.to m h).to u p)]
     · cases e
   |_=>cases e
 |_=>cases e
def Qi(d:PE X o (tD (md X) f))(hi:PE X i (tD (md X) g))
  (h:autoParam (∀v,assign (.Subscript o i l) X.env v=(do
   let ov<-holding [v] (eval o X.env)
   let iv<-holding [v,ov] (eval i X.env)
   standAt l
   holding [v,ov,iv] (setItem ov iv v)
   release [v,ov,iv] [])) dl._auto_1):PG X (.Subscript o i l) (tG (md X) (J7 f g)):=OZ (J1 d hi set_list h) PP
noncomputable def vW(i j:Nat)(f:fT):cH:=λd S=>(f d S).bind λ(h,g)=>match h with
 | [v,w]=>some (.nx ((d.set i<|some v).set j (some w)) g)
 |_=>none
def CK{X:Cx}{st:Stmt}{i j:Nat}{f:fT}(h:PS X st (MA i j<|zV (md X) f)):PS X st (tS (md X)<|vW i j f):=CH h λD w H m=>by
 let#[n,p,S,o,ok,e,q]:=m
 let#[#[v,t],s,e]:=aq e
 dsimp only at e
 split at e
 ·cases e
  show#[n,p,S,_,t,ok,s,λk u y x st r=>?_]
  cases r with
  | cons r d=>
    cases d with
    | cons g d=>
      cases d
      show#[_,_,L,q _ _ _ x #[((ok.en.ext x).set r).set g,st]]
 ·cases e
noncomputable def dZ(cells:List (Str×Addr)):List (Str×NameKind)->List (Str×Addr)->List (Str×Addr)
 | [],acc=>acc
 |(n,k)::r,acc=>if (k==.free)=true then dZ cells r ((n,(cells.lookup n).getD 0)::acc) else dZ cells r acc
theorem qi{env:Env}:∀(b:List (Str×NameKind)) (d:List (Str×Addr)),(∀y∈b,y.2=.free->(env.cells.lookup y.1).isSome=true)->
  (forIn b d λ(x:Str×NameKind) (g:List (Str×Addr))=>(do
   if (x.2==NameKind.free)=true then do
    let c<-cellOf env x.1
    pure (ForInStep.yield ((x.1,c)::g))
   else pure (ForInStep.yield g):Sem (ForInStep (List (Str×Addr)))))=(pure (dZ env.cells b d):Sem _)
 | [],d,_=>rfl
 | (n,k)::r,d,h=>by
   rw[List.forIn_cons]
   unfold dZ
   by_cases c:(k==NameKind.free)=true
   · let#[a,f]:=Option.isSome_iff_exists.mp (h (n,k) QBq (by simpa using c))
     erw[c,if_true]
     have i:cellOf env n=pure a:=by
       unfold cellOf
       rw[f]
     rw[i,pure_bind,pure_bind,f]
     show qi r _ λy e=>h y (Qpq _ e)
   · erw[c,Bool.false_eq_true,if_false]
     rw[pure_bind]
     show qi r _ λy e=>h y (Qpq _ e)
def GK{a:Scope}{env:Env}(h:∀y∈a.names,y.2=.free->(env.cells.lookup y.1).isSome=true):closureFor a env=pure (dZ env.cells a.names []):=by
 unfold closureFor
 have:=qi a.names [] h
 rw[bind_pure]
 show this
theorem sS:∀(a:List (Str×NameKind)) (b:List (Str×Addr)) (p:Str×Addr),p∈dZ cells a b->p∈b\/∃n,(n,NameKind.free)∈a/\p=(n,(cells.lookup n).getD 0)
 | [],b,p,h=>.inl h
 | (n,k)::r,b,p,h=>by
   unfold dZ at h
   split at h
   · rename_i c
     rcases sS r _ p h with h|⟨m,e,d⟩
     · rcases Qsq.mp h with h|h
       · show .inr #[n,by rw[show k=NameKind.free by simpa using c];show QBq,h]
       · show .inl h
     · show .inr #[m,Qpq _ e,d]
   · rcases sS r _ p h with h|⟨m,e,d⟩
     · show .inl h
     · show .inr #[m,Qpq _ e,d]
theorem uf:∀(a:List (Str×NameKind)) (b:List (Str×Addr)),((x,NameKind.free)∈a\/∃c,(x,c)∈b)->∃c,(x,c)∈dZ cells a b
 | [],b,h=>by
   rcases h with h|h
   · cases h
   · show h
 | (n,k)::r,b,h=>by
   unfold dZ
   split
   · rename_i c
     show uf r _ ?_
     rcases h with h|⟨c,h⟩
     · rcases Qsq.mp h with h|h
       · cases h;show .inr #[_,QBq]
       · show .inl h
     · show .inr #[c,Qpq _ h]
   · rename_i c
     show uf r _ ?_
     rcases h with h|h
     · rcases Qsq.mp h with h|h
       · cases h;show absurd L c
       · show .inl h
     · show .inr h
theorem mP:∀{l:List (Str×Addr)},(x,c)∈l->∃a,l.lookup x=some a
 | [],h=>by cases h
 | (n,d)::r,h=>by
   unfold List.lookup
   by_cases e:(x==n)=true
   · rw[e];show#[d,L]
   · have b:(x==n)=false:=by simpa using e
     rw[b]
     rcases Qsq.mp h with h|h
     · cases h;simp at e
     · show mP h
noncomputable def sX(c:X6)(a:Str->Option NameKind)(b:List (Str×NameKind)):List (Option Nat)->List Str->Bool
 |some j::js,x::N=>(c[j]? ==some x)&&(a x==some .cell||a x==some .free)&&(b.lookup x==some .free)&&sX c a b js N
 |none::js,_::N=>sX c a b js N
 |_,_=>true
theorem r9:∀{js:List (Option Nat)} {N:X6} {k j:Nat} {x:Str},sX c a b js N=true->js[k]?=some (some j)->N[k]?=some x->c[j]?=some x/\(a x=some .cell\/a x=some .free)/\b.lookup x=some .free
 | some i::js,y::N,0,j,x,h,h1,h2=>by
   cases h1
   cases h2
   erw[sX,QCq,Bool.or_eq_true,beq_iff_eq] at h
   show#[h.1.1.1,h.1.1.2,h.1.2]
 | some i::js,y::N,k+1,j,x,h,h1,h2=>by
   erw[sX,QCq] at h
   show r9 h.2 (by simpa using h1) (by simpa using h2)
 |none::js,y::N,0,j,x,h,h1,h2=>by cases h1
 |none::js,y::N,k+1,j,x,h,h1,h2=>r9 (k:=k) (by simpa [sX] using h) (by simpa using h1) (by simpa using h2)
 | [],N,k,j,x,h,h1,h2=>by simp at h1
 |some i::js,[],k,j,x,h,h1,h2=>by simp at h2
 |none::js,[],k,j,x,h,h1,h2=>by simp at h2
theorem ou{env:Env}:∀{a:List (Str×NameKind)},a.lookup x=some .free->(a.map λ(n,k)=>if (k==NameKind.free&&env.scope.kind==.function&&env.kindOf n==some .cell) then(n,NameKind.cell) else(n,k)).lookup x=some .cell∨
  (a.map λ(n,k)=>if (k==NameKind.free&&env.scope.kind==.function&&env.kindOf n==some .cell) then(n,NameKind.cell) else(n,k)).lookup x=some .free
 | [],h=>by cases h
 | (n,k)::r,h=>by
   unfold List.lookup at h
   rw[QDq]
   by_cases e:(x==n)=true
   · rw[e] at h
     cases h
     dsimp only
     split
     · left;unfold List.lookup;rw[e]
     · right;unfold List.lookup;rw[e]
   · have b:(x==n)=false:=by simpa using e
     rw[b] at h
     let c:=ou (env:=env) h
     dsimp only
     split <;>(unfold List.lookup;rw[b];show c)
def aM.gen{X:Cx}{d:Scope}(k:d.kind=.function)(o:d.names.all (λy=>y.2 !=.cell)=true)(r:d.names.all (λy=>y.2 !=.local||d.names.lookup y.1==some .local)=true)
  (p:d.names.all (λy=>y.2 !=.free||(X.env.cells.lookup y.1).isSome)=true) (u:sX X.N X.env.kindOf d.names js N=true) (v:js.length=N.length):aM X N js d (dZ X.env.cells d.names []) where
 kind:=k
 nocell:=λy f=>by
  have:=QUq.mp o y f
  simpa using this
 names:=λy f e=>by
  have:=QUq.mp r y f
  rw[e] at this
  simpa using this
 clos:=GK λy f e=>by
  have:=QUq.mp p y f
  rw[e] at this
  simpa using this
 sub:=λx c h=>by
  rcases sS _ _ _ (PySem.mem_of_lookup h) with h|⟨n,m,e⟩
  ·cases h
  ·cases e
   have:=QUq.mp p _ m
   have w:(X.env.cells.lookup x).isSome=true:=by simpa using this
   let#[c,g]:=Option.isSome_iff_exists.mp w
   rw[g]
   rfl
 has:=λx h=>by
  have l:(x,NameKind.free)∈d.names:=by
   have:∃k,(relabel d X.env).names.lookup x=some k/\(k=.cell\/k=.free):=by
    rcases h with h|h
    ·show#[_,h,.inl L]
    ·show#[_,h,.inr L]
   let#[B,s,g]:=this
   let q:=PySem.mem_of_lookup s
   unfold relabel at q
   let#[#[n,t],f,i]:=Qkq.mp q
   dsimp only at i
   split at i
   ·rename_i c
    cases i
    erw[QCq] at c
    have:t=NameKind.free:=by simpa using c.1.1
    rw[<-this]
    show f
   ·cases i
    rcases g with z|z
    ·have:=QUq.mp o _ f
     rw[z] at this
     simp at this
    ·rw[<-z];show f
  let#[c,g]:=uf (cells:=X.env.cells) d.names [] (.inl l)
  show mP g
 cap:=λk j x A m=>by
  let#[a,b,c]:=r9 u A m
  show#[a,b,?_]
  unfold relabel
  show ou c
 len:=v
structure ft(P:X9)(w:Xc)(K:X1)(mg:X3)(base:Xe)(k:Nat)(x:Str)(ps:X6)(F:dE):Prop where
 ex:∃f fd,bC P w K mg base dX k f fd ps (eM #[K,mg] ps.length F)/\Binds K fd ps []/\PySem.W.keepIn K (.ref f)=true/\mg x=some (.ref f)
def N8{X:Cx}(C:ft X.prog X.w X.K X.mg X.base k x ps F)(i:eP k X.A)(j:Gl X x)(h:PA X (e::es) (zV (md X) g))(l:nA ps.length g)
  (c:autoParam ((x==("__debug__":Str))=false) cU._auto_1) (he:autoParam (starEach (e::es) X.env=(false,eval e X.env)::starEach es X.env) db._auto_1) (hpl:autoParam ((backTo a<|starEach es X.env).any (·.1)=false) db._auto_1):
  PE X (.Call (.Name x p) (e::es) [] a) (tD (md X)<|aA F g):=by
 let#[f,o,G,b,d,m]:=C.ex
 show LI G i j m d b h l c he hpl
def Mp{X:Cx}(C:ft X.prog X.w X.K X.mg X.base k x ps F)(i:eP k X.A)(j:Gl X x)(h:PA X (e::es) (zV (md X) g))(l:nA ps.length g)
  (c:autoParam ((x==("__debug__":Str))=false) cU._auto_1) (he:autoParam (starEach (e::es) X.env=(false,eval e X.env)::starEach es X.env) db._auto_1) (hpl:autoParam ((backTo a<|starEach es X.env).any (·.1)=false) db._auto_1):
  PE X (.Call (.Name x p) (e::es) [] a) (tL (md X)<|dU F g):=by
 let#[f,o,G,b,d,m]:=C.ex
 show JQ G i j m d b h l c he hpl
def ft.mono{P:X9}{w:Xc}{K:X1}{c:X3}{a:Xe}{j k:Nat}{x:Str}{ps:X6}{F:dE}(C:ft P w K c a j x ps F)(h:j<=k):ft P w K c a k x ps F:=by
 let#[f,d,G,b,e,m]:=C.ex
 show#[f,d,G.mono h,b,e,m]
structure Bl(mg:X3):Prop where
 len:mg "len"=none
 tuple:mg "tuple"=none
 list:mg "list"=none
 dict:mg "dict"=none
 set:mg "set"=none
 int:mg "int"=none
 str:mg "str"=none
 bool:mg "bool"=none
 all:mg "all"=none
 any:mg "any"=none
 range:mg "range"=none
 zip:mg "zip"=none
 sorted:mg "sorted"=none
 isi:mg "isinstance"=none
 min:mg "min"=none
 max:mg "max"=none
 abs:mg "abs"=none
 enum:mg "enumerate"=none
 reversed:mg "reversed"=none
open AutoSeq1 in
def nZ(l:X8)(items:Xa)(n:Nat)(b:X8)(a:Xa)(o:Nat)(m:Option Addr)(sl:Array (Option Value))(k:¬(!items.isEmpty&&Builtin.List.listTooLong (items.size+a.size))=true)(c:items.size<=sizeLine)(e:items.size+a.size<=sizeLine+1):
  Meets (Builtin.«list.extend» #[[.ref l,.ref b],[]]) (λ_ R s=>s.heap.get? l=some {cls:=.type "list",dict:=none,data:=.seq items n,slots:= (List.toArray [])}/\s.heap.get? b=some {cls:=.type "tuple",dict:=m,data:=.seq a o,slots:=sl}/\R (.ok (.ret Value.none)) {s with heap:=s.heap.update l (Obj.mapSeq λx=>x++a),toks:=s.toks}):=
 .of_wp λi w A R s h=>by
  let#[t,g,d,p,q]:=s;let#[hl,j,h]:=h;let r:=idx_int;let v:=AutoSeq1.sub_tuple_tuple;let z:=AutoSeq1.sub_list_list;let y:=AutoSeq1.sub_tuple_list;let u:=AutoSeq1.sub_list_tuple;
  have f:(items++a).size<=sizeLine+1:=by rw[Array.size_append];show e
  wp_walk using (wpAny_updateSeq hl L (hz:=c) (_hz':=f)),AutoSeq1.wpAny_loadPart' hl,AutoSeq1.wpAny_loadPart' j;show#[_,L,h]
def HA:PQ X "list.extend" (λx vs H Q=>∃l b xs i,x=.ref l/\vs= [.ref b]/\H l=some (.lst xs)/\gV X.K H b i/\xs.length+i.length<=sizeLine/\Q .non (upd H l<|.lst (xs++i))):=by
 intro m s P H x vs v R Q I J B h
 let#[l,b,xs,i,rfl,rfl,hH,hB,hz,q]:=h
 cases J
 let#[u,rfl,ru]:=B.one
 cases ru
 let#[z,f,n,r,hl,e]:=I.lstM hH
 let#[d,o,#[#[t,M,w,sl],C,p,N,k],G]:=I.tuple hB
 let y:=o.length
 simp only at p k
 subst p k
 have j:f.toArray.size+d.toArray.size<=sizeLine:=by rw[Qjq,Qjq];omega
 have g:¬(!f.toArray.isEmpty&&Builtin.List.listTooLong (f.toArray.size+d.toArray.size))=true:=by
  rw[tF j,Bool.and_false]
  show Qtq
 show call_meets F.slot_list_extend #[_,e,L] F.entry_list_extend (F.args_list_extend_2 _ _)
  (nZ l f.toArray n b d.toArray N M sl g (by rw[Qjq];omega) (!0)) #[e,C,?_]
 show#[.non,_,I.lset (its':=f++d) hH e (by simp) (r.append o) ?_,L,q]
 rw[lQa]
 omega
noncomputable def vb(f:bp)(g:d0):bp:=λi S=>(f i S).bind λ(x,h)=>match x with
 | .ref k=>(g i h).bind λ(p,d)=>match h[k]?,d[k]? with
   |some (.lst _),some (.lst ds)=>if p.2.isL=false/\ds.length+p.1.length<=sizeLine then some (.non,d.set k<|.lst (ds++p.1)) else none
   |_,_=>none
 |_=>none
def JU:∀u H Q,tD (md X) (vb f g) u H Q->Oc X.K "list" (λx vs H Q=>∃l b xs o,x=.ref l/\vs= [.ref b]/\H l=some (.lst xs)/\gV X.K H b o/\xs.length+o.length<=sizeLine/\Q .non (upd H l<|.lst (xs++o))) (tD (md X) f) (Ff (tQ (md X) g) Hk) u H Q:=λu H Q Y=>by
 let#[Z,y,S,d,S',ok,e,q]:=Y
 let#[#[x,F],e1,e]:=aq e
 cases x with
 | ref k=>
   dsimp only at e
   let#[#[#[ys,t],U],R,e]:=aq e
   dsimp only at e
   split at e
   · rename_i M ds s j
     split at e
     · rename_i c
       let#[rfl,rfl]:=cq e
       show#[Z,y,S,_,F,ok,e1,λr v H1 G h J=>?_]
       cases J with
       | ref C=>
         rename_i a
         let#[n,W,_]:=h.obj k a _ C s
         show#[.inl #[L,n,iX.of W],r,y,F,ys,t,U,ok.to G h,R,λN b us H2 z i I B=>?_]
         let m:=cK z.pre C
         let#[vs,h3,w]:=i.obj k a _ m j
         show#[a,b,vs,us,L,L,h3,I.sqT c.1,by rw[<-w.length,<-B.length];show c.2,?_]
         let#[p,P]:=i.putL m j (w.append B)
         show q _ _ _ ((G.trans z).trans P) p .non
     · cases e
   · cases e
 |_=>cases e
def LS{h d:Pos}(m:PE X o (tD (md X) f))(n:PE X e (tQ (md X) g))(i:autoParam (attributeBase o "extend" X.env (eval o X.env)=eval o X.env) db._auto_1) (k:autoParam (((backTo d (starEach [e] X.env)).all (λx=> !x.1)&&(backToKw d (keywordEach [] X.env)).all (λx=>x.1.isSome)
   &&decide ([e].length+([]:List Keyword).length+(if ([]:List Keyword).isEmpty then 0 else 1)<30))=true) db._auto_1)
  (j:autoParam ((h.endLine==d.line)=true) db._auto_1) (l:autoParam (starEach [e] X.env= [(false,eval e X.env)]) db._auto_1):PE X (.Call (.Attribute o "extend" h) [e] [] d) (tD (md X)<|vb f g):=
 kr (yr PySem.F.plainAttrs_list PySem.F.slot_list_extend PySem.F.type_list_extend HA m (dD n gh l) i k j l) JU
noncomputable def oE(x:V):List V->Option Nat
 | []=>none
 |y::r=>if qX y x=true then some 0 else(oE x r).map (·+1)
theorem B7:∀{xs:List V} {j:Nat},oE x xs=some j->(∃y,xs[j]?=some y/\qX y x=true)/\∀m y,m<j->xs[m]?=some y->qX y x=false
 | [],_,h=>by cases h
 | y::r,j,h=>by
   unfold oE at h
   split at h
   · rename_i c
     cases h
     show#[#[y,L,c],λm _ d=>absurd d<|Nat.not_lt_zero _]
   · rename_i c
     let#[i,n,rfl]:=oQm.mp h
     let#[#[z,k,g],l]:=B7 n
     show#[#[z,by simpa using k,g],λm w d f=>?_]
     cases m with
     |zero=>cases f;simpa using c
     |succ m=>show l m w (!0) (by simpa using f)
def Fe:NW X "list.index" (λx vs H Q=>∃a xs y j,x=.ref a/\vs= [y]/\iX X.K H a xs/\gP y=true/\xs.all gP=true/\oE y xs=some j/\Q (.int (j:Nat)) H):=by
 intro G s σ H x vs v us Q I rx U h
 let#[a,xs,y,j,rfl,rfl,hq,fy,fs,hj,q]:=h
 cases rx
 let#[u,rfl,ru]:=U.one
 let#[f,r,Y,hz]:=I.list hq
 let#[#[N,dd,R,sl],n,e,J,g,C]:=Y
 simp only at J g C
 subst J g C
 let#[#[z,t,P],Z]:=B7 hj
 let hl:=r.length
 have S:j<xs.length:=(gQs.mp t).1
 let#[w,B,p]:=r.get t
 have i:f.toArray[j]'(by rw[Qjq];omega)=w:=by
  have:=(gQs.mp B).2
  simpa using this
 let M:=lM
 show call_meets PySem.F.slot_list_index #[_,e,L] PySem.F.entry_list_index (PySem.F.args_list_index_2 _ _)
  (SeqAt.list_indexAt a f.toArray n none sl u (z_ y) j (by rw[Qjq];omega) (!0) (by rw[i,wZ p (QUq.mp fs z<|mQg t)];show P) λm hm k=>?_)
  #[e,λw B=>jm ru fy r fs w (by simpa using B),#[.int j,H,I.tok _,#[_,L],q]]
 have d:m<xs.length:=by rw[Qjq] at hm;omega
 let#[w2,l,o]:=r.get (gQe d)
 have W:f.toArray[m]=w2:=by
  have:=(gQs.mp l).2
  simpa using this
 rw[W,wZ o (QUq.mp fs _<|List.getElem_mem d)]
 show Z m _ k<|gQe d
end DL
namespace Zq
open PySem
def It(t:Bool)(h:Xe)(i a:X8)(k:Nat):Prop:=if t=true then h.IsTupleIter i a k else h.IsListIter i a k
def Sq(t:Bool)(h:Xe)(a:X8)(xs:Xa):Prop:=if t=true then h.IsTuple a xs else h.IsList a xs
theorem It.at{h':Xe}(g:It t h i a k)(f:∀o,h.get? i=some o->h'.get? i=some o):It t h' i a k:=by
 cases t with
 |true=>show(show h.IsTupleIter i a k from g).at f
 |false=>show(show h.IsListIter i a k from g).at f
def It.ext(g:It t h i a k)(f:Heap.ExtBut c h h')(n:i≠c):It t h' i a k:=g.at λo e=>f i o n e
def Sq.at{h':Xe}(g:Sq t h a xs)(f:∀o,h.get? a=some o->h'.get? a=some o):Sq t h' a xs:=by
 cases t with
 |true=>let#[o,e,r]:=(show h.IsTuple a xs from g);show(show h'.IsTuple a xs from#[o,f o e,r])
 |false=>let#[o,e,r]:=(show h.IsList a xs from g);show(show h'.IsList a xs from#[o,f o e,r])
def Sq.ext(g:Sq t h a xs)(f:Heap.ExtBut c h h')(n:a≠c):Sq t h' a xs:=g.at λo e=>f a o n e
def It.obj(g:It t h i a k):∃o,h.get? i=some o/\∀v,o.data≠.cell v:=by
 cases t with
 |true=>let#[o,e,_,d]:=(show h.IsTupleIter i a k from g);show#[o,e,λv n=>by rw[d] at n;cases n]
 |false=>let#[o,e,_,d]:=(show h.IsListIter i a k from g);show#[o,e,λv n=>by rw[d] at n;cases n]
def draw{E:X0}{s:X4}{Q:X0}(e:It t s.heap i a k)(c:Sq t s.heap a xs)(d:xs[k]?=some v)
  (q:∀h',It t h' i a (k+1)->Heap.SameBut i s.heap h'->Q v {s with heap:=h'}):wpAny (model prog w) A (Builtin.SmallTypes.nextOf<|.ref i) Q E s:=by
 cases t with
 |true=>show Zp.M0 e c d q
 |false=>show wpAny_nextOf_list_item e c d q
def JI{A:X_}{E:X0}{s:X4}(f:A.handled=none)(g:It t s.heap i a k)(c:Sq t s.heap a xs)(d:xs[k]?=none)
  (q:∀h' e,Heap.ExtBut i s.heap h'->(∃o,h'.get? e=some o/\o.cls=.type "StopIteration")->E (.ref e) {s with heap:=h'}):wpAny (model prog w) A (Builtin.SmallTypes.nextOf<|.ref i) Q E s:=by
 cases t with
 |true=>show Zp.Mx f g c d q
 |false=>show wpAny_nextOf_list_end f g c d q
abbrev uw(h:Xe)(z T O:X8)(d c:Xd):Prop:=
 h.get? z=some {cls:=.type "zip",dict:=none,data:=.fields (List.toArray [d,c,.bool false,.ref T,.ref O]),slots:= (List.toArray [])}
def item{E:X0}{s:X4}{T:X8}{O:X8}(D:ZipApart z T O i j a b){Q:X0}(m:uw s.heap z T O .none (.bool false))(gT:IsPair s.heap T (.ref i) (.ref j))(gO:IsPair s.heap O u v)(gi:It t s.heap i a k)(gj:It t2 s.heap j b k)
  (ga:Sq t s.heap a xs) (gb:Sq t2 s.heap b ys) (ex:xs[k]?=some x) (ey:ys[k]?=some y)
  (q:∀h',uw h' z T O (rawInt s.heap.objs.size) (.bool false)->IsPair h' O x y->It t h' i a (k+1)->It t2 h' j b (k+1)->IsPair h' s.heap.objs.size x y->Zp.Rest z O i j s.heap h'->Q (.ref s.heap.objs.size) {s with heap:=h'}):
  wpAny (model prog w) A (Builtin.«zip.__next__» #[[.ref z],[]]) (λK s'=>∃r,K=.done (.ret r)/\Q r s') E s:=by
 show(?_:wpAny _ _ (field (.ref z) 2 >>= _) _ _ _)
 show Qaq<|QMq m L (x:=.bool false) L ?_
 show(?_:wpAny _ _ (field (.ref z) 3 >>= _) _ _ _)
 show Qaq<|QMq m L (x:=.ref T) L<|Qaq<|wpAny_seqItems gT L ?_
 show(?_:wpAny _ _ (Builtin.SmallTypes.ownedTupleIsFree (.ref z) >>= _) _ _ _)
 show Qaq ?_
 unfold Builtin.SmallTypes.ownedTupleIsFree
 show Qaq<|QMq m L (x:=.none) L<|Qgq ?_
 erw[if_true]
 show Qaq<|wpAny_rule<|Qaq<|QMq m L (x:=.ref O) L<|Qaq (wpAny_setField_rec m (by simp) λh1 M f=>?_)
 replace M:uw h1 z T O .ellipsis (.bool false):=M
 show Qaq ?_
 erw[List.zipIdx_cons,List.zipIdx_nil,List.forIn_nil,List.forIn_cons]
 show Qaq<|Qaq<|wpAny_onRaise ?_
 show(?_:wpAny _ _ (Builtin.SmallTypes.nextOf (.ref i) >>= _) _ _ _)
 show Qaq (draw (gi.ext f.extBut D.i1z) (ga.ext f.extBut D.l1z) ex λh2 i2 l=>Qgq ?_)
 have U:IsPair h2 O u v:=l.extBut _ _ D.TOi1 (f.extBut _ _ D.TOz gO)
 show Qaq<|wpAny_seqItems U L<|Qaq (wpAny_updateSeq_pair U λh3 I h=>Qaq<|wpAny_letGo<|Qgq ?_)
 replace I:IsPair h3 O x v:=I
 show Qaq<|Qaq<|wpAny_onRaise ?_
 show(?_:wpAny _ _ (Builtin.SmallTypes.nextOf (.ref j) >>= _) _ _ _)
 show Qaq (draw (((gj.ext f.extBut D.i2z).ext l.extBut D.i12.symm).ext h.extBut D.TOi2.symm) (((gb.ext f.extBut D.l2z).ext l.extBut D.l2i1).ext h.extBut D.l2TO) ey λh4 j4 p=>Qgq ?_)
 have Y:IsPair h4 O x v:=p.extBut _ _ D.TOi2 I
 show Qaq<|wpAny_seqItems Y L<|Qaq (wpAny_updateSeq_pair Y λd F n=>Qaq<|wpAny_letGo<|Qgq<|Qgq ?_)
 replace F:IsPair d O x y:=F
 show Qaq<|wpAny_seqItems F L<|Qaq<|wpAny_newTuple ?_
 have W:d.objs.size=s.heap.objs.size:=by rw[n.1,p.1,h.1,l.1,f.1]
 have R:uw d z T O .ellipsis (.bool false):=n.extBut _ _ D.TOz.symm (p.extBut _ _ D.i2z.symm<|h.extBut _ _ D.TOz.symm<|l.extBut _ _ D.i1z.symm M)
 have r5:Zp.Rest z O i j s.heap d:=λc o g B N P e=>n.extBut _ _ B (p.extBut _ _ P<|h.extBut _ _ B<|l.extBut _ _ N<|f.extBut _ _ g e)
 have i5:It t d i a (k+1):=((i2.ext h.extBut D.TOi1.symm).ext p.extBut D.i12).ext n.extBut D.TOi1.symm
 have j5:It t2 d j b (k+1):=j4.ext n.extBut D.TOi2.symm
 have Z:z<d.objs.size:=Qiq R
 show(?_:wpAny _ _ (Builtin.SmallTypes.ownedTupleHandOut (.ref z) (.ref d.objs.size) >>= _) _ _ _)
 show Qaq ?_
 unfold Builtin.SmallTypes.ownedTupleHandOut
 have z6:uw (d.push {cls:=.type "tuple",data:=.seq (List.toArray [x,y])}) z T O .ellipsis (.bool false):=Qcq _ R
 show Qaq (wpAny_setField_rec z6 (by simp) λh7 J S=>?_)
 replace J:uw h7 z T O (rawInt d.objs.size) (.bool false):=J
 show wpAny_setField_rec J (by simp) λC H b8=>?_
 replace H:uw C z T O (rawInt d.objs.size) (.bool false):=H
 have G:∀c o,c≠z->d.get? c=some o->C.get? c=some o:=λc o g e=>b8.extBut _ _ g (S.extBut _ _ g<|Qcq _ e)
 have X:IsPair C d.objs.size x y:=b8.extBut _ _ (Nat.ne_of_gt Z) (S.extBut _ _ (Nat.ne_of_gt Z)<|Qrq _ L)
 rw[W] at H X
 show Qgq #[_,L,?_]
 show(?_:Q (.ref d.objs.size) _)
 rw[W]
 show q C H (G _ _ D.TOz F) (i5.at λo e=>G _ o D.i1z e) (j5.at λo e=>G _ o D.i2z e) X λc o g B N P e=>G c o g (r5 c o g B N P e)
def alive{E:X0}{s:X4}{Q:Option Obj->Shared->Prop}(h:Q (s.heap.get? α) s):wpAny (model prog w) A (loadIfAlive α) Q E s:=λ_ _ _=>h
def again{prog:X9}{w:Xc}{A:X_}{E:X0}{s:X4}{t:Bool}{t2:Bool}{z:X8}{T:X8}{O:X8}{i:X8}{j:X8}{a:X8}{b:X8}{k:Nat}{xs:Xa}{ys:Xa}{x:Xd}{y:Xd}(D:ZipApart z T O i j a b){p:X8}{op:Obj}{m:Xd}{Q:X0}(g:uw s.heap z T O (rawInt p) m)(S:s.heap.get? p=some op)(Y:IsPair s.heap T (.ref i) (.ref j))(gi:It t s.heap i a k)(U:It t2 s.heap j b k)
  (K:Sq t s.heap a xs) (P:Sq t2 s.heap b ys) (M:xs[k]?=some x) (ey:ys[k]?=some y)
  (q:∀h',uw h' z T O (rawInt p) (.bool true)->It t h' i a (k+1)->It t2 h' j b (k+1)->IsPair h' s.heap.objs.size x y->Zp.Rest z O i j s.heap h'->Q (.ref s.heap.objs.size) {s with heap:=h'}):
  wpAny (model prog w) A (Builtin.«zip.__next__» #[[.ref z],[]]) (λG s'=>∃r,G=.done (.ret r)/\Q r s') E s:=by
 show(?_:wpAny _ _ (field (.ref z) 2 >>= _) _ _ _)
 show Qaq<|QMq g L (x:=.bool false) L ?_
 show(?_:wpAny _ _ (field (.ref z) 3 >>= _) _ _ _)
 show Qaq<|QMq g L (x:=.ref T) L<|Qaq<|wpAny_seqItems Y L ?_
 show(?_:wpAny _ _ (Builtin.SmallTypes.ownedTupleIsFree (.ref z) >>= _) _ _ _)
 show Qaq ?_
 unfold Builtin.SmallTypes.ownedTupleIsFree
 show Qaq<|QMq g L (x:=rawInt p) L ?_
 show(?_:wpAny _ _ (loadIfAlive ((p:Int).toNat) >>= _) _ _ _)
 show Qaq ?_
 rw[Int.toNat_natCast]
 show alive ?_
 rw[S]
 show(?_:wpAny _ _ (field (.ref z) 1 >>= _) _ _ _)
 show Qaq<|QMq g L (x:=m) L ?_
 have H:wpAny (model prog w) A (if (m !=Value.bool true)=true then(do let _<-setField (.ref z) 1 (.bool true);pure false) else pure false)
   (λr s'=>r=false/\∃l,s'={s with heap:=l}/\uw l z T O (rawInt p) (.bool true)/\Heap.SameBut z s.heap l) E s:=by
  by_cases c:(m !=Value.bool true)=true
  ·rw[Qhq c]
   show Qaq (wpAny_setField_rec g (by simp) λl I d=>Qgq #[L,l,L,I,d])
  ·rw[Quq c]
   have e:m=Value.bool true:=by simpa using c
   subst e
   show Qgq #[L,s.heap,L,g,Heap.SameBut.refl _ _]
 show QRq H (λr s' F=>?_) λ_ _ h=>h
 let#[rfl,l,rfl,I,d]:=F
 erw[Bool.false_eq_true,if_false]
 show Qaq ?_
 erw[List.forIn_toArray,List.forIn_cons,List.forIn_nil]
 show Qaq<|Qaq<|QLq ?_
 show(?_:wpAny _ _ (Builtin.SmallTypes.nextOf (.ref i) >>= _) _ _ _)
 show Qaq (draw (gi.ext d.extBut D.i1z) (K.ext d.extBut D.l1z) M λh2 N n=>Qgq<|Qgq ?_)
 show Qaq<|Qaq<|QLq ?_
 show(?_:wpAny _ _ (Builtin.SmallTypes.nextOf (.ref j) >>= _) _ _ _)
 show Qaq (draw ((U.ext d.extBut D.i2z).ext n.extBut D.i12.symm) ((P.ext d.extBut D.l2z).ext n.extBut D.l2i1) ey λf R B=>Qgq<|Qgq<|Qgq ?_)
 show Qaq<|wpAny_newTuple ?_ (by show 2<=_;decide)
 have X:f.objs.size=s.heap.objs.size:=by rw[B.1,n.1,d.1]
 have C:∀c o,f.get? c=some o->(f.push {cls:=.type "tuple",data:=.seq (List.toArray [x,y])}).get? c=some o:=λc o e=>Qcq _ e
 have J:IsPair (f.push {cls:=.type "tuple",data:=.seq (List.toArray [x,y])}) f.objs.size x y:=Qrq _ L
 have z8:uw (f.push {cls:=.type "tuple",data:=.seq (List.toArray [x,y])}) z T O (rawInt p) (.bool true):=C _ _ (B.extBut _ _ D.i2z.symm<|n.extBut _ _ D.i1z.symm I)
 show Qgq #[_,L,?_]
 show(?_:Q (.ref f.objs.size) _)
 rw[X] at J|-
 show q _ z8 ((N.ext B.extBut D.i12).at λo e=>C _ o e) (R.at λo e=>C _ o e) J λc o W c2 Z c4 e=>C c o (B.extBut _ _ c4<|n.extBut _ _ Z<|d.extBut _ _ W e)
def stop{A:X_}{E:X0}{s:X4}{T:X8}{O:X8}(D:ZipApart z T O i j a b)(K:A.handled=none)(d:uw s.heap z T O .none (.bool false))(M:IsPair s.heap T (.ref i) (.ref j))(S:It t s.heap i a k)(C:Sq t s.heap a xs)(F:xs[k]?=none)
  (q:∀h' e,Zp.Rest z O i j s.heap h'->(∃o,h'.get? e=some o/\o.cls=.type "StopIteration")->E (.ref e) {s with heap:=h'}):
  wpAny (model prog w) A (Builtin.«zip.__next__» #[[.ref z],[]]) Q E s:=by
 show(?_:wpAny _ _ (field (.ref z) 2 >>= _) _ _ _)
 show Qaq<|QMq d L (x:=.bool false) L ?_
 show(?_:wpAny _ _ (field (.ref z) 3 >>= _) _ _ _)
 show Qaq<|QMq d L (x:=.ref T) L<|Qaq<|wpAny_seqItems M L ?_
 show(?_:wpAny _ _ (Builtin.SmallTypes.ownedTupleIsFree (.ref z) >>= _) _ _ _)
 show Qaq ?_
 unfold Builtin.SmallTypes.ownedTupleIsFree
 show Qaq<|QMq d L (x:=.none) L<|Qgq ?_
 erw[if_true]
 show Qaq<|wpAny_rule<|Qaq<|QMq d L (x:=.ref O) L<|Qaq (wpAny_setField_rec d (by simp) λI g f=>?_)
 replace g:uw I z T O .ellipsis (.bool false):=g
 show Qaq ?_
 erw[List.zipIdx_cons,List.zipIdx_nil,List.forIn_nil,List.forIn_cons]
 show Qaq<|Qaq<|wpAny_onRaise ?_
 show(?_:wpAny _ _ (Builtin.SmallTypes.nextOf (.ref i) >>= _) _ _ _)
 show Qaq (JI K (S.ext f.extBut D.i1z) (C.ext f.extBut D.l1z) F λG e r R=>?_)
 let#[J,h,B]:=R
 have m:uw G z T O .ellipsis (.bool false):=r _ _ D.i1z.symm g
 have H:e≠z:=λn=>by rw[n,m] at h;cases h;simp at B
 show wpAny_setField_rec m (by simp) λP _ l=>q P e (λc o p _ N _ n=>l.extBut _ _ p<|r _ _ N<|f.extBut _ _ p n) #[J,l.extBut _ _ H h,B]
def MW{prog:X9}{w:Xc}{A:X_}{E:X0}{s:X4}{t:Bool}{z:X8}{T:X8}{O:X8}{i:X8}{j:X8}{a:X8}{b:X8}{k:Nat}{xs:Xa}(D:ZipApart z T O i j a b){p:X8}{S:Obj}{g:Xd}{Q:Fin->Shared->Prop}(K:A.handled=none)(d:uw s.heap z T O (rawInt p) g)(J:s.heap.get? p=some S)(N:IsPair s.heap T (.ref i) (.ref j))(W:It t s.heap i a k)(G:Sq t s.heap a xs)(H:xs[k]?=none)
  (q:∀h' e,Zp.Rest z O i j s.heap h'->(∃o,h'.get? e=some o/\o.cls=.type "StopIteration")->E (.ref e) {s with heap:=h'}):
  wpAny (model prog w) A (Builtin.«zip.__next__» #[[.ref z],[]]) Q E s:=by
 show(?_:wpAny _ _ (field (.ref z) 2 >>= _) _ _ _)
 show Qaq<|QMq d L (x:=.bool false) L ?_
 show(?_:wpAny _ _ (field (.ref z) 3 >>= _) _ _ _)
 show Qaq<|QMq d L (x:=.ref T) L<|Qaq<|wpAny_seqItems N L ?_
 show(?_:wpAny _ _ (Builtin.SmallTypes.ownedTupleIsFree (.ref z) >>= _) _ _ _)
 show Qaq ?_
 unfold Builtin.SmallTypes.ownedTupleIsFree
 show Qaq<|QMq d L (x:=rawInt p) L ?_
 show(?_:wpAny _ _ (loadIfAlive ((p:Int).toNat) >>= _) _ _ _)
 show Qaq ?_
 rw[Int.toNat_natCast]
 show alive ?_
 rw[J]
 show(?_:wpAny _ _ (field (.ref z) 1 >>= _) _ _ _)
 show Qaq<|QMq d L (x:=g) L ?_
 have B:wpAny (model prog w) A (if (g !=Value.bool true)=true then(do let _<-setField (.ref z) 1 (.bool true);pure false) else pure false)
   (λr C=>r=false/\∃f,C={s with heap:=f}/\uw f z T O (rawInt p) (.bool true)/\Heap.SameBut z s.heap f) E s:=by
  by_cases c:(g !=Value.bool true)=true
  ·rw[Qhq c]
   show Qaq (wpAny_setField_rec d (by simp) λf F l=>Qgq #[L,f,L,F,l])
  ·rw[Quq c]
   have e:g=Value.bool true:=by simpa using c
   subst e
   show Qgq #[L,s.heap,L,d,Heap.SameBut.refl _ _]
 show QRq B (λr C m=>?_) λ_ _ h=>h
 let#[rfl,f,rfl,F,l]:=m
 erw[Bool.false_eq_true,if_false]
 show Qaq ?_
 erw[List.forIn_toArray,List.forIn_cons,List.forIn_nil]
 show Qaq<|Qaq<|QLq ?_
 show(?_:wpAny _ _ (Builtin.SmallTypes.nextOf (.ref i) >>= _) _ _ _)
 show Qaq (JI K (W.ext l.extBut D.i1z) (G.ext l.extBut D.l1z) H λI e R U=>?_)
 show q I e (λc o M _ P _ n=>R _ _ P<|l.extBut _ _ M n) U
def Zs(h:Xe)(z T O i j:X8):Prop:=uw h z T O .none (.bool false)/\(∃u v,IsPair h O u v)\/∃(p:X8) (c:Obj) (d:Xd),uw h z T O (rawInt (p:Nat)) d/\h.get? p=some c/\p≠z/\p≠O/\p≠i/\p≠j
def Zs.but{T:X8}{O:X8}{h h':Xe}(g:Zs h z T O i j)(f:∀c o,c≠S->h.get? c=some o->h'.get? c=some o)(e:z≠S)(F:O≠S)(B:∃o,h'.get? S=some o):Zs h' z T O i j:=by
 rcases g with⟨d,u,v,C⟩|⟨p,r,l,d,m,n⟩
 ·show .inl #[f _ _ e d,u,v,f _ _ F C]
 ·by_cases c:p=S
  ·subst c
   let#[o,q]:=B
   show .inr #[p,o,l,f _ _ e d,q,n]
  ·show .inr #[p,r,l,f _ _ e d,f _ _ c m,n]
def GD{E:X0}{s:X4}{T:X8}{O:X8}(D:ZipApart z T O i j a b){Q:Option Value->Shared->Prop}(d:Zs s.heap z T O i j)(R:IsPair s.heap T (.ref i) (.ref j))(C:It t s.heap i a k)(m:It t2 s.heap j b k)
  (G:Sq t s.heap a xs) (M:Sq t2 s.heap b ys) (I:xs[k]?=some x) (S:ys[k]?=some y)
  (q:∀h',Zs h' z T O i j->It t h' i a (k+1)->It t2 h' j b (k+1)->IsPair h' s.heap.objs.size x y->Zp.Rest z O i j s.heap h'->Q (some<|.ref s.heap.objs.size) {s with heap:=h'}):
  wpAny (model prog w) A (pyNext<|.ref z) Q E s:=by
 unfold pyNext
 have g:∀{c o},s.heap.get? c=some o->s.heap.objs.size≠c:=λe=>Nat.ne_of_gt (Qiq e)
 let#[oi,W,_]:=C.obj
 let#[oj,X,_]:=m.obj
 rcases d with⟨d,u,v,U⟩|⟨p,Y,Z,d,N,P,K,H,J⟩
 ·have f:s.TypeIs (.ref z) "zip":=#[_,d,L]
  show Qaq (wpAny_attempt (QiQ (name:=Str.ofString "__next__") f F.slot_zip_next (wpAny_call_entry F.slot_zip_next f F.entry_zip_next
   (item D d R U C m G M I S λh' B a2 n r h l=>Qgq (q h' (.inr #[_,_,_,B,h,g d,g U,g W,g X]) n r h l)) (F.args_zip_next_1 _))))
 ·have f:s.TypeIs (.ref z) "zip":=#[_,d,L]
  show Qaq (wpAny_attempt (QiQ (name:=Str.ofString "__next__") f F.slot_zip_next (wpAny_call_entry F.slot_zip_next f F.entry_zip_next
   (again D d N R C m G M I S λh' B n r h l=>Qgq (q h' (.inr #[p,Y,_,B,l _ _ P K H J N,P,K,H,J]) n r h l)) (F.args_zip_next_1 _))))
def yx{A:X_}{E:X0}{s:X4}{T:X8}{O:X8}(D:ZipApart z T O i j a b){Q:Option Value->Shared->Prop}(m:A.handled=none)(c:Zs s.heap z T O i j)(n:IsPair s.heap T (.ref i) (.ref j))(B:It t s.heap i a k)(h:Sq t s.heap a xs)(l:xs[k]?=none)
  (q:∀h',Zp.Rest z O i j s.heap h'->Q none {s with heap:=h'}):wpAny (model prog w) A (pyNext<|.ref z) Q E s:=by
 unfold pyNext
 rcases c with⟨c,u,v,I⟩|⟨p,H,G,c,C,_⟩
 ·have d:s.TypeIs (.ref z) "zip":=#[_,c,L]
  show Qaq (wpAny_attempt (QiQ (name:=Str.ofString "__next__") d F.slot_zip_next (wpAny_call_entry F.slot_zip_next d F.entry_zip_next
   (stop D m c n B h l λh' e r ⟨o,f,g⟩=>Qaq (wpAny_isInstance (T:="StopIteration") (b:=true) #[o,f,g] isSubtype_stop (Qgq (q _ r)))) (F.args_zip_next_1 _))))
 ·have d:s.TypeIs (.ref z) "zip":=#[_,c,L]
  show Qaq (wpAny_attempt (QiQ (name:=Str.ofString "__next__") d F.slot_zip_next (wpAny_call_entry F.slot_zip_next d F.entry_zip_next
   (MW D m c C n B h l λh' e r ⟨o,f,g⟩=>Qaq (wpAny_isInstance (T:="StopIteration") (b:=true) #[o,f,g] isSubtype_stop (Qgq (q _ r)))) (F.args_zip_next_1 _))))
noncomputable def OH(t:Bool):String:=if t=true then "tuple_iterator" else "list_iterator"
noncomputable abbrev H1(t:Bool)(h:Xe)(a:X8):Heap:=h.push {cls:=.type (OH t),data:=.fields (List.toArray [.ref a,.int 0 0])}
noncomputable abbrev H2(t t2:Bool)(h:Xe)(a b:X8):Heap:=(H1 t h a).push {cls:=.type (OH t2),data:=.fields (List.toArray [.ref b,.int 0 0])}
noncomputable abbrev H3(t t2:Bool)(h:Xe)(a b:X8):Heap:=(H2 t t2 h a b).push {cls:=.type "tuple",data:=.seq (List.toArray [.ref h.objs.size,.ref (H1 t h a).objs.size])}
noncomputable abbrev H4(t t2:Bool)(h:Xe)(a b:X8):Heap:=(H3 t t2 h a b).push {cls:=.type "tuple",data:=.seq (List.toArray [.none,.none])}
noncomputable abbrev H5(t t2:Bool)(h:Xe)(a b:X8):Heap:=(H4 t t2 h a b).push {cls:=.type "zip",data:=.fields (List.toArray [.none,.bool false,.bool false,.ref (H2 t t2 h a b).objs.size,.ref (H3 t t2 h a b).objs.size])}
def Sq.push(g:Sq t h a xs)(o:Obj):Sq t (h.push o) a xs:=g.at λ_ e=>Qcq _ e
def DZ(t t2:Bool)(a b:X8)(xs ys:Xa):Meets (Builtin.«zip.__new__» #[[.type "zip",.ref a,.ref b],[]]) (λ_ R s=>Sq t s.heap a xs/\Sq t2 s.heap b ys/\R (.ok (.ret (.ref (H4 t t2 s.heap a b).objs.size))) {s with heap:=H5 t t2 s.heap a b}):=
 .of_wp λm w A R s h=>by
  let#[i,g,d,e,f]:=s
  let#[l,n,h]:=h
  let o:=sub_zip
  let c:=n.push {cls:=.type (OH t),data:=.fields (List.toArray [.ref a,.int 0 0])}
  cases t <;>cases t2
  ·have j:Heap.IsList (Shared.heap #[i,g,d,e,f]) a xs:=l
   have k:Heap.IsList (Shared.heap ⟨i.push {cls:=.type "list_iterator",data:=.fields (List.toArray [.ref a,.int 0 0])},g,d,e,f⟩) b ys:=c
   wp_walk using wpAny_pyIter_list j,wpAny_pyIter_list k
   show#[_,L,h]
  ·have j:Heap.IsList (Shared.heap #[i,g,d,e,f]) a xs:=l
   have k:Heap.IsTuple (Shared.heap ⟨i.push {cls:=.type "list_iterator",data:=.fields (List.toArray [.ref a,.int 0 0])},g,d,e,f⟩) b ys:=c
   wp_walk using wpAny_pyIter_list j,wpAny_pyIter_tuple k
   show#[_,L,h]
  ·have j:Heap.IsTuple (Shared.heap #[i,g,d,e,f]) a xs:=l
   have k:Heap.IsList (Shared.heap ⟨i.push {cls:=.type "tuple_iterator",data:=.fields (List.toArray [.ref a,.int 0 0])},g,d,e,f⟩) b ys:=c
   wp_walk using wpAny_pyIter_tuple j,wpAny_pyIter_list k
   show#[_,L,h]
  ·have j:Heap.IsTuple (Shared.heap #[i,g,d,e,f]) a xs:=l
   have k:Heap.IsTuple (Shared.heap ⟨i.push {cls:=.type "tuple_iterator",data:=.fields (List.toArray [.ref a,.int 0 0])},g,d,e,f⟩) b ys:=c
   wp_walk using wpAny_pyIter_tuple j,wpAny_pyIter_tuple k
   show#[_,L,h]
def Js{E:X0}{s:X4}{Q:X0}(p:Sq t s.heap a xs)(r:Sq t2 s.heap b ys)
  (q:∀h',uw h' (s.heap.objs.size+4) (s.heap.objs.size+2) (s.heap.objs.size+3) .none (.bool false)->IsPair h' (s.heap.objs.size+2) (.ref s.heap.objs.size) (.ref (s.heap.objs.size+1))->IsPair h' (s.heap.objs.size+3) .none .none->
   It t h' s.heap.objs.size a 0->It t2 h' (s.heap.objs.size+1) b 0->(∀c o,s.heap.get? c=some o->h'.get? c=some o)->Q (.ref (s.heap.objs.size+4)) {s with heap:=h'}):
  wpAny (model prog w) A (call (.type "zip") [.ref a,.ref b]) Q E s:=by
 show callType_new F.called_zip (!1) (F.typeCall_zip_2 _ _) (F.newCall_zip_2 _ _) (λf=>F.args_object_init_3 f _ _) F.entry_zip_new (DZ t t2 a b xs ys) #[p,r,?_]
 have g:(H1 t s.heap a).objs.size=s.heap.objs.size+1:=Heap.size_push ..
 have e:(H2 t t2 s.heap a b).objs.size=s.heap.objs.size+2:=by rw[Heap.size_push,g]
 have h:(H3 t t2 s.heap a b).objs.size=s.heap.objs.size+3:=by rw[Heap.size_push,e]
 have k:(H4 t t2 s.heap a b).objs.size=s.heap.objs.size+4:=by rw[Heap.size_push,h]
 have d:(H5 t t2 s.heap a b).get? (H4 t t2 s.heap a b).objs.size=some _:=Qrq _ L
 have l:(H5 t t2 s.heap a b).get? (H3 t t2 s.heap a b).objs.size=some _:=Qcq _ (Qrq _ L)
 have i:(H5 t t2 s.heap a b).get? (H2 t t2 s.heap a b).objs.size=some _:=Qcq _ (Qcq _<|Qrq _ L)
 have j:(H5 t t2 s.heap a b).get? (H1 t s.heap a).objs.size=some _:=Qcq _ (Qcq _<|Qcq _<|Qrq _ L)
 have m:(H5 t t2 s.heap a b).get? s.heap.objs.size=some _:=Qcq _ (Qcq _<|Qcq _<|Qcq _<|Qrq _ L)
 show(?_:_/\_)
 rw[e,h,k] at d
 rw[g,e] at i
 rw[h] at l
 rw[g] at j
 rw[k]
 show#[#[_,d,L],q _ d i l ?_ ?_ λc o n=>Qcq _<|Qcq _<|Qcq _<|Qcq _<|Qcq _ n]
 ·cases t <;>show#[_,m,L,L]
 ·cases t2 <;>show#[_,j,L,L]
def pG:typeLookup (.type "zip") "__getattr__"=pure none:=by rw[typeLookup_type,builtinLookup_eq_fast];kernel_rfl
def jZ:entryFor table "zip.__getattribute__"=some Builtin.«object.__getattribute__»:=
 entryFor_alias (id':="object.__getattribute__") (by kernel_rfl) (by decide +kernel) (by decide +kernel) (by kernel_rfl)
def rC:typeLookup (Value.type "zip") (Str.ofString "keys")=pure none:=by
 rw[typeLookup_type,builtinLookup_eq_fast]
 rfl
def sN(a:X8)(fs:Xa)(name:Str)(u:Tok)(e:typeLookup (.type "zip") name=pure none)(b:(["__module__","__name__","__qualname__","__doc__","__annotations__"]:List Str).contains name=false)(hsz:autoParam (name.length+100<=sizeLine) dO._auto_1):
  Meets (Builtin.«object.__getattribute__» #[[.ref a,.str name u],[]]) (λA R s=>s.heap.get? a=some {cls:=.type "zip",dict:=none,data:=.fields fs,slots:= (List.toArray [])}/\raisesAttr (.ref a) name A R s):=
 Meets.of_wp λf w A R s c=>by
  let#[j,g,d,h,i]:=s
  let#[k,c]:=c
  have l:(⟨j,g,d,h,i⟩:Shared).TypeIs (.ref a) "zip":=#[_,k,L]
  unfold Builtin.«object.__getattribute__»
  repeat (any_goals (first|assumption|wp_step))
  erw[b,Bool.false_eq_true,if_false]
  repeat (any_goals (first|assumption|wp_step))
  show wpAny_raiseAttrError c.1 c.2<|attrMsg_fits (by decide +kernel) hsz
def C6{A:X_}{E:X0}{s:X4}{Q:Option Value->Shared->Prop}
  (j:s.heap.get? a=some {cls:=.type "zip",dict:=none,data:=.fields fs,slots:= (List.toArray [])}) (p:A.handled=none)
  (h:∀(h':Xe) (i:Nat),(∀b o,s.heap.get? b=some o->h'.get? b=some o)->Q none {s with heap:=h',toks:=i}):
  wpAny (model prog w) A (getAttr? (.ref a)<|Str.ofString "keys") Q E s:=by
 let#[q,g,d,i,k]:=s
 have n:∀x,Shared.TypeIs ⟨q,g,d,x,k⟩ (.ref a) "zip":=λx=>#[_,j,L]
 let l:=sub_AttributeError
 let v:=F.slot_zip_getattribute.lookup
 let t:=F.slot_zip_getattribute.bind (Value.ref a)
 let r:=pG
 unfold getAttr? mkText getAttrBy? getAttrBy
 show Qaq<|Qaq<|wpAny_fresh'<|Qgq<|Qaq<|wpAny_attempt<|QLq ?_
 unfold typeOf
 show Qaq<|Qaq<|wpAny_loadPart' j<|Qgq<|Qaq<|wpAny_of_eq v<|QgQ L ?_
 unfold getAttrByItsOwn hookBefore
 show Qaq<|QgQ L<|Qgq<|Qaq<|wpAny_attempt<|QLq ?_
 unfold callGetattribute
 show QgQ L ?_
 unfold boundAndCalled
 show Qaq<|wpAny_of_eq t ?_
 show call_meets F.slot_zip_getattribute (n (i+1)) jZ (F.args_zip_getattribute_2 (Value.ref a) _) (sN a fs (Str.ofString "keys") i rC (by decide +kernel) (by decide +kernel)) #[j,p,λh' f e c=>?_]
 let#[y,z,u]:=c.there
 have m:Shared.TypeIs ⟨h',g,d,f,k⟩ (.ref e) "AttributeError":=#[_,u,L]
 show wpAny _ _ (getattributeRaised _ _ _ _ _ _ _) _ _ _
 unfold getattributeRaised
 show Qaq<|wpAny_isInstance m l<|wpAny_ite_true L ?_
 unfold hookBehind hookOrError
 show Qaq<|QgQ L<|wpAny_of_eq r ?_
 show wpAny _ _ (attributeErrorLeaves _ _ _ _ _) _ _ _
 unfold attributeErrorLeaves
 show wpAny_ite_true L<|wpAny_throw ?_
 show Qaq<|wpAny_isInstance m l<|wpAny_ite_true L<|Qgq<|h h' f c.keeps
def uN{A:X_}{E:X0}{s:X4}{Q:X0}
  (k:s.heap.get? z=some {cls:=.type "zip",dict:=none,data:=.fields fs,slots:= (List.toArray [])}) (i:A.handled=none)
  (h:∀(h':Xe) (d:Nat),(∀b o,(s.heap.push {cls:=.type "dict",data:=.dict (List.toArray [])}).get? b=some o->h'.get? b=some o)->
   wpAny (model prog w) A.in1.in1 (pyIter (.ref z)) (λit s'=>codeAny (model prog w) A.in1 (.builtin "dict.update.loop" {pos:= [.ref s.heap.objs.size,it,rawInt 0,.none]}) (wants (λr c=>r=.none/\Q (.ref s.heap.objs.size) c) E) s') E {s with heap:=h',toks:=d}):
  wpAny (model prog w) A (call (.type "dict") [.ref z]) Q E s:=by
 show Dk.zh ?_
 let l:=Qrq s.heap (o:={cls:=.type "dict",data:=.dict (List.toArray [])}) L
 have g:Shared.TypeIs {s with heap:=s.heap.push {cls:=.type "dict",data:=.dict (List.toArray [])}} (.ref s.heap.objs.size) "dict":=#[_,l,L]
 let a:=Qcq {cls:=.type "dict",data:=.dict (List.toArray [])} k
 have j:Shared.TypeIs {s with heap:=s.heap.push {cls:=.type "dict",data:=.dict (List.toArray [])}} (.ref z) "zip":=#[_,a,L]
 unfold Builtin.«dict.__init__» Builtin.Dict.selfAndRest
 show Qaq<|Qaq<|wpAny_notOrdered_dict g ?_
 show Qaq<|Qgq<|Qgq ?_
 show wpAny _ _ (Builtin.Dict.updateFrom _ _ _ _ _) _ _ _
 unfold Builtin.Dict.updateFrom
 show Qaq<|wpAny_typeOf j<|wpAny_ite_true (by decide +kernel)<|Qaq (C6 a (by simpa using i) λh' d f=>?_)
 show wpAny_ite_true L ?_
 show Qaq<|wpAny_rule<|Qaq (QRq (h h' d f) (λit s' q=>?_) λe s' q=>q)
 show Qgq #[plainId_quiet (by decide +kernel) _,q]
end Zq
namespace Zq
open PySem Dk
section
variable{K:Type}[DecidableEq K]
def AB{prog:X9}{w:Xc}{knd:KeyKind prog w K}{T:X8}{O:X8}{ys:Xa}{A:X_}{R:Result->Shared->Prop}(hA:A.in1.handled=none)(D:ZipApart z T O i j a b)(nS:S≠z/\S≠T/\S≠O/\S≠i/\S≠j/\S≠a/\S≠b)(a5:a≠T/\b≠T)(f:Nat->K)(x:∀(n:Nat) v,xs[n]?=some v->knd.is (f n) v=true)(a6:xs.size<=ys.size)(hn:xs.size<=sizeLine):
  ∀ (m n:Nat) (c:Int) (s:X4),xs.size-n=m->n<=xs.size->Zs s.heap z T O i j->IsPair s.heap T (.ref i) (.ref j)->It t s.heap i a n->It t2 s.heap j b n->Sq t s.heap a xs->Sq t2 s.heap b ys->Heap.DictOf knd s.heap S (Kg f (λn=>ys.getD n .none) n)->
    (∀h' X,Heap.DictOf knd h' S (Kg f (λn=>ys.getD n .none) xs.size)->(∀c o,c≠z->c≠O->c≠i->c≠j->c≠S->s.heap.get? c=some o->h'.get? c=some o)->R (.ok (.ret .none)) {s with heap:=h',toks:=X})->
    codeAny (model prog w) A (.builtin "dict.update.loop" {pos:= [.ref S,.ref z,rawInt c,.none]}) R s:=by
 let#[n1,n2,P,Q,J,n6,n7]:=nS
 intro m
 induction m with
 | zero=>
   intro n c s hm a3 I B gi gj y N G h
   have e:n=xs.size:=by omega
   subst e
   show codeAny_builtin kq ?_
   rw[Around.under_plainId gE]
   show wpAny _ _ (do let __x<-pyNext (.ref z);_) _ _ _
   show Qaq (yx D hA I B gi y (by simp) λh' r=>?_)
   show Qaq<|Qgq<|Qgq (h h' s.toks ?_ λc o g l p k _ e=>r c o g l p k e)
   let#[o,es,ep,Z,M]:=G
   show#[o,es,ep,r _ _ n1 P Q J Z,M]
 | succ m ih=>
   intro n c s hm a3 I B gi gj y N G h
   have u:n<xs.size:=by omega
   have ex:xs[n]?=some xs[n]:=by simp[u]
   have ey:ys[n]?=some ys[n]:=by simp[show n<ys.size by omega]
   show codeAny_builtin kq ?_
   rw[Around.under_plainId gE]
   show wpAny _ _ (do let __x<-pyNext (.ref z);_) _ _ _
   show Qaq (GD D I B gi gj y N ex ey λhp a1 U H gp r=>?_)
   have a2:Heap.DictOf knd hp S (Kg f (λn=>ys.getD n .none) n):=by
     let#[o,es,ep,Z,M]:=G
     show#[o,es,ep,r _ _ n1 P Q J Z,M]
   show Qaq<|QLq<|Qaq<|wpAny_tryCatch ?_
   unfold Builtin.Dict.pairItems
   show Qaq<|wpAny_typeOf (T:="tuple") #[_,gp,L]<|wpAny_ite_true L<|Qaq ?_
   unfold seqItems?
   show Qaq<|wpAny_load' gp<|Qgq<|Qgq<|QLq<|wpAny_dictSet_pairs (x n _ ex) a2 (λh' q hs=>?_)<|QAq (Bz f _ n) (!0)
   have ev:ys.getD n .none=ys[n]:=by simp[Array.getD,show n<ys.size by omega]
   have F:∀c o,c≠S->hp.get? c=some o->h'.get? c=some o:=λc o hc e=>by rw[hs.2 c hc];show e
   have d:∀c o,c≠z->c≠O->c≠i->c≠j->c≠S->s.heap.get? c=some o->h'.get? c=some o:=λc o g l p k C e=>F c o C (r c o g l p k e)
   have a0:∃o,h'.get? S=some o:=by let#[o,_,_,e,_]:=q;show#[o,e]
   have Y:Heap.DictOf knd h' S (Kg f (λn=>ys.getD n .none) (n+1)):=by
     show Heap.DictOf knd h' S (stored _ (f n)<|ys.getD n .none)
     rw[ev]
     show q
   show Qgq #[plainId_quiet gE _,ih (n+1) (c+1) _ (!0) u (a1.but F n1.symm P.symm a0) ?_ (U.at λo e=>F _ o Q.symm e) (H.at λo e=>F _ o J.symm e) ?_ ?_ Y λW X a4 k4=>h W X a4 λc o g l p k C e=>k4 c o g l p k C<|d c o g l p k C e]
   · show d _ _ D.TIz D.TITO D.TIi1 D.TIi2 n2.symm B
   · show y.at λo e=>d _ o D.l1z D.l1TO D.l1i1 D.l1i2 n6.symm e
   · show N.at λo e=>d _ o D.l2z D.l2TO D.l2i1 D.l2i2 n7.symm e
end
end Zq
namespace L2
open PyProof.Rows Zq
def Dr(K:X1)(t:Bool)(H:Hp)(a:X8)(xs:List V):Prop:=if t=true then gV K H a xs else iX K H a xs
def Inv.sq(I:Inv X c d H s)(h:Dr X.K t H a xs):∃b:List Value,bL xs b/\Sq t s.heap a b.toArray/\xs.length<=sizeLine:=by
 cases t with
 | true=>
   let#[b,r,p,z]:=I.tuple h
   show#[b,r,(show s.heap.IsTuple a b.toArray from p),z]
 | false=>
   let#[b,r,p,z]:=I.list h
   show#[b,r,(show s.heap.IsList a b.toArray from p.isList),z]
def Sq.lt(g:Sq t h a xs):a<h.objs.size:=by
 cases t with
 |true=>let#[o,e,_]:=(show h.IsTuple a xs from g);show Qiq e
 |false=>let#[o,e,_]:=(show h.IsList a xs from g);show Qiq e
def Kk(K:X1):List V->Hp->VK->Prop:=λf H Q=>∃(t e:Bool) (a b:X8) (d:List Key) (c:List V),f= [.ref a,.ref b]/\Dr K t H a (d.map kV)/\Dr K e H b c/\d.length=c.length/\∀p,H p=none->Q (.ref p) (upd H p<|.dK (jR []<|d.zip c))
def AK{X:Cx}(B:X.calm=true)(a0:Gl X "dict")(a1:X.mg "dict"=none)(hg:Gl X "zip")(hm:X.mg "zip"=none)(ha:PA X [x,y] ta)(hs:autoParam (starEach [x,y] X.env= [(false,eval x X.env),(false,eval y X.env)]) db._auto_1)(M:autoParam (starEach [y] X.env= [(false,eval y X.env)]) db._auto_1)
  (he:autoParam (starEach [Expr.Call (.Name "zip" S) [x,y] [] J] X.env= [(false,eval (Expr.Call (.Name "zip" S) [x,y] [] J) X.env)]) db._auto_1):
  PE X (.Call (.Name "dict" p1) [.Call (.Name "zip" S) [x,y] [] J] [] c1) (M9 (Kk X.K) ta):=by
 intro C s σ H Q I h
 show wpAny_Call_Name_kw<|jY I a0 a1 (by rfl) ?_
 show PyProof.Rows.callWith_type1 ?_ he L
 rw[he]
 show wpAny _ _ (spliced ((false,eval (Expr.Call (.Name "zip" S) [x,y] [] J) X.env)::backTo c1 (starEach [] X.env))) _ _ s
 show Calls.spliced_cons ?_
 show wpAny_Call_Name_kw<|jY I hg hm (by rfl) ?_
 show PyProof.Rows.callWith_type1 (cO (ha J C s σ H _ I h) λus j ⟨vs,H1,F,r1,q1⟩=>?_) (by rw[hs,M]) (by rw[M];rfl)
 let#[t,t2,a,b,d,ys,e,qa,qb,hl,q]:=q1
 subst e
 cases r1 with
 | cons r rr=>
   cases rr with
   | cons r' rr=>
     cases rr
     cases r
     cases r'
     let#[z,ra,pa,za]:=F.sq qa
     let#[m,rb,pb,zb]:=F.sq qb
     let lx:=Sq.lt pa
     let ly:=Sq.lt pb
     let la:=ra.length
     let lb:=rb.length
     rw[lQm] at la
     show Zq.Js pa pb λg U gT gO gi gj Z=>Calls.spliced_nil ?_
     have I2:Inv X C σ H1 {j with heap:=g}:=F.kept (t':=j.toks) Z
     show Zq.uN U (F.ok.hd B) λW tk k2=>?_
     have p:∀c o,g.get? c=some o->W.get? c=some o:=λc o e=>k2 c o (Qcq _ e)
     have a5:W.get? g.objs.size=some {cls:=.type "dict",data:=.dict (List.toArray [])}:=k2 _ _ (Qrq g L)
     show wpAny_pyIter_zip (p _ _ U) ?_
     let DD:=PyProof.Rows.zipApart_new lx ly
     have f:j.heap.objs.size+4<g.objs.size:=Qiq U
     have R:∀(n:Nat) k,d[n]?=some k->d.getD n (.inl 0)=k:=λn k e=>by rw[Qlq,e];rfl
     have G:∀c,c<j.heap.objs.size->c≠j.heap.objs.size+4/\c≠j.heap.objs.size+3/\c≠j.heap.objs.size/\c≠j.heap.objs.size+1/\c≠g.objs.size:=λc B=>
       #[Qwq<|Qqq B<|Nat.le_add_right _ _,Qwq<|Qqq B<|Nat.le_add_right _ _,Qwq B,Qwq<|Qqq B<|Nat.le_add_right _ _,Qwq<|Nat.lt_trans (Qqq B<|Nat.le_add_right _ 4) f]
     show Zq.AB (knd:=bT X.prog X.w) (t:=t) (t2:=t2) (xs:=z.toArray) (ys:=m.toArray) (show X.A.in1.in1.handled=none from F.ok.hd B) DD ?_ ?_ (λn=>d.getD n<|.inl 0) ?_ (by simp;omega) (by simp;omega) z.toArray.size 0 0 _ L (Nat.zero_le _)
       (.inl #[p _ _ U,_,_,p _ _ gO]) (p _ _ gT) (gi.at λo e=>p _ o e) (gj.at λo e=>p _ o e) (pa.at λo e=>p _ o<|Z _ o e) (pb.at λo e=>p _ o<|Z _ o e) ?_ ?_
     · show#[Nat.ne_of_gt f,Nat.ne_of_gt<|Nat.lt_trans ?_ f,Nat.ne_of_gt<|Nat.lt_trans ?_ f,Nat.ne_of_gt<|Nat.lt_trans ?_ f,Nat.ne_of_gt<|Nat.lt_trans ?_ f,(G _ lx).2.2.2.2.symm,(G _ ly).2.2.2.2.symm] <;>(show _<j.heap.objs.size+4) <;>omega
     · show#[Qwq<|Qqq lx<|Nat.le_add_right _ _,Qwq<|Qqq ly<|Nat.le_add_right _ _]
     · intro n v hv
       have P:z[n]?=some v:=by simpa using hv
       have hn:n<d.length:=by
         have:=(gQs.mp P).1
         omega
       let N:=gQe hn
       let#[u,Y,ru]:=ra.get (i:=n) (x:=kV d[n]) (by rw[gQm,N];rfl)
       rw[P] at Y
       cases Y
       show(bT X.prog X.w).is (d.getD n<|.inl 0) v=true
       rw[R n _ N]
       show key_is ru _ _
     · let#[o,es,ep,e1,e2]:=Heap.DictOf.new (knd:=bT X.prog X.w) g
       show#[o,es,ep,k2 _ _ e1,e2]
     · intro h3 a3 dd k3
       have a2:g.objs.size≠sysModules:=by
         have:=I2.big
         show Nat.ne_of_gt this
       have le:j.heap.objs.size<=g.objs.size:=nQl (Nat.lt_of_le_of_lt (Nat.le_add_right _ 4) f)
       show#[L,.ref g.objs.size,_,F.laid (a:=g.objs.size) (o:=.dK (jR []<|d.zip ys)) (t':=a3) (h':=h3) (λc o e=>?_) le<|sg ?_ (beq_eq_false_iff_ne.mpr a2) ?_ dd,L,q _<|F.hok.fresh le]
       · let#[o1,o2,o3,o4,o5]:=G c (Qiq e)
         show k3 c o o1 o2 o3 o4 o5<|p c o<|Z c o e
       · have:=jd (d.zip ys) []
         rw[QGq,List.length_zip] at this
         omega
       · have a4:∀n,n<=d.length->KV (jR [] ((d.zip ys).take n)) (Dk.Kg (λn=>d.getD n<|.inl 0) (λn=>m.toArray.getD n .none) n):=by
           intro n
           induction n with
           |zero=>intro _;show .nil
           | succ n ih=>
             intro hn
             let N:=gQe (l:=d) (i:=n) (!0)
             let hy:=gQe (l:=ys) (i:=n) (!0)
             let#[u,Y,ru]:=rb.get hy
             have ez:(d.zip ys)[n]?=some (d[n],ys[n]):=by rw[List.getElem?_zip_eq_some];show#[N,hy]
             have e3:(d.zip ys).take (n+1)=(d.zip ys).take n++ [(d[n],ys[n])]:=by rw[QYq,ez];rfl
             have eu:m.toArray.getD n .none=u:=by
               have:=(gQs.mp Y)
               let#[g,W]:=this
               simp[Array.getD,g,W]
             rw[e3]
             show KV (List.foldl _ [] ((d.zip ys).take n++ [(d[n],ys[n])])) (stored _ (d.getD n<|.inl 0)<|m.toArray.getD n .none)
             rw[List.foldl_append,R n _ N,eu]
             show(ih (!0)).put d[n] ru
         have:=a4 d.length (Qmq _)
         have e4:(d.zip ys).take d.length=d.zip ys:=by
           have:(d.zip ys).length=d.length:=by rw[List.length_zip];omega
           rw[<-this,QEq]
         rw[e4] at this
         have e5:z.toArray.size=d.length:=by simp;omega
         rw[e5]
         show this
end L2
namespace Zq
open PySem
def DY{E:X0}{s:X4}{T:X8}{O:X8}(D:ZipApart z T O i j a b){Q:Option Value->Shared->Prop}(c:uw s.heap z T O .none (.bool false))(o:IsPair s.heap T (.ref i) (.ref j))(G:IsPair s.heap O u v)(H:It t s.heap i a k)(h:It t2 s.heap j b k)
  (e:Sq t s.heap a xs) (g:Sq t2 s.heap b ys) (f:xs[k]?=some x) (C:ys[k]?=some y)
  (q:∀h',uw h' z T O (rawInt s.heap.objs.size) (.bool false)->IsPair h' O x y->It t h' i a (k+1)->It t2 h' j b (k+1)->IsPair h' s.heap.objs.size x y->Zp.Rest z O i j s.heap h'->Q (some<|.ref s.heap.objs.size) {s with heap:=h'}):
  wpAny (model prog w) A (pyNext<|.ref z) Q E s:=by
 have d:s.TypeIs (.ref z) "zip":=#[_,c,L]
 unfold pyNext
 show Qaq (wpAny_attempt (QiQ (name:=Str.ofString "__next__") d F.slot_zip_next (wpAny_call_entry F.slot_zip_next d F.entry_zip_next
  (item D c o G H h e g f C λh' r B l n m p=>Qgq (q h' r B l n m p)) (F.args_zip_next_1 _))))
end Zq
namespace L2
open PyProof.Rows Zq
def Inv.sq_inj(I:Inv X b c H s)(h:Dr X.K t H a xs)(h':Dr X.K t H a ys):xs=ys:=by
 cases t with
 |true=>show I.tuple_inj h h'
 |false=>show I.list_inj h h'
noncomputable def P9(K:X1)(t t2:Bool)(a b:X8):It:=
  ⟨λi H=>∃c d x y,Dr K t H a c/\Dr K t2 H b d/\c[i]?=some x/\d[i]?=some y,
   λi H v e=>∃p,v=.ref p/\H p=none/\∀c d x y,Dr K t H a c->Dr K t2 H b d->c[i]?=some x->d[i]?=some y->e=upd H p (.tup [x,y]),
   λi H=>∃c,Dr K t H a c/\c.length<=i⟩
def CZ{P:X9}{w:Xc}{K:X1}{C:List Expr}{x1:Nat}{tp:Pos}{t t2:Bool}{z T O i j a b:X8}(D:ZipApart z T O i j a b):
  Turn P w K (.Tuple C x1 tp) (P9 K t t2 a b) [z,T,O,i,j] z (λn h=>uw h z T O .none (.bool false)/\IsPair h T (.ref i) (.ref j)/\(∃u v,IsPair h O u v)/\Zq.It t h i a n/\Zq.It t2 h j b n) where
 mem:=by simp
 obj:=λn h ⟨f,g,⟨u,v,l⟩,m,q⟩ c d=>by
  simp at d
  rcases d with rfl|rfl|rfl|rfl|rfl
  ·show#[_,f,λv n=>by cases n]
  ·show#[_,g,λv n=>by cases n]
  ·show#[_,l,λv n=>by cases n]
  ·show m.obj
  ·show q.obj
 keep:=λn h h' ⟨f,g,⟨u,v,l⟩,m,q⟩ k=>#[k z (by simp) _ f,k T (by simp) _ g,#[u,v,k O (by simp) _ l],m.at λo e=>k i (by simp) o e,q.at λo e=>k j (by simp) o e]
 item:=by
  rintro X U S hK d n p s σ H E I G ⟨f,g,⟨u,v,l⟩,m,q⟩ R
  subst U S hK
  let#[xs,ys,x,y,F,qb,N,hy]:=R
  let#[Z,Q,Y,_]:=I.sq F
  let#[a0,rb,pb,_]:=I.sq qb
  let#[ux,ex,rx]:=Q.get N
  let#[uy,ey,ry]:=rb.get hy
  have B:∀{c o},s.heap.get? c=some o->c≠s.heap.objs.size:=λe=>Qwq (Qiq e)
  have A:∀c∈[z,T,O,i,j],c≠s.heap.objs.size:=λc d=>by
   let#[oi,e1,_]:=m.obj
   let#[oj,e2,_]:=q.obj
   simp at d
   rcases d with rfl|rfl|rfl|rfl|rfl
   ·show B f
   ·show B g
   ·show B l
   ·show B e1
   ·show B e2
  show Zq.DY D f g l m q Y pb (x:=ux) (y:=uy) (by simpa using ex) (by simpa using ey) λh1 z1 O1 i1 j1 n1 J=>#[_,L,?_]
  let T1:=J _ _ D.TIz D.TITO D.TIi1 D.TIi2 g
  show wpAny_letOwnedTupleGo_zip z1 λh2 z2 r=>?_
  have I2:Inv X p σ (upd H s.heap.objs.size<|.tup [x,y]) {s with heap:=h2}:=I.turnedNew (t':=s.toks) (fp:= [z,T,O,i,j]) G (λc o d e=>?_) (Qmq _) ?_
  ·show#[.ref s.heap.objs.size,_,I2,L,#[s.heap.objs.size,L,I.hok.fresh<|Qmq _,λa1 a2 x' y' q1 q2 M q4=>?_],#[z2,r.extBut _ _ D.TIz T1,#[_,_,r.extBut _ _ D.TOz O1],i1.ext r.extBut D.i1z,j1.ext r.extBut D.i2z],λc d=>?_]
   ·rw[I.sq_inj q1 F] at M
    rw[I.sq_inj q2 qb] at q4
    rw[N] at M
    rw[hy] at q4
    cases M
    cases q4
    rfl
   ·rw[bc (A c d)]
    show(G c d).1
  ·simp at d
   show r.extBut _ _ d.1<|J c o d.1 d.2.2.1 d.2.2.2.1 d.2.2.2.2 e
  ·show#[by show 2<=_;decide,[ux,uy],.cons rx (.cons ry .nil),_,r.extBut _ _ (λe=>A z (by simp) e.symm) n1,L,L,0,L]
 done:=by
  rintro X U S hK d n p s σ H E I G ⟨f,g,⟨u,v,l⟩,m,q⟩ R
  subst U S hK
  let#[xs,F,N]:=R
  let#[Z,Q,Y,_]:=I.sq F
  let hl:=Q.length
  show Zq.yx D (I.ok.hd d) (.inl #[f,u,v,l]) g m Y (by simp;omega) λh1 J=>#[L,I.turnedL (t':=s.toks) (fp:= [z,T,O,i,j]) G λc o d e=>?_]
  simp at d
  show J c o d.1 d.2.2.1 d.2.2.2.1 d.2.2.2.2 e
 self:=λ_ _ _ _ _ ⟨f,_⟩ h=>wpAny_pyIter_zip f h
def QE(K:X1)(g:TA):TI:=λh H R=>g h H λd H1=>∃(t c:Bool) (a b:X8) (f e:List V),d= [.ref a,.ref b]/\Dr K t H1 a f/\Dr K c H1 b e/\R (P9 K t c a b) H1
def Ih(B:Gl X "zip")(Y:X.mg "zip"=none)(Z:PA X [a,b] o)(U:autoParam (starEach [a,b] X.env= [(false,eval a X.env),(false,eval b X.env)]) db._auto_1)(g:autoParam (starEach [b] X.env= [(false,eval b X.env)]) db._auto_1):
  PI X (.Tuple d x1 S) (.Call (.Name "zip" p) [a,b] [] j) (QE X.K o):=by
 intro i s W H R I h
 show Call_<|jY I B Y (by rfl)<|PyProof.Rows.callWith_type1 (cO (Z j i s W H _ I h) λus u ⟨vs,H1,f,A,N⟩=>?_) (by rw[U,g]) (by rw[g];rfl)
 let#[t,t2,x,y,xs,ys,e,qa,F,q]:=N
 subst e
 cases A with
 | cons r l=>
   cases l with
   | cons z l=>
     cases l
     cases r
     cases z
     let#[M,ra,v,_]:=f.sq qa
     let#[P,rb,pb,_]:=f.sq F
     let G:=Sq.lt v
     let C:=Sq.lt pb
     show Zq.Js v pb λh' m Q gO gi J k=>?_
     show wpAny_pyIter_zip m #[_,_,_,_,H1,L,f.kept (t':=u.toks) k,CZ<|PyProof.Rows.zipApart_new G C,#[m,Q,#[_,_,gO],gi,J],λc w=>?_,q]
     have n:u.heap.objs.size<=c:=by
       erw[Qsq,QXq,or_false] at w
       rcases w with e|e|e|e|e <;>(rw[e];first|show Qmq _|show Nat.le_add_right _ _)
     show f.fpOk n<|f.hok.fresh n
end L2
namespace DL
open PyProof.Rows L2
def Bt.sqB(h:Bt M ρ H a vs t):L2.Dr M.K (!t.isL) H a vs:=by
 cases c:t.isL with
 |true=>show h.sqL c
 |false=>show h.sqT c
noncomputable def yW(xs ys:List D):List D:=List.zipWith (λx y=>D.tup [x,y]) xs ys
open Classical in
def Gz(f g:d0):uz:=λb S=>(f b S).bind λ(p,c)=>(g b c).bind λ(r,a)=>if p.2.stays a p.1/\p.1.length<=r.1.length then some ((yW p.1 r.1,λS=>p.2.stays S p.1/\r.2.stays S r.1),a) else none
def P3(hg:Gl X "zip")(hm:X.mg "zip"=none)(ha:PE X a (tQ (md X) f))(hb:PE X b (tQ (md X) g))(P:autoParam (starEach [a,b] X.env= [(false,eval a X.env),(false,eval b X.env)]) db._auto_1)(k:autoParam (starEach [b] X.env= [(false,eval b X.env)]) db._auto_1):
  PI X (.Tuple n t tp) (.Call (.Name "zip" p) [a,b] [] h) (tI (md X)<|Gz f g):=Oj (Ih hg hm (dD ha (dD hb gh k) (by rw[P,k])) P k) λσ H R ⟨ρ,N,S,ds,W,S',ok,e,q⟩=>by
 let#[#[#[r,t1],S1],e1,e]:=aq e
 let#[#[#[m,t2],S2],e2,e]:=aq e
 dsimp only at e
 split at e
 ·rename_i c
  let#[e3,rfl]:=cq e
  let#[rfl,rfl]:=Prod.mk.inj e3
  show#[ρ,N,S,r,t1,S1,ok,e1,λA a1 a0 H1 t G h1 r1=>#[A,N,S1,m,t2,S2,ok.to t G,e2,λa3 b1 ws H2 M o Q r2=>?_]]
  let#[B,K,r3]:=h1.to r1 M o c.1
  show#[_,_,a1,b1,B,ws,L,K.sqB,Q.sqB,q _ _ _ (t.trans M) o λi a2 S3 H3 Y l w=>?_]
  let#[C,I,g2]:=K.to r3 Y l w.1
  let#[U,g3,g4]:=Q.to r2 Y l w.2
  show#[λd j=>?_,λhi=>#[C,I.sqB,?_]]
  ·unfold yW at j
   rw[List.getElem?_zipWith] at j
   cases s:r[i]? with
   |none=>rw[s] at j;cases j
   | some x=>
     cases F:m[i]? with
     |none=>rw[s,F] at j;cases j
     | some y=>
       rw[s,F] at j
       cases j
       let#[u,Z,ru]:=g2.get s
       let#[z,J,rz]:=g4.get F
       show#[#[C,U,u,z,I.sqB,g3.sqB,Z,J],λv H4 hv=>?_]
       let#[p,rfl,hp,hq]:=hv
       have:=hq C U u z I.sqB g3.sqB Z J
       subst this
       show#[bX.laid hp,l.lay hp,.tup bz ((bj.cons ru<|.cons rz .nil).ext (bX.laid hp))]
  ·rw[hi]
   unfold yW
   rw[List.length_zipWith,g2.length.symm]
   have:=c.2
   omega
 ·cases e
noncomputable def pd:D->Option Key
 |.int i=>some (.inl i)
 |.str x=>some (.inr x)
 |_=>none
def og(r:Rel M ρ H d v)(e:pd d=some k):v=kV k:=by
 cases r <;>simp[pd] at e <;>subst e <;>rfl
noncomputable def zA:List D->Option (List Key)
 | []=>some []
 |d::r=>(pd d).bind λk=>(zA r).bind λa=>some (k::a)
theorem zI:∀{ds:List D} {vs:List V} {a:List Key},bj M ρ H ds vs->zA ds=some a->vs=a.map kV
 |_,_,_,.nil,e=>by cases e;rfl
 | _,_,_,.cons h hs,e=>by
   let#[k,b,e]:=aq e
   let#[a,c,e]:=aq e
   cases e
   rw[og h b,zI hs c]
   rfl
noncomputable def jk(kvs:List (Key×D))(k:Key):Option D:=(kvs.find? λa=>decide (a.1=k)).map (·.2)
noncomputable def putD(kvs:List (Key×D))(k:Key)(v:D):List (Key×D):=
 if (kvs.any λa=>decide (a.1=k))=true then kvs.map (λa=>if a.1=k then(a.1,v) else a) else kvs++ [(k,v)]
noncomputable def c8(kvs more:List (Key×D)):List (Key×D):=more.foldl (λa b=>putD a b.1 b.2) kvs
theorem cf.append:∀{l m:List (Key×D)} {kv kw:List (Key×V)},cf M ρ H l kv->cf M ρ H m kw->cf M ρ H (l++m) (kv++kw)
 | [],_,_,_,h,h'=>by cases h;show h'
 |(_,_)::_,_,_,_,#[v,t,e,h,hs],h'=>by subst e;show#[v,_,L,h,cf.append hs h']
theorem cf.any:∀{l:List (Key×D)} {kv:List (Key×V)} (k:Key),cf M ρ H l kv->(l.any λp=>decide (p.1=k))=kv.any λp=>decide (p.1=k)
 | [],_,_,h=>by cases h;rfl
 |(_,_)::_,_,k,#[v,t,e,h,hs]=>by subst e;erw[List.any_cons,cf.any k hs]
theorem cf.mapP{k:Key}(r:Rel M ρ H d v):∀{l:List (Key×D)} {kv:List (Key×V)},cf M ρ H l kv->cf M ρ H (l.map λp=>if p.1=k then(p.1,d) else p) (kv.map λp=>if p.1=k then(p.1,v) else p)
 | [],_,h=>by cases h;rfl
 | (k',_)::_,_,#[u,t,e,h,hs]=>by
   subst e
   erw[QDq]
   by_cases c:k'=k
   · erw[c,if_true];show#[v,_,L,r,cf.mapP r hs]
   · erw[c,if_false];show#[u,_,L,h,cf.mapP r hs]
def cf.put(h:cf M ρ H l kv)(r:Rel M ρ H d v):cf M ρ H (putD l k d) (putK kv k v):=by
 unfold putD putK
 rw[h.any k]
 split
 ·show h.mapP r
 ·show h.append #[v,[],L,r,L]
theorem cf.merge:∀{m:List (Key×D)} {kw:List (Key×V)} {l:List (Key×D)} {kv:List (Key×V)},cf M ρ H m kw->cf M ρ H l kv->cf M ρ H (c8 l m) (jR kv kw)
 | [],_,_,_,h,h'=>by cases h;show h'
 | (k,d)::m,_,_,_,#[v,t,e,h,hs],h'=>by
   subst e
   unfold c8 jR
   rw[List.foldl_cons,List.foldl_cons]
   show cf.merge (m:=m) (kw:=t) hs<|h'.put h
theorem cf.zip:∀{a:List Key} {ds:List D} {vs:List V},bj M ρ H ds vs->cf M ρ H (a.zip ds) (a.zip vs)
 | [],_,_,_=>rfl
 |_::_,_,_,.nil=>rfl
 |k::a,_,_,.cons h hs=>#[_,_,L,h,cf.zip hs]
theorem cf.val:∀{l:List (Key×D)} {kv:List (Key×V)} {k:Key} {d:D},cf M ρ H l kv->jk l k=some d->∃v,mD kv k=some v/\Rel M ρ H d v
 | [],_,_,_,_,e=>by cases e
 | (k',d')::_,_,k,d,#[v,t,e,h,hs],e'=>by
   subst e
   unfold jk at e'
   unfold mD
   rw[List.find?_cons] at e'|-
   by_cases c:k'=k
   · erw[c,decide_true] at e'|-
     cases e'
     show#[v,L,h]
   · erw[c,decide_false] at e'|-
     show cf.val hs e'
theorem cf.noval:∀{l:List (Key×D)} {kv:List (Key×V)} {k:Key},cf M ρ H l kv->jk l k=none->mD kv k=none
 | [],_,_,h,_=>by cases h;rfl
 | (k',d')::_,_,k,#[v,t,e,h,hs],e'=>by
   subst e
   unfold jk at e'
   unfold mD
   rw[List.find?_cons] at e'|-
   by_cases c:k'=k
   · erw[c,decide_true] at e';cases e'
   · erw[c,decide_false] at e'|-
     show cf.noval hs e'
def cf.ext'(h:cf M ρ H l kv)(e:bX ρ H a b):cf M a b l kv:=h.imp λ_ _ r=>r.ext e
def cf.pre'(h:cf M ρ H l kv)(e:ρ <+: a):cf M a H l kv:=h.imp λ_ _ r=>r.pre e
def NU{Q:VK}(x:bX ρ H d h)(st:fR M d n h)(j:h p=none)(r:cf M d h l kv)
  (q:∀f v g,bX ρ H f g->fR M f (n++ [.dct l]) g->Rel M f g (.ref n.length) v->Q v g):Q (.ref p) (upd h p<|.dK kv):=by
 have t:p∉d:=cW x st j
 have s:bX d h d (upd h p<|.dK kv):=bX.laid j
 let k:=(st.lay (u:=.dK kv) j).box (o:=.dct l) t #[kv,bz,(r.ext' s).pre' (List.prefix_append _ _)]
 show q (d++ [p]) (.ref p) _ #[x.pre.trans<|List.prefix_append _ _,λc i=>?_,(x.trans s).keep,(x.trans s).grow] k<|.ref ?_
 ·rcases mQa.mp i with i|i
  ·show x.new c i
  ·rw[Qfq] at i;subst i;show .inr (x.grow _ j)
 ·rw[<-st.len,QQq (Qmq _)]
  simp
open Classical in
def L0(f g:d0):bp:=λh S=>(f h S).bind λ(p,i)=>(g h i).bind λ(r,d)=>if p.2.stays d p.1/\p.1.length=r.1.length then(zA p.1).bind λj=>some (.ref d.length,d++ [.dct (c8 []<|j.zip r.1)]) else none
def LW{X:Cx}{a:Expr}{b:Expr}{p1 j Z s:Pos}{f g:d0}(hc:X.calm=true)(n:Gl X "dict")(o:X.mg "dict"=none)(P:Gl X "zip")(hm:X.mg "zip"=none)(ha:PE X a (tQ (md X) f))(K:PE X b (tQ (md X) g))(x:autoParam (starEach [a,b] X.env= [(false,eval a X.env),(false,eval b X.env)]) db._auto_1)(h:autoParam (starEach [b] X.env= [(false,eval b X.env)]) db._auto_1)
  (he:autoParam (starEach [Expr.Call (.Name "zip" j) [a,b] [] s] X.env= [(false,eval (Expr.Call (.Name "zip" j) [a,b] [] s) X.env)]) db._auto_1):
  PE X (.Call (.Name "dict" p1) [.Call (.Name "zip" j) [a,b] [] s] [] Z) (tD (md X)<|L0 f g):=kr (AK hc n o P hm (dD ha (dD K gh h) (by rw[x,h])) x h he) λσ H Q ⟨ρ,w,S,d,S',ok,e,q⟩=>by
 let#[#[#[t,t1],A],e1,e]:=aq e
 let#[#[#[u,C],S2],Y,e]:=aq e
 dsimp only at e
 split at e
 ·rename_i c
  let#[M,e3,e]:=aq e
  let#[rfl,rfl]:=cq e
  show#[ρ,w,S,t,t1,A,ok,e1,λr a1 J H1 B k U I=>#[r,w,A,u,C,S2,ok.to B k,Y,λN F W H2 y i G z=>?_]]
  let#[a0,h3,v]:=U.to I y i c.1
  let R:=zI v e3
  subst R
  let hl:=v.length
  rw[lQm] at hl
  show#[_,_,a1,F,M,W,L,h3.sqB,G.sqB,by rw[<-hl,<-z.length];show c.2,λp hp=>?_]
  show NU (B.trans y) i hp (cf.merge (l:= []) (cf.zip z) L) q
 ·cases e
noncomputable def Oo:bp:=λ_ S=>some (.ref S.length,S++ [.dct []])
def PL:PE X (.Dict [] [] m) (tD (md X) Oo):=kr F6 λk H Q g=>by
 let#[i,j,S,d,h,ok,e,q]:=g
 let#[rfl,rfl]:=cq e
 show λp f=>NU bX.refl ok.st f (l:= []) (kv:= []) L q
noncomputable def Jh(f g:bp):bp:=λi S=>(f i S).bind λ(x,j)=>(g i j).bind λ(y,h)=>match x with
 | .ref k=>match h[k]? with
   |some (.dct l)=>(pd y).bind λn=>(jk l n).bind λd=>some (d,h)
   |_=>none
 |_=>none
def Lf{X:Cx}(M:X.A.units+1<cLine)(p:PE X a (tD (md X) f))(z:PE X b (tD (md X) g))(o:IL b):PE X (.Subscript a b m) (tD (md X)<|Jh f g):=kr (GP M p z o) λσ H Q J=>by
 let#[K,r,S,d,S',ok,e,q]:=J
 let#[#[x,t],R,e]:=aq e
 let#[#[y,I],G,e]:=aq e
 cases x with
 | ref k=>
   dsimp only at e
   split at e
   · rename_i l o
     let#[Y,U,e]:=aq e
     let#[d',W,e]:=aq e
     let#[rfl,rfl]:=cq e
     show#[K,r,S,_,t,ok,R,λn Z H1 u j i=>#[n,r,t,y,I,ok.to u j,G,λB v2 H2 s h P=>?_]]
     cases og P U
     let i:=i.ext s
     cases i with
     | ref p=>
       let#[kv,F,w]:=h.obj k _ _ p o
       let#[v,N,C]:=w.val W
       show#[_,v,L,by rw[<-N];show wc.k F,q _ _ _ (u.trans s) h C]
   · cases e
 |_=>cases e
noncomputable def Kh(f g h:bp):cH:=λi S=>(h i S).bind λ(d,o)=>(f i o).bind λ(x,n)=>(g i n).bind λ(y,j)=>match x with
 | .ref k=>match j[k]? with
   |some (.dct l)=>(pd y).bind λp=>if l.length<sizeLine then some (.nx i (j.set k<|.dct (putD l p d))) else none
   |_=>none
 |_=>none
mutual
theorem Rel.offK{H:Hp}(f:H b=some (.dK g)):∀{d:D} {v:V},Rel M ρ H d v->Rel M ρ (upd H b o) d v
 |_,_,.non=>.non
 |_,_,.bl x=>.bl x
 |_,_,.int i=>.int i
 |_,_,.str x=>.str x
 |_,_,.tup h hs=>.tup (by rw[bc (FG h f (by intro z;cases z))];show h) (bj.offK f hs)
 |_,_,.ref h=>.ref h
 |_,_,.fn h=>.fn h
theorem bj.offK{H:Hp}(d:H b=some (.dK f)):∀{ds:List D} {vs:List V},bj M ρ H ds vs->bj M ρ (upd H b o) ds vs
 |_,_,.nil=>.nil
 |_,_,.cons h hs=>.cons (Rel.offK d h) (bj.offK d hs)
end
def fR.putKd(st:fR M ρ S H)(d:ρ[k]?=some a)(h:S[k]?=some (.dct l))(r:cf M ρ H i kw):fR M ρ (S.set k<|.dct i) (upd H a<|.dK kw)/\bX ρ H ρ (upd H a<|.dK kw):=by
 let#[n,f,j]:=st.obj k a _ d h
 show st.put d h #[kw,bz,r.imp λ_ _ q=>q.offK f] λx g=>by rw[f] at g;cases g;show id
def PM{X:Cx}{m:Pos}(hu:X.A.units+1<cLine)(s:PE X a (tD (md X) f))(R:PE X b (tD (md X) g))(hv:PE X v (tD (md X) h))(r:autoParam (swapsWith v (some<|.Subscript a b i) m.line X.env=pure false) db._auto_1):PS X (.Assign [.Subscript a b i] v m) (tS (md X)<|Kh f g h):=
 CH (G8 hu s R hv r) λD σ H qq=>by
  let#[ρ,F,S,o,ok,e,q]:=qq
  let#[#[d,P],e1,e]:=aq e
  let#[#[x,N],Z,e]:=aq e
  let#[#[y,S3],e3,e]:=aq e
  cases x with
  | ref k=>
    dsimp only at e
    split at e
    · rename_i l r
      let#[U,e4,e]:=aq e
      split at e
      · rename_i hl
        cases e
        show#[ρ,F,S,d,P,ok,e1,λC v1 H1 J n u=>#[C,F,P,_,N,ok.to J n,Z,λw v2 H2 G B I=>#[w,F,N,y,S3,(ok.to J n).to G B,e3,λY v3 H3 z j Q=>?_]]]
        cases og Q e4
        let I:=I.ext z
        let u:=u.ext (G.trans z)
        let p:=(J.trans G).trans z
        cases I with
        | ref s=>
          let#[kv,W,K]:=j.obj k _ _ s r
          let#[t,M]:=j.putKd s r (K.put (k:=U) u)
          show#[_,_,L,Ez.k W (by rw[<-K.length];show hl),q _ _ _ (p.trans M) ((ok.to p j).to M t)]
      · cases e
    · cases e
  |_=>cases e
open Classical in
def K2(f:d0)(g:bp):bp:=λh S=>(f h S).bind λ(p,k)=>if p.2.isL=true then(g h k).bind λ(y,d)=>if p.2.stays d p.1 then(wL y).bind λv=>(iz p.1).bind λi=>(oE v i).bind λj=>some (.int (j:Nat),d) else none else none
def On{i h:Pos}(ho:PE X o (tQ (md X) f))(ha:PE X e (tD (md X) g))(k:autoParam (attributeBase o "index" X.env (eval o X.env)=eval o X.env) db._auto_1) (p:autoParam (((backTo h (starEach [e] X.env)).all (λx=> !x.1)&&(backToKw h (keywordEach [] X.env)).all (λx=>x.1.isSome)
   &&decide ([e].length+([]:List Keyword).length+(if ([]:List Keyword).isEmpty then 0 else 1)<30))=true) db._auto_1)
  (l:autoParam ((i.endLine==h.line)=true) db._auto_1) (C:autoParam (starEach [e] X.env= [(false,eval e X.env)]) db._auto_1):PE X (.Call (.Attribute o "index" i) [e] [] h) (tD (md X)<|K2 f g):=
 kr (yr PySem.F.plainAttrs_list PySem.F.slot_list_index PySem.F.type_list_index Fe ho (cQ ha iQ C) k p l C) λσ H Q qq=>by
  let#[ρ,B,S,d,S',ok,e,q]:=qq
  let#[#[#[W,t],J],e1,e]:=aq e
  dsimp only at e
  split at e
  ·rename_i z
   let#[#[y,S2],Y,e]:=aq e
   dsimp only at e
   split at e
   ·rename_i R
    let#[v,I,e]:=aq e
    let#[vs,e4,e]:=aq e
    let#[j,M,e]:=aq e
    let#[rfl,rfl]:=cq e
    show#[ρ,B,S,W,t,J,ok,e1,λu a us H1 K r A P=>#[.inl #[L,us,A.sqL z],u,B,J,[y],S2,ok.to K r,by erw[ar,av,Y,Qbq],λU ws H2 G n w=>?_]]
    let#[s,h3,N]:=A.to P G n R
    cases w with
    | cons w Z=>
      cases Z
      cases nQ w I
      let#[rfl,f1]:=kG N e4
      show#[a,s,_,j,L,L,h3.sqL z,t5 I,f1,M,q _ _ _ (K.trans G) n<|.int _]
   ·cases e
  ·cases e
def PK:V->List V->Hp->VK->Prop:=λx g H Q=>∃a b f d,x=.ref a/\g= [.ref b]/\a≠b/\H a=some (.dK f)/\H b=some (.dK d)/\f.length+d.length<=sizeLine/\Q .non (upd H a<|.dK (jR f d))
def CU:NW X "dict.update" PK:=by
 intro n s M H x K v N Q I B A h
 let#[a,b,l,f,rfl,rfl,ab,ha,hb,hz,q]:=h
 cases B
 let#[u,rfl,ru]:=A.one
 cases ru
 let#[z,p,t,g,o]:=yU I.hok ha
 let#[J,k,r,d,m]:=yU I.hok hb
 show call_meetsIn PySem.F.slot_dict_update o.typeIs PySem.F.entry_dict_update (PySem.F.args_dict_update_2 _ _) (meets_dict_update (bT X.prog X.w) a b ab k) #[t,r,o,m,by rw[<-g.length,<-d.length];show hz,λy j _ C=>?_]
 have G:∃q,y.get? a=some q:=let ⟨q,_,_,hq,_⟩:=j;#[q,hq]
 let hl:=jd f l
 show#[.non,_,rQ I (by rw[ha];show True.intro) C G<|sg (!0) p (KV.merge d g) j,L,q]
noncomputable def H_(f g:bp):bp:=λn S=>(f n S).bind λ(x,h)=>(g n h).bind λ(y,d)=>match x,y with
 | .ref k,.ref j=>if k≠j then match h[k]?,d[k]?,d[j]? with
   |some (.dct _),some (.dct l),some (.dct m)=>if l.length+m.length<=sizeLine then some (.non,d.set k<|.dct (c8 l m)) else none
   |_,_,_=>none
   else none
 |_,_=>none
def Mv{p h:Pos}(ho:PE X o (tD (md X) f))(B:PE X e (tD (md X) g))(r:autoParam (attributeBase o "update" X.env (eval o X.env)=eval o X.env) db._auto_1) (w:autoParam (((backTo h (starEach [e] X.env)).all (λx=> !x.1)&&(backToKw h (keywordEach [] X.env)).all (λx=>x.1.isSome)
   &&decide ([e].length+([]:List Keyword).length+(if ([]:List Keyword).isEmpty then 0 else 1)<30))=true) db._auto_1)
  (s:autoParam ((p.endLine==h.line)=true) db._auto_1) (Z:autoParam (starEach [e] X.env= [(false,eval e X.env)]) db._auto_1):PE X (.Call (.Attribute o "update" p) [e] [] h) (tD (md X)<|H_ f g):=
 kr (yr PySem.F.plainAttrs_dict PySem.F.slot_dict_update PySem.F.type_dict_update CU ho (cQ B iQ Z) r w s Z) λσ H Q qq=>by
  let#[ρ,Y,S,d,S',ok,e,q]:=qq
  let#[#[x,P],e1,e]:=aq e
  let#[#[y,J],e2,e]:=aq e
  cases x with
  | ref k=>
    cases y with
    | ref j=>
      dsimp only at e
      split at e
      · rename_i ne
        cases I:P[k]? with
        |none=>rw[I] at e;cases e
        | some o1=>
          rw[I] at e
          cases o1 with
          | dct l0=>
            cases A:J[k]? with
            |none=>rw[A] at e;cases e
            | some o2=>
              rw[A] at e
              cases o2 with
              | dct l=>
                cases M:J[j]? with
                |none=>rw[M] at e;cases e
                | some o3=>
                  rw[M] at e
                  cases o3 with
                  | dct m=>
                    dsimp only at e
                    split at e
                    · rename_i hl
                      let#[rfl,rfl]:=cq e
                      show#[ρ,Y,S,_,P,ok,e1,λG v H1 x1 u r1=>?_]
                      cases r1 with
                      | ref B=>
                        rename_i a
                        let#[K,g0,_]:=u.obj k a _ B I
                        show#[.inr (.inr (.inl #[L,.inl #[K,g0]])),G,Y,P,[.ref j],J,ok.to x1 u,by erw[ar,av,e2,Qbq],λa0 ws H2 x2 n N=>?_]
                        cases N with
                        | cons N rr=>
                          cases rr
                          cases N with
                          | ref R=>
                            rename_i b
                            let t:=cK x2.pre B
                            let#[kv,g1,U]:=n.obj k a _ t A
                            let#[kw,g3,W]:=n.obj j b _ R M
                            have ab:a≠b:=λz=>by subst z;show ne (iu n.nd t R)
                            let#[C,x3]:=n.putKd t A (cf.merge W U)
                            show#[a,b,kv,kw,L,L,ab,g1,g3,by rw[<-U.length,<-W.length];show hl,q _ _ _ ((x1.trans x2).trans x3) C .non]
                    · cases e
                  |_=>cases e
              |_=>cases e
          |_=>cases e
      · cases e
    |_=>cases e
  |_=>cases e
end DL
namespace L2
open PyProof.Rows
def uW{D:X8}{R:Result->Shared->Prop}(I:Nat->Shared->Prop)
  (F:∀n s,I n s->wpAny (model prog w) A (pyNext it) (λr f=>match r with
   |none=>R (.ok .next) f
   |some v=>wpAny (model prog w) A (letOwnedTupleGo a it v) (λ_ d=>wpAny (model prog w) A (assign a env v) (λ_ l=>
     wpAny (model prog w) A (forIn q true λc r=>if r=true then do let ok<-isTrue c env (eval c env);pure (ForInStep.yield ok) else pure (ForInStep.yield r)) (λok s₃=>
      if ok=true then wpAny (model prog w) A (eval G env) (λx i=>wpAny (model prog w) A (eval H env) (λy j=>
       wpAny (model prog w) A (dictSet D x y) (λ_ k=>∃m,m<n/\I m k) (λ_ _=>False) j) (λ_ _=>False) i) (λ_ _=>False) s₃
      else∃m,m<n/\I m s₃) (λ_ _=>False) l) (λ_ _=>False) d) (λ_ _=>False) f) (λ_ _=>False) s)
  (n:Nat) (h:I n s):codeAny (model prog w) A (.compLoop (.DictComp G H [#[a,o,q,0]] e B) 0 it (.ref D) env) R s:=by
 show codeAny_loop L I (λn s J=>?_) n h
 show wpAny _ A ((compTurn (.DictComp G H [#[a,o,q,0]] e B) 0 it (.ref D) env).onRaise (λx=>do noteFrame x env;theTreesLotGoes x)) _ _ s
 show wpAny_noted ?_
 rw[compTurn_dict]
 show Qaq<|wpAny_standAt<|Qaq (QRq (F n s J) (λr f g=>?_) λ_ _ b=>b.elim)
 cases r with
 |none=>show Qgq g
 | some v=>
   show Qaq (QRq g (λ_ d p=>?_) λ_ _ b=>b.elim)
   show Qaq (QRq p (λ_ l u=>Qaq (QRq u (λok s₃ h₃=>?_) λ_ _ b=>b.elim)) λ_ _ b=>b.elim)
   cases ok with
   |false=>show Qgq #[L,h₃]
   | true=>
     show Qaq<|Qaq (QRq h₃ (λx i t=>Qaq<|QLq (QRq t (λy j z=>Qaq<|wpAny_standAt<|QLq (QRq z (λ_ k C=>Qgq #[L,C]) λ_ _ b=>b.elim)) λ_ _ b=>b.elim)) λ_ _ b=>b.elim)
def Kb(J:It)(g:TG)(p:TT)(o n:TE)(Q:VK)(D:X8)(q:St)(H:Hp):Prop:=
 ∃ W:Nat->Nat->St->Hp->Prop,(∃m,W 0 m q H)/\∀i m e f,W i m e f->
   (J.stop i f/\Q (.ref D) f)\/(J.go i f/\∃Nx:St->Hp->Prop,(∀b d,Nx b d->∃l,l<m/\W (i+1) l b d)∧
     ∀ x H2,J.yld i f x H2->g x e H2 λa H3=>p a H3 λok H4=>
       if ok=true then o a H4 λk H5=>n a H5 λy h=>∃c j,k=kV j/\h D=some (.dK c)/\c.length<sizeLine/\Nx a (upd h D (.dK (putK c j y))) else Nx a H4)
def Gq(js:List (Option Nat))(c:TI)(g:TG)(e:TT)(d b:TE):TE:=λa H Q=>c a H λJ H1=>∀D,H1 D=none->Kb J g e d b Q D (kj js a) (upd H1 D<|.dK [])
def E6{X:Cx}{N:X6}{js:List (Option Nat)}{a:Scope}{cl:List (Str×Addr)}{tg Q kx vx G:Expr}{a9:List Expr}{b3 b0:Pos}{wi:TI}{g gt:TG}{tt:TT}{tk tv:TE}
  (S:aM X N js a cl) (hc:X.calm=true) (hi:PI X tg Q wi)
  (hg:∀C s H fp,PG (aN X N a cl C s H fp) tg g) (ht:∀C s H fp,m6 (aN X N a cl C s H fp) a9 tt) (hk:∀C s H fp,PE (aN X N a cl C s H fp) kx tk) (hv:∀C s H fp,PE (aN X N a cl C s H fp) vx tv) (d9:PG X G gt)
  (hs:autoParam (∀x,foldedSetIterable Q X.env x=pure x) dl._auto_1) (e0:autoParam (swapsWithSole [G] (.DictComp kx vx [⟨tg,Q,a9,0⟩] a b3) b0.line X.env=pure true) db._auto_1)
  (h1:autoParam ((assignEach [G] X.env).map (·.2)= [assign G X.env]) db._auto_1):PS X (.Assign [G] (.DictComp kx vx [#[tg,Q,a9,0]] a b3) b0) (Dm (Gq js wi g tt tk tv) gt):=by
 intro a0 s σ H Dn I h
 rw[exec_Assign_arm]
 show Qaq<|wpAny_standAt<|Qaq<|wpAny_of_eq e0<|wpAny_ite_true L<|Qaq ?_
 rw[h1]
 show wpAny _ _ (do let _<-comprehension _ _ _ _ _ _ _ (some λv=>assignAll v [assign G X.env]);pure ()) _ _ _
 show Qaq ?_
 show wpAny_comprehension_free (use:=some λv=>assignAll v [assign G X.env]) L hs S.clos S.kind S.names (cO (hi a0 s σ H _ I h) λv s1 h1=>cO h1 λe6 t h2=>?_)
 let#[it,fp,tn,J,H2,e,F,T,b4,f2,hD]:=h2
 subst e
 show QhQ<|wpAny_newFunctionEnv S.nocell (by intro y hy;simp at hy) (λU P B=>?_) S.kind
 dsimp only at P B|-
 generalize a7:t.heap.push {cls:=.type "dict",data:=.dict (List.toArray [])}=P2 at P B|-
 have hC:P2.objs.size=t.heap.objs.size+1:=by rw[<-a7,Heap.size_push]
 have b6:t.heap.objs.size≠P2.objs.size:=by rw[hC];show Qwq (Nat.lt_succ_self _)
 have a2:t.heap.objs.size<=P2.objs.size:=by rw[hC];show Nat.le_succ _
 have K:∀b,b<t.heap.objs.size->b≠P2.objs.size:=λb f=>by rw[hC];show Qwq (Nat.lt_succ_of_lt f)
 have a1:∀b o,t.heap.get? b=some o->U.get? b=some o:=λb o e=>B.extBut b o (K b<|Qiq e) (Qcq _ (a7▸Qcq _ e))
 have e5:U.get? t.heap.objs.size=some {cls:=.type "dict",data:=.dict (List.toArray [])}:=B.extBut _ _ b6 (Qcq _ (a7▸Qrq _ L))
 have nD:H2 t.heap.objs.size=none:=F.fresh
 have nC:H2 P2.objs.size=none:=F.hok.fresh a2
 have b5:∀b∈fp,b<t.heap.objs.size:=λb f=>by
  let#[o,e,_]:=T.obj _ _ b4 b f
  show Qiq e
 let#[W,#[m0,w0],d3]:=hD t.heap.objs.size nD
 have b7:(aN X N a cl P2.objs.size t H2 fp).Ok:=by
  show⟨F.ok.mod,S.kind,F.ok.glob,F.ok.blt,a2,λx y c h1 h2=>F.ok.inj x y c (S.sub x c h1) (S.sub y c h2),S.has,(λx c h=>by cases h),F.ok.hd,F.ok.frames,.inl L,
   λb f=>#[K b (b5 b f),λx c h=>(f2 b f).2.2.2.2.1 x c (S.sub x c h)],F.bs,QAq F.ok.bsz F.sz,λb o e f=>?_,λb f z=>?_,F.stack,F.stkFree⟩
  ·rcases(f2 b f).2.2.2.1 with z|z
   ·show F.ok.noex b o e z
   ·show absurd (Qqq (Qqq (Qiq e) F.ok.bsz) z)<|Nat.lt_irrefl _
  ·rcases Qsq.mp (F.stkSub b z) with q|q
   ·show(f2 b f).2.1 q
   ·show(f2 b f).2.2.1 q
 have c9:cV X.prog X.w (upd H2 t.heap.objs.size<|.dK []) U t.heap.objs.size (.dK []):=by
  let#[o,es,ep,e1,e2]:=Heap.DictOf.new (knd:=bT X.prog X.w) t.heap
  show sg (Nat.zero_le _) (beq_eq_false_iff_ne.mpr<|Ne.symm<|Qwq F.big) .nil #[o,es,ep,B.extBut _ _ b6<|Qcq _ (a7▸e1),e2]
 have I4:Inv (aN X N a cl P2.objs.size t H2 fp) [] (kj js σ) (upd H2 t.heap.objs.size<|.dK []) {t with heap:=U,toks:=t.toks+([]:List (Str×Value)).length}:=by
  show#[b7,L,F.bare,Un.laid a1 (Qmq _) nD,#[_,P,λi x v h1 h2 h3=>?_],λx c h=>?_,by show upd H2 _ _ P2.objs.size=none;rw[bc b6.symm];show nC,λx c h=>?_,λp hp=>absurd (show p∈([]:List (Addr×Obj)) from hp) (by simp),F.hok.laid a1 (Qmq _) c9,by show(kj js σ).length=N.length;unfold kj;rw[lQm];show S.len]
  ·unfold kj at h2
   rw[gQm] at h2
   cases e:js[i]? with
   |none=>rw[e] at h2;cases h2
   | some o=>
     rw[e] at h2
     cases o with
     |none=>cases h2
     | some j=>
       have a4:σ.getD j none=some v:=QdQ h2
       have hj:σ[j]?=some (some v):=by
         rw[Qlq] at a4
         cases q:σ[j]? with
         |none=>rw[q] at a4;cases a4
         |some y=>rw[q] at a4;show congrArg some a4
       let#[c1,c2,c3]:=S.cap i j x e h1
       let#[m,hn,hl]:=F.loc
       have d8:Io X.env.scope x:=by
         rcases c2 with z|z
         · show .inr (.inl z)
         · show .inr (.inr z)
       let#[u,r,l]:=hl j x v c1 hj d8
       show#[u,r,.inr #[c3,?_]]
       let#[c,c4]:=S.has x c3
       show#[c,c4,?_]
       rcases l with⟨z,_⟩|⟨_,c',e',z⟩
       · rcases c2 with y|y <;>rw[y] at z <;>cases z
       · rw[S.sub x c c4] at e'
         cases e'
         let#[o,ho,hd]:=z
         show#[o,a1 _ _ ho,hd]
  ·let#[v,o,ho,hd]:=F.cell x c (S.sub x c h)
   show#[v,o,a1 _ _ ho,hd]
  ·let#[v,o,ho,hd]:=F.cell x c (S.sub x c h)
   rw[bc (Qwq<|Qiq ho)]
   show F.freeC x c<|S.sub x c h
 have a3:∀{Y:X2} {H':Hp},Y= []->(∀b∈fp,H' b=none)->∀b∈fp,p0 (aN X N a cl P2.objs.size t H2 fp) Y H' b:=λ{Y H'} ep hn b f=>by
  subst ep
  show#[hn b f,K b<|b5 b f,λz=>b7.exfs b f z,.inl f,λx c h=>(f2 b f).2.2.2.2.1 x c (S.sub x c h),λp hp=>absurd (show p∈([]:List (Addr×Obj)) from hp) (by simp)]
 have b1:codeAny (model X.prog X.w) X.A (.compLoop (.DictComp kx vx [⟨tg,Q,a9,0⟩] a b3) 0 (.ref it) (.ref t.heap.objs.size) (compEnvC a cl P2.objs.size X.env))
   (compPost (model X.prog X.w) X.A X.xe (some λv=>assignAll v [assign G X.env]) (λ_ s9=>wpAny (model X.prog X.w) X.A (pure ()) (λ_ d4=>wpAny (model X.prog X.w) X.A (pure Flow.next) (SP X a0 Dn) X.xe d4) X.xe s9) (.ref t.heap.objs.size) P2.objs.size) {t with heap:=U,toks:=t.toks+([]:List (Str×Value)).length}:=by
  show uW (λn s'=>∃i a5 H',Inv (aN X N a cl P2.objs.size t H2 fp) [] a5 H' s'/\tn i s'.heap/\(∀b∈fp,H' b=none)/\W i n a5 H') ?_ m0
   #[0,_,_,I4,T.keep _ _ _ b4 λb _ o e=>a1 b o e,λb f=>by rw[bc (Qwq<|b5 b f)];show(f2 b f).1,w0]
  rintro n s3 ⟨i,a6,H3,I3,c0,c6,w3⟩
  rcases d3 i n a6 H3 w3 with⟨stop,q⟩|⟨go,Nx,hN,b9⟩
  ·show cO (T.done (aN X N a cl P2.objs.size t H2 fp) L L L hc i [] s3 a6 H3 _ I3 (a3 L c6) c0 stop) λr s4 Z=>?_
   let#[hr,I5]:=Z
   subst hr
   let#[m,hn,_]:=id I5.loc
   have d6:∀h',Heap.SameBut P2.objs.size s4.heap h'->Inv X a0 σ H3 {s4 with heap:=h'}:=by
    intro h' R
    let u:=I5.base
    have ne:∀b o,t.heap.get? b=some o->b≠P2.objs.size:=λb o e=>K b (Qiq e)
    show F.call' (ch:=fp) I5.os #[λb o e n f hx=>(R.2 b<|ne b o e).trans (u.keep b o e n f hx),λb o e n f hx=>?_,u.free,λb o e hx=>?_,u.tups,u.frzs,u.tbls] (λb ob e=>?_) I5.bare λb f=>#[(f2 b f).2.2.2.1,(f2 b f).2.1,(f2 b f).2.2.2.2.1,(f2 b f).2.2.2.2.2]
    ·let#[sl,e1]:=u.slot b o e n f hx
     show#[sl,(R.2 b<|ne b o e).trans e1]
    ·let#[o',e1]:=u.there b o e hx
     show#[o',(R.2 b<|ne b o e).trans e1]
    ·show(I5.hok b ob e).stay (λc w' hc q=>(R.2 c ?_).trans q) (λ_ q=>q) λ_ _ q=>q
     have fC:H3 P2.objs.size=none:=I5.free
     rintro rfl
     rcases hc with z|z
     ·rw[<-z,fC] at e;cases e
     ·rw[fC] at z;cases z
   let IX:=d6 s4.heap #[L,λ_ _=>rfl]
   have a8:p0 X a0 H3 P2.objs.size:=F.fpOk a2 I5.free
   let#[oC,es,ep,d2,c5,d5]:=hn
   let IP:=IX.pinned (fp:= [P2.objs.size]) (λb f=>by rw[Qfq] at f;rw[f];show a8) (λb f=>by rw[Qfq] at f;rw[f];show#[oC,d2,λv=>by rw[c5];simp])
   show wpAny _ _ (assignAll (.ref t.heap.objs.size) [assign G X.env]) _ _ _
   rw[assignAll.eq_2]
   show cO (d9 _ s4 σ H3 (.ref t.heap.objs.size) (.ref t.heap.objs.size) _ IP L q) λ_ s6 Z=>?_
   let#[M,H6,I6,q6]:=Z
   let pC:=I6.pin (P2.objs.size,oC) (Qoq _<|Qoq _<|dA (Qfq.mpr L) d2)
   show#[m,#[oC,es,ep,pC.1,c5,d5],λh' R=>Qgq<|Qgq #[M,H6,?_,q6]]
   show I6.unpinned.turned (it:=P2.objs.size) (t':=s6.toks) (λb o' f e=>(R.2 b f).trans e) pC.2.1 pC.2.2.1 a8.2.2.2.1 a8.2.2.2.2.1 a8.2.2.2.2.2
  ·show cO (T.item (aN X N a cl P2.objs.size t H2 fp) L L L hc i [] s3 a6 H3 _ I3 (a3 L c6) c0 go) λr s4 Z=>?_
   let#[u,hr,h4]:=Z
   subst hr
   show cO h4 λ_ s5 Z=>?_
   let#[x,H5,I5,r5,y5,b2,d7]:=Z
   let e4:=I5.pinned (a3 L d7) (T.obj _ _ b2)
   show cO (hg P2.objs.size t H2 fp _ s5 a6 H5 x u _ e4 r5<|b9 x H5 y5) λ_ s6 Z=>?_
   let#[M,H6,I6,q6]:=Z
   show cO (ht P2.objs.size t H2 fp _ s6 M H6 _ I6 q6) λok s7 Z=>?_
   let#[H7,I7,q7]:=Z
   have again:∀{s8:X4} {H8:Hp},Inv (aN X N a cl P2.objs.size t H2 fp) ([]++mY fp s5.heap) M H8 s8->Nx M H8->∃m,m<n/\∃i a5 H',Inv (aN X N a cl P2.objs.size t H2 fp) [] a5 H' s8/\tn i s8.heap/\(∀b∈fp,H' b=none)/\W i m a5 H':=λ{s8 H8} I8 n8=>by
    let#[m',hm,w8]:=hN M H8 n8
    show#[m',hm,i+1,M,H8,I8.unpinned,T.keep _ _ _ b2 λb f o e=>(I8.pin (b,o)<|Qoq _<|Qoq _<|dA f e).1,λb f=>?_,w8]
    let#[o,e,d]:=T.obj _ _ b2 b f
    show(I8.pin (b,o)<|Qoq _<|Qoq _<|dA f e).2.1
   cases ok with
   |false=>show again I7 q7
   | true=>
     show cO (hk P2.objs.size t H2 fp _ s7 M H7 _ I7 q7) λkv s8 Z=>?_
     let#[k,H8,I8,rk,q8]:=Z
     show cO (hv P2.objs.size t H2 fp _ s8 M H8 _ I8 q8) λyv s9 Z=>?_
     let#[y,H9,I9,ry,e3,ky,ek,hx,hl,n9]:=Z
     subst ek
     let#[z,hd,vs,d1,dd]:=yU I9.hok hx
     show wpAny_dictSet_pairs (va rk) dd (λh' b8 R=>?_) (by rw[<-d1.length];show z)
     have he:∃q,h'.get? t.heap.objs.size=some q:=let ⟨q,_,_,hq,_⟩:=b8;#[q,hq]
     let e7:=iL e3 ky y
     show again (rQ I9 (by rw[hx];show True.intro) R he<|sg (!0) hd (d1.put ky ry) b8) n9
 show codeAny_compStart_dict b1<|T.self _ 0 _ _ _ (T.keep _ _ _ b4 λb _ o e=>a1 b o e) b1
end L2
namespace DL
open PyProof.Rows L2
theorem fR.offK(st:fR M ρ S H)(f:H b=some (.dK c))(n:b∉ρ):fR M ρ S (upd H b o):=⟨st.len,st.nd,λk a p i m=>by
 let q:=st.obj k a p i m
 have g:a≠b:=λz=>n (z▸mQg i)
 cases p with
 |lst j=>let#[h,d,e]:=q;show#[h,by rw[bc g];show d,e.offK f]
 |frz j=>let#[h,o,d,e]:=q;show#[h,o,by rw[bc g];show d,e.offK f]
 |dct l=>let#[v,d,e]:=q;show#[v,by rw[bc g];show d,e.imp λ_ _ r=>r.offK f]
 |sett j=>let#[s,t,d,e,u]:=q;show#[s,t,by rw[bc g];show d,e.offK f,u]⟩
def En.offK(h:En M ρ H a e)(j:H b=some (.dK c)):En M ρ (upd H b o) a e:=#[h.len,λi d q=>by let#[v,g,f]:=h.get i d q;show#[v,g,f.offK j]]
open Classical in
def i9(g:mv)(t:iE)(b c:bp)(W:aE->Prop):List D->cv->aE->List (Key×D)->Option (List (Key×D)×aE)
 | [],Γ,S,acc=>if W S then some (acc,S) else none
 |d ::ds,Γ,S,acc=>if W S then(g d Γ S).bind λ(a,j)=>(t a j).bind λ(k,e)=>
    if k=true then(b a e).bind λ(x,f)=>(c a f).bind λ(y,i)=>(pd x).bind λh=>if acc.length<sizeLine then i9 g t b c W ds a i (putD acc h y) else none
    else i9 g t b c W ds a e acc
  else none
def p_(js:List (Option Nat))(i:uz)(g:mv)(t:iE)(b d:bp):cv->aE->Option (List (Key×D)×aE):=λa S=>(i a S).bind λ(p,c)=>i9 g t b d p.2 p.1 (mE js a) c []
def Ik{Q:VK}(ok:Ok M ρ Γ S σ H)(e:p_ js i g t fk fv Γ S=some (l,S'))
  (q:∀b a kv f,bX ρ H b f->fR M b S' f->H a=none->a∉b->f a=some (.dK kv)->cf M b f l kv->Q (.ref a) f):Gq js (tI M i) (tG M g) (tB M t) (tD M fk) (tD M fv) σ H Q:=by
 let#[#[#[n,W],S1],e1,e]:=aq e
 show#[ρ,Γ,S,n,W,S1,ok,e1,λo J H1 x1 Z wk D U=>?_]
 have n1:D∉o:=cW x1 Z U
 have a2:Ok M o (mE js Γ) S1 (kj js σ) (upd H1 D<|.dK []):=#[((ok.en.ext x1).ext (bX.laid U)).sig js,Z.lay U]
 show⟨λi m F f=>m=n.length-i/\i<=n.length/\∃d B X c j,bX o H1 d f/\Ok M d B X F f/\D∉d/\f D=some (.dK j)/\cf M d f c j/\i9 g t fk fv W (n.drop i) B X c=some (l,S'),
  #[n.length,by simp,Nat.zero_le _,o,_,S1,[],[],bX.laid U,a2,n1,bz,L,e],?_⟩
 rintro i m b4 H2 ⟨rfl,hi,d,B,X,c,j,x2,ok2,n2,hD2,racc,e2⟩
 by_cases N:i<n.length
 ·have hd:n[i]?=some n[i]:=gQe N
  rw[QWq N] at e2
  unfold i9 at e2
  split at e2
  ·rename_i w
   let#[w1,w2]:=wk i d X H2 x2 ok2.st w
   let#[go,a4]:=w1 _ hd
   show .inr ⟨go,λF f=>∃b A C c j,bX o H1 b f/\Ok M b A C F f/\D∉b/\f D=some (.dK j)/\cf M b f c j/\i9 g t fk fv W (n.drop (i+1)) A C c=some (l,S'),
    λF f ⟨b,A,C,c,j,h1,h2,h3,h4,h5,h6⟩=>#[n.length-(i+1),by omega,L,N,b,A,C,c,j,h1,h2,h3,h4,h5,h6],λx H3 hy=>?_⟩
   let#[x3,a5,r3]:=a4 x H3 hy
   let#[#[h,S4],e4,e5]:=aq e2
   show#[d,B,X,_,h,S4,ok2.to x3 a5,r3,e4,λa7 b3 H4 x4 p=>?_]
   let#[#[k,S5],e6,e7]:=aq e5
   show#[a7,h,S4,k,S5,p,e6,λa0 H5 Y I=>?_]
   let u:=(x3.trans x4).trans Y
   have G:∀{b f},bX d H2 b f->f D=some (.dK j)/\D∉b:=λ{b f} x=>#[x.keep _ _ hD2<|.inl n2,λm=>(x.new _ m).elim n2 λz=>by rw[z] at hD2;cases hD2]
   dsimp only at e7|-
   split at e7
   ·rename_i ck
    rw[Qhq ck]
    let#[#[kx,S6],e8,e9]:=aq e7
    let#[#[y,S7],a9,b1]:=aq e9
    let#[kk,b0,K]:=aq b1
    show#[a0,h,S5,kx,S6,p.to Y I,e8,λa1 kv H6 x6 a6 r6=>#[a1,h,S6,y,S7,(p.to Y I).to x6 a6,a9,λa3 v H7 x7 a8 r7=>?_]]
    let P:=(u.trans x6).trans x7
    let#[s,n7]:=G P
    let R:=racc.ext' P
    split at K
    ·rename_i cl
     show#[j,kk,og r6 b0,s,by rw[<-racc.length];show cl,a3,h,S7,putD c kk y,_,(x2.trans P).off U _,#[(((p.en.ext Y).ext x6).ext x7).offK s,a8.offK s n7],n7,bz,(R.put r7).imp λ_ _ r=>r.offK s,K]
    ·cases K
   ·rename_i ck
    rw[Quq ck]
    let#[b2,n5]:=G u
    show#[a0,h,S5,c,j,x2.trans u,p.to Y I,n5,b2,racc.ext' u,e7]
  ·cases e2
 ·have e3:i=n.length:=by omega
  subst e3
  rw[List.drop_length] at e2
  unfold i9 at e2
  split at e2
  ·rename_i w
   let#[rfl,rfl]:=cq e2
   let#[w1,w2]:=wk n.length d X H2 x2 ok2.st w
   show .inl #[w2 L,q d D j H2 (x1.trans x2) ok2.st (x1.grow _ U) n2 hD2 racc]
  ·cases e2
noncomputable def MR(n:Nat)(f:cv->aE->Option (List (Key×D)×aE)):cH:=λb S=>(f b S).bind λ(l,a)=>some (.nx (b.set n<|some<|.ref a.length) (a++ [.dct l]))
def Iw{j:Pos}
  (S:aM X N js d r) (hc:X.calm=true) (hi:PI X u f (tI (md X) i))
  (K:∀C s H fp,PG (aN X N d r C s H fp) u<|tG (md X) g) (ht:∀C s H fp,m6 (aN X N d r C s H fp) m<|tB (md X) t) (M:∀C s H fp,PE (aN X N d r C s H fp) v<|tD (md X) B) (hv:∀C s H fp,PE (aN X N d r C s H fp) w<|tD (md X) J) (y:PG X h (oq n))
  (Z:autoParam (∀x,foldedSetIterable f X.env x=pure x) dl._auto_1) (A:autoParam (swapsWithSole [h] (.DictComp v w [⟨u,f,m,0⟩] d c) j.line X.env=pure true) db._auto_1)
  (P:autoParam ((assignEach [h] X.env).map (·.2)= [assign h X.env]) db._auto_1):PS X (.Assign [h] (.DictComp v w [#[u,f,m,0]] d c) j) (tS (md X)<|MR n<|p_ js i g t B J):=
 CH (E6 S hc hi K ht M hv y Z A P) λD σ H W=>by
  let#[Y,Γ,S,o,ok,e,q]:=W
  let#[#[l,S1],e1,e]:=aq e
  cases e
  show Ik ok e1 λk a kv I x G Q U ha R=>?_
  let z:=G.box (o:=.dct l) U #[kv,ha,R.pre'<|List.prefix_append k [a]]
  have F:bX Y H (k++ [a]) I:=⟨x.pre.trans (List.prefix_append _ _),λb p=>by
   rcases mQa.mp p with p|p
   ·show x.new b p
   ·rw[Qfq] at p;subst p;show .inr Q,x.keep,x.grow⟩
  show q (k++ [a]) _ I F #[((ok.en.ext F).set (.ref ?_)),z]
  rw[<-G.len,QQq (Qmq _)]
  simp
end DL
namespace Zp
open PySem PySem.W PyProof.Rows
end Zp
namespace L2
open PyProof.Rows
end L2
namespace DL
open PyProof.Rows L2
def qL(a b:Str):Prop:=¬(b.cps.toList<a.cps.toList)
instance(a b:Str):Decidable (qL a b):=by unfold qL;infer_instance
def C8(a b:Str):qL a b\/qL b a:=by
 by_cases h:b.cps.toList<a.cps.toList
 ·show .inr λc=>List.lt_asymm h c
 ·show .inl h
def vF(e:qL a b)(d:qL b c):qL a c:=by
 unfold qL at *
 rw[List.not_lt] at *
 show List.le_trans e d
def EZ(c:qL a b)(d:qL b a):a=b:=by
 unfold qL at *
 rw[List.not_lt] at *
 have:=List.le_antisymm c d
 cases a
 cases b
 erw[Str.mk.injEq]
 show Array.toList_inj.mp this
noncomputable def AO(x:Str):List Str->List Str
 | []=> [x]
 |y::r=>if qL x y then x::y::r else y::AO x r
noncomputable def p6:List Str->List Str
 | []=> []
 |x::r=>AO x (p6 r)
theorem qj(x:Str):∀l:List Str,(AO x l).Perm (x::l)
 | []=>List.Perm.refl _
 | y::r=>by
   unfold AO
   split
   · show List.Perm.refl _
   · show((qj x r).cons y).trans (List.Perm.swap _ _ _)
theorem kJ:∀l:List Str,(p6 l).Perm l
 | []=>List.Perm.refl _
 |x::r=>(qj x _).trans ((kJ r).cons x)
theorem qu:∀{l:X6},l.Pairwise qL->(AO x l).Pairwise qL
 | [],_=>by simp[AO]
 | y::r,h=>by
   rw[List.pairwise_cons] at h
   unfold AO
   split
   · rename_i c
     show List.pairwise_cons.mpr #[λz a=>?_,List.pairwise_cons.mpr h]
     rcases Qsq.mp a with rfl|a
     · show c
     · show vF c<|h.1 z a
   · rename_i c
     show List.pairwise_cons.mpr #[λz a=>?_,qu h.2]
     rcases Qsq.mp ((qj x r).mem_iff.mp a) with rfl|a
     · show(C8 _ _).resolve_left c
     · show h.1 z a
theorem jg:∀l:List Str,(p6 l).Pairwise qL
 | []=>List.Pairwise.nil
 |x::r=>qu (jg r)
def wK:∀{l:X6},sortedS l=true->l.Pairwise qL
 | [],_=>List.Pairwise.nil
 | x::r,h=>by
   have e:∀(r:X6) (x:Str),risingS x r=true->(x::r).Pairwise qL:=by
     intro r
     induction r with
     |nil=>intro x _;simp
     | cons y r d=>
       intro x h
       unfold risingS at h
       erw[QCq] at h
       let c:=d y h.2
       have b:qL x y:=by
         have:=h.1
         unfold qL
         rw[ltCps_eq] at this
         simpa using this
       show List.pairwise_cons.mpr #[λz a=>?_,c]
       rcases Qsq.mp a with rfl|a
       · show b
       · show vF b ((List.pairwise_cons.mp c).1 z a)
   show e r x h
def C1(h:sortedS c=true)(p:c.Perm d):c=p6 d:=
 List.Perm.eq_of_pairwise (le:=qL) (λa b _ _ f e=>EZ f e) (wK h) (jg d) (p.trans (kJ d).symm)
end DL
namespace L2
open PyProof.Rows
end L2
namespace DL
open L2
noncomputable def vj:List D->Option (List Str)
 | []=>some []
 |.str x::r=>(vj r).bind λc=>some (x::c)
 |_::_=>none
theorem zO:∀{ds:List D} {vs:List V} {xs:X6},bj M ρ H ds vs->vj ds=some xs->vs=xs.map V.str
 | [],_,_,h,e=>by cases h;cases e;rfl
 | d::ds,_,_,h,e=>by
   cases d with
   | str b=>
     erw[vj] at e
     let#[f,c,e]:=aq e
     cases e
     cases h with
     | cons h i=>
       cases h
       rw[zO i c]
       rfl
   |_=>cases e
theorem vD:∀c:List Str,bj M ρ H (c.map D.str) (c.map V.str)
 | []=>.nil
 |s::c=>.cons (.str s) (vD c)
noncomputable def BG(f:d0):fT:=λh S=>(f h S).bind λ(p,d)=>if p.2.isL=true then(vj p.1).bind λc=>if c.length<64 then some ((p6 c).map D.str,d) else none else none
def Ny(o:Gl X "sorted")(C:X.mg "sorted"=none)(G:PE X a (tQ (md X) f))(i:autoParam (starEach [a] X.env= [(false,eval a X.env)]) db._auto_1):
  PE X (.Call (.Name "sorted" p) [a] [] g) (tL (md X)<|BG f):=
 kr (jr wQ o C PyProof.Rows.boot_sorted (dD G gh i) (he:=i)) λK H Q z=>by
  let#[A,B,S,d,M,ok,e,q]:=z
  let#[#[#[v,t],I],F,e]:=aq e
  dsimp only at e
  split at e
  ·rename_i c
   let#[m,w,e]:=aq e
   split at e
   ·rename_i y
    let#[rfl,rfl]:=cq e
    show#[A,B,S,v,t,I,ok,F,λn a J N x j h r=>#[a,m,L,?_,y,λl s hl u k=>?_]]
    ·rw[<-zO r w];show h.sqL c
    ·cases C1 u k
     show q _ _ _ _ (x.trans<|bX.laid hl) (j.lay hl) (x.grow _ hl) (cW x j hl) bz<|vD _
   ·cases e
  ·cases e
def BL{K:X1}:bC P w K d a dX k f g ps (eM #[K,d] n λ_ _=>none):=
 {len:=λi H Q E h=>by
   let#[_,_,_,_,_,_,_,_,e,_]:=h
   cases e
  run:=λA b s H c j i Q E _ _ _ _ h=>by
   let#[_,_,_,_,_,_,_,_,e,_]:=h
   cases e}
end DL
namespace Zq
open PySem PyProof.Rows
end Zq
namespace L2
open PySem PyProof.Rows Zq
end L2
namespace DL
open L2
structure BO(P:X9)(w:Xc)(K:X1)(mg:X3)(x:Str)(tbl:List (Str×Str)):Prop where
 at_:∃a,mg x=some (.ref a)/\∀h:Heap,K.In h->∃vs,h.DictOf (bT P w) a vs/\∀k nm,tbl.lookup k=some nm->∃f,valueAt vs (Sum.inr k:Key)=some (.ref f)/\mg nm=some (.ref f)
noncomputable def Ou(d:List (Str×Str))(g:bp):bp:=λi S=>(g i S).bind λ(y,f)=>match y with
 |.str x=>(d.lookup x).bind λnm=>some (.fn nm,f)
 |_=>none
def HU{X:Cx}(P:BO X.prog X.w X.K X.mg x j)(N:Gl X x)(M:PE X b (tD (md X) g))(hs:IL b)(G:autoParam ((x==("__debug__":Str))=false) cU._auto_1):
  PE X (.Subscript (.Name x p) b h) (tD (md X)<|Ou j g):=by
 rintro l s σ H Q I ⟨A,Γ,S,d,S',ok,e,q⟩
 let#[a,hm,U]:=P.at_
 let#[#[y,C],e1,e]:=aq e
 cases y with
 | str z=>
   let#[nm,Y,e]:=aq e
   let#[rfl,rfl]:=cq e
   show Cc PySem.F.slot_dict_getitem.lookup hs<|xJ I N hm ?_ G
   show cO (M l s σ H (λv m=>∃i,bX A H i m/\fR (md X) i C m/\Rel (md X) i m (.str z) v) I #[A,Γ,S,_,C,ok,e1,λi v m x st r=>#[i,x,st,r]]) λiv R qr=>?_
   let#[v,H2,u,Z,i,x2,t,r2]:=qr
   let#[vs,B,hv]:=U _ u.kIn
   let#[f,hf,n]:=hv z nm Y
   cases r2
   have ty:R.TypeIs (.ref a) "dict":=by
     let#[o,es,ep,W,J,h3,_]:=B
     show#[o,W,J.1]
   show#[ty,wpAny_getItem_of (va (k:=Sum.inr z) Z) B.mapOf hf ?_]
   show#[.ref f,H2,u.tok _,L,q _ _ _ x2 t<|.fn n]
 |_=>cases e
def sD(i:Nat)(T:List (Str×dE))(g:fT):bp:=λd S=>match d[i]? with
 |some (some<|.fn x)=>(T.lookup x).bind λF=>aA F g d S
 |_=>none
def Hg{X:Cx}{T:List (Str×dE)}(Z:∀x F,T.lookup x=some F->ft X.prog X.w X.K X.mg X.base k x ps F)(hr:eP k X.A)(hN:X.N[i]?=some y)(hv:Io X.env.scope y)
  (ha:PA X (e::es) (zV (md X) g)) (hn:nA ps.length g) (B:autoParam ((y==("__debug__":Str))=false) cU._auto_1) (z:autoParam ((y==("__classdict__":Str))=false) cU._auto_1) (he:autoParam (starEach (e::es) X.env=(false,eval e X.env)::starEach es X.env) db._auto_1) (hpl:autoParam ((backTo h<|starEach es X.env).any (·.1)=false) db._auto_1):
  PE X (.Call (.Name y p) (e::es) [] h) (tD (md X)<|sD i T g):=by
 rintro j s n H Q I ⟨ρ,Γ,S,d,S',ok,e,q⟩
 unfold sD at e
 split at e
 ·rename_i x hx
  let#[F,o,e]:=aq e
  let#[f,fd,G,U,P,m]:=(Z x F o).ex
  let#[v,t,rv]:=ok.en.get i _ hx
  cases rv with
  | fn hm=>
    have M:(md X).mg x=some (.ref f):=m
    rw[hm] at M
    cases M
    show wpAny_Call_Name_kw (cO (Fd hN hv B z j s n H (λC l=>C=.ref f/\l=H) I #[_,t,L,L]) λu s1 qr=>?_)
    let#[C,l,Y,R,o,e2]:=qr
    subst o e2
    cases (show u=Value.ref f from R)
    show PySem.W.callWith_K (h₀:=X.base) I.ok.mod.kin P (cO (ha h j s1 n l _ Y<|Cg hn n l Q #[ρ,Γ,S,d,S',ok,e,q]) λus s2 ⟨vs,H1,J,r,q2⟩=>#[J.kIn,?_]) he hpl
    show FC G hr U .nil Ei J r q2
 ·cases e
def A0(w:Xc)(x:Str):PyData.keyHash w.params x=hashStr w x:=by
 unfold PyData.keyHash hashStr
 first|rfl|simp
inductive Al(w:Xc)(mg:X3):List DictEntry->List (Str×Str)->Prop
 |nil:Al w mg [] []
 |cons {x nm:Str} {t:Tok} {f:X8} {es:List DictEntry} {tbl:List (Str×Str)}:mg nm=some (.ref f)->Al w mg es tbl->Al w mg (#[PyData.keyHash w.params x,.str x t,.ref f]::es) ((x,nm)::tbl)
def Al.keys(b:Al w c es a):∀e∈es,∃k,(bT P w).is k e.key=true/\e.hash=(bT P w).hash k:=by
 induction b with
 |nil=>intro e h;cases h
 | @cons x nm t f es a hm b ih=>
   intro e h
   rcases Qsq.mp h with rfl|h
   · show#[Sum.inr x,pN x t,A0 w x]
   · show ih e h
def Al.pairs(d:Al w e es a):∃vs:List (Key×Value),Pairs (bT P w) es vs/\vs.map (·.1)=a.map (λp=>Sum.inr p.1)∧
  ∀k nm,a.lookup k=some nm->∃f,valueAt vs (Sum.inr k:Key)=some (.ref f)/\e nm=some (.ref f):=by
 induction d with
 |nil=>show#[[],.nil,L,λk nm h=>by cases h]
 | @cons x nm t f es a hm d ih=>
   let#[vs,m,i,o]:=ih
   show#[(Sum.inr x,.ref f)::vs,.cons (pN x t) L m,by simp[i],λk n h=>?_]
   by_cases c:k=x
   · subst c
     rw[List.lookup_cons_self] at h
     cases h
     show#[f,?_,hm]
     unfold valueAt
     rw[List.find?_cons_of_pos (by simp)]
     rfl
   · have j:(k==x)=false:=by simpa using c
     rw[List.lookup_cons,j] at h
     let#[g,b,l]:=o k n h
     show#[g,?_,l]
     unfold valueAt at b|-
     rw[List.find?_cons_of_neg]
     · show b
     · intro z
       have:(Sum.inr x:Key)=Sum.inr k:=by simpa using z
       show c (Sum.inr.inj this).symm
def EL{K:X1}{d:X3}{es:List DictEntry}(q:d x=some (.ref a))(l:K.lookup a=some #[.type "dict",none,.dict es.toArray r,(List.toArray [])])(f:Al w d es c)(i:(c.map (·.1)).Nodup):BO P w K d x c:=by
 let#[k,m,g,o]:=f.pairs (P:=P)
 show#[a,q,λh j=>#[k,#[_,_,_,j _ _ l,#[L,L,L],L,λe s=>f.keys e (by simpa using s),by simpa using m,?_],o]]
 rw[g]
 have:c.map (λp=>(Sum.inr p.1:Key))=(c.map (·.1)).map Sum.inr:=by rw[QPq];rfl
 rw[this]
 show List.Pairwise.map _ (λa b n e=>n<|Sum.inr.inj e) i
theorem EY{K:X1}:∀{T:List (Str×dE)},(∀p∈T,ft P w K b a k p.1 ps p.2)->∀x F,T.lookup x=some F->ft P w K b a k x ps F
 | [],_,x,F,h=>by cases h
 | p::T,g,x,F,h=>by
   by_cases c:x=p.1
   · subst c
     rw[List.lookup_cons_self] at h
     cases h
     show g p<|QBq ..
   · have e:(x==p.1)=false:=by simpa using c
     rw[List.lookup_cons,e] at h
     show EY (λq d=>g q<|Qpq _ d) x F h
def zC:Sp:=λc H Q _=>∃(a:X8) (b:List Int) (o:Obj),c= [.ref a]/\H a=some (.frz o (.lst (b.map V.int)))/\b.length<=63/\∀d,Q (.bl true) d
theorem pX:∀ns:List Int,bj M ρ H (ns.map D.int) (ns.map V.int)
 | []=>.nil
 |s::ss=>.cons (.int s) (pX ss)
def Hs{K:X1}(G:bC P w K i c dX k f j ps (eM #[K,i] 1 F))
  (h:∀ns:List Int,ns.length<=63->∃g,F [.ref 0] [.frz (ns.map D.int)]=some (.d (.bl true),g)):bC P w K i c dX k f j ps zC:=
 G.imp λu H Q E p=>by
  let#[a,ns,o,e,s,hl,q]:=p
  subst e
  let#[g,e]:=h ns hl
  show#[[a],[.frz (ns.map D.int)],[.ref 0],_,g,L,.cons (.ref L) .nil,#[L,by simp,λk b y l m=>?_],e,λn v t x z r=>?_]
  ·cases k with
   |zero=>cases l;cases m;show#[_,o,s,pX ns]
   |succ k=>simp at l
  ·cases r
   show q t
noncomputable def Ag(K:X1):Bool:=K.all λp=>match p.2.data with|.seq _ _=>(match p.2.cls with|.type s=>s !="list" |_=>true)|_=>true
def DA{K:X1}(h:Ag K=true)(e:K.lookup a=some o)(i:o.data=.seq f n):o.cls≠.type "list":=by
 intro l
 have d:∀(K:X2),K.all (λp=>match p.2.data with|.seq _ _=>(match p.2.cls with|.type s=>s !="list" |_=>true)|_=>true)=true->K.lookup a=some o->False:=by
  intro K
  induction K with
  |nil=>intro _ e;cases e
  | cons p K k=>
    intro h e
    rw[List.all_cons,QCq] at h
    let#[b,q]:=p
    rw[List.lookup_cons] at e
    by_cases c:a=b
    · subst c
      erw[BEq.rfl] at e
      cases e
      let g:=h.1
      erw[i,l] at g
      simp at g
    · have j:(a==b)=false:=by simpa using c
      rw[j] at e
      show k h.2 e
 show d K h e
def NJ{K:X1}{ns:List Int}(nl:Ag K=true)(hl:ns.length<=63)(c:IG H)(b:iX K H a (ns.map V.int)):zC [.ref a] H (λv _=>v=.bl true) λ_ _ _=>False:=by
 rcases b with(h|⟨o,h⟩)|⟨o,its,n,h,hc,_,hd,_⟩
 ·rcases c a with z|⟨o,d,z⟩
  ·rw[h] at z;cases z
  ·rw[h] at z;cases z
 ·show#[a,ns,o,L,h,hl,λ_=>rfl]
 ·show absurd hc<|DA nl h hd
def Mg{l:PySem.W.OpenLaw}{m:World->Heap->Prop}{d:DefRec}{K:Params->PySem.W.Frag}(v:l.most=some 63)(g:d.params.defaults= [])(t:eP k PySem.callerA)
  (r:∀(w:Xc) (h:Xe),m w h->(K w.params).In h) (nl:∀w:World,Ag (K w.params)=true)
  (F:∀(w:Xc) (e:X3) (j:X8) (h:Xe),(K w.params).In h->h.Ns mainGlobals e->e d.name=some (.ref j)->
   ∃i:FuncData,(∀(s:X4) (u:Xd),BindsTo s i #[[u],[]] [("_law_script",u)])/\∀b:Heap,(K w.params).In b->b.Ns mainGlobals e->bC l.prog w (K w.params) e b dX k j i ["_law_script"] zC):
  PySem.W.WalkO q c o m l.row.toRowW d [] (λf vs=>PySem.call f vs):=
 L2.Ho (n:=63) (k:=k) (x:="_law_script") (CX:=λ_=>dX) (sp:=λ_=>zC) v (!1) g t r F (λw H a A hl p y=>NJ (nl w) hl p y) λ_ _ _ _ _ z=>z
end DL
namespace DL
open L2 PyProof.Rows
def v8{X:Cx}{a:Pos}(i:Nat)(g:X.N.Nodup)(he:PE X e (tD (md X) f))(hi:autoParam (X.N[i]?=some x) db._auto_1)(h:autoParam (Loc X.env.scope x) ec._auto_1)(d:autoParam (swapsWith e (some<|.Name x b) a.line X.env=pure false) db._auto_1)
  (c:autoParam (X.fn x=true\/X.env.scope.names.lookup x=some .local) cS._auto_1):PS X (.Assign [.Name x b] e a) (tS (md X)<|aV i f):=Nc (Ki g hi h he d c)
def QN{X:Cx}(i:Nat)(d:X.N.Nodup)(hi:autoParam (X.N[i]?=some x) db._auto_1)(g:autoParam (Loc X.env.scope x) ec._auto_1)(c:autoParam (X.fn x=true\/X.env.scope.names.lookup x=some .local) cS._auto_1):PG X (.Name x a) (oq i):=xx d hi g c
def EN{X:Cx}(i:Nat)(d:X.N.Nodup)(hi:autoParam (X.N[i]?=some x) db._auto_1)(g:autoParam (Loc X.env.scope x) ec._auto_1)(c:autoParam (X.fn x=true\/X.env.scope.names.lookup x=some .local) cS._auto_1):PG X (.Name x a) (tG (md X)<|bB i):=FD (xx d hi g c)
def QK{N:X6}(i:Nat)(j:autoParam (N.Nodup) ef._auto_1)(hi:autoParam ((aN X N c d C s H fp).N[i]?=some x) db._auto_1)(h:autoParam (Loc (aN X N c d C s H fp).env.scope x) ec._auto_1)
  (g:autoParam ((aN X N c d C s H fp).fn x=true\/(aN X N c d C s H fp).env.scope.names.lookup x=some .local) cS._auto_1):PG (aN X N c d C s H fp) (.Name x a) (tG (md<|aN X N c d C s H fp)<|bB i):=FD (xx j hi h g)
def v_{X:Cx}(i:Nat)(h:autoParam (X.N[i]?=some x) db._auto_1)(g:autoParam (Io X.env.scope x) dz._auto_1)(d:autoParam ((x==("__debug__":Str))=false) cU._auto_1)(c:autoParam ((x==("__classdict__":Str))=false) cU._auto_1):PE X (.Name x a) (tD (md X)<|au i):=N4 (pv i h g d c)
def MQ{X:Cx}(C:ft X.prog X.w X.K X.mg X.base k x ps F)(h:eP b X.A)(f:PA X (e::es) (zV (md X) g))(d:autoParam (k<=b) ei._auto_1)(i:autoParam (Gl X x) db._auto_1)
  (j:autoParam (nA ps.length g) ej._auto_1)
  (c:autoParam ((x==("__debug__":Str))=false) cU._auto_1) (he:autoParam (starEach (e::es) X.env=(false,eval e X.env)::starEach es X.env) db._auto_1) (hpl:autoParam ((backTo a<|starEach es X.env).any (·.1)=false) db._auto_1):
  PE X (.Call (.Name x p) (e::es) [] a) (tD (md X)<|aA F g):=N8 C (h.mono d) i f j c he hpl
def Mw{X:Cx}(C:ft X.prog X.w X.K X.mg X.base k x ps F)(h:eP b X.A)(f:PA X (e::es) (zV (md X) g))(d:autoParam (k<=b) ei._auto_1)(i:autoParam (Gl X x) db._auto_1)
  (j:autoParam (nA ps.length g) ej._auto_1)
  (c:autoParam ((x==("__debug__":Str))=false) cU._auto_1) (he:autoParam (starEach (e::es) X.env=(false,eval e X.env)::starEach es X.env) db._auto_1) (hpl:autoParam ((backTo a<|starEach es X.env).any (·.1)=false) db._auto_1):
  PE X (.Call (.Name x p) (e::es) [] a) (tL (md X)<|dU F g):=Mp C (h.mono d) i f j c he hpl
def fD{N P:X6}{h:Scope}(a:autoParam (h.kind=.function) db._auto_1)(b:autoParam (h.isCoroutine=false) db._auto_1)(c:autoParam (h.isGenerator=false) db._auto_1)(d:autoParam (N.Nodup) ef._auto_1)(e:autoParam (N.take P.length=P) db._auto_1)
  (f:autoParam (∀x∈P,h.names.lookup x=some .local\/h.names.lookup x=some .cell) ef._auto_1) (g:autoParam (∀y∈h.names,y.2≠.free) ef._auto_1):aJ N P h:=#[a,b,c,d,e,f,g]
structure bh(K:X1)(x:Str)(st:Stmt)(f:X8):Prop where
 ex:∃(oc:Xd) (od:Option Addr) (kV dc pm:Xd) (an:Option Addr) (cd ct:Xd) (sl:Array (Option Value)),PySem.W.nsIn K mainGlobals x=some (some<|.ref f)∧
  K.lookup f=some #[oc,od,.func (PySem.W.fnOf x x (gR st) (eW st) (aC st) .none kV dc pm an cd ct),sl]/\PySem.W.codeIn K cd x=true/\PySem.W.keepIn K (.ref f)=true
def bh.of{K:X1}{x:Str}{st:Stmt}{f:X8}{i:Xd}{g:Option Addr}{kV h e:Xd}{d:Option Addr}{b j:Xd}{sl:Array (Option Value)}(a:PySem.W.nsIn K mainGlobals x=some (some<|.ref f))
  (l:K.lookup f=some #[i,g,.func (PySem.W.fnOf x x (gR st) (eW st) (aC st) .none kV h e d b j),sl]) (c:PySem.W.codeIn K b x=true) (k:PySem.W.keepIn K (.ref f)=true):bh K x st f:=#[i,g,kV,h,e,d,b,j,sl,a,l,c,k]
structure OC(K:X1)(mg:X3)(x:Str)(st:Stmt)(ps:X6)(f:X8):Prop where
 ex:∃fd,eQ K x x st f fd/\Binds K fd ps []/\PySem.W.keepIn K (.ref f)=true
 m:mg x=some (.ref f)
theorem zlz:∀{ps:List PySem.Str}{us:List PySem.Value}{n:PySem.Str},us.length=ps.length->n∈ps->((ps.zip us).lookup n).isNone=false
 |[],_,n,_,h=>nomatch h
 |p::ps,[],n,hl,_=>nomatch hl
 |p::ps,u::us,n,hl,h=>by
  rw[List.zip_cons_cons,List.lookup_cons]
  by_cases c:n=p
  ·subst c;simp
  ·have e:(n==p)=false:=by simpa using c
   rw[e]
   exact zlz (Nat.succ.inj hl) ((List.mem_cons.mp h).resolve_left c)
theorem zlf:∀{ps:List PySem.Str}{us:List PySem.Value},ps.Nodup->us.length=ps.length->ps.filterMap (fun n=>((ps.zip us).lookup n).map fun v=>(n,v))=ps.zip us
 |[],_,_,_=>rfl
 |p::ps,[],_,hl=>nomatch hl
 |p::ps,u::us,nd,hl=>by
  obtain ⟨n1,n2⟩:=List.nodup_cons.mp nd
  rw[List.zip_cons_cons,List.filterMap_cons,List.lookup_cons_self]
  have key:∀qs:List PySem.Str,(∀n∈qs,n≠p)->qs.filterMap (fun n=>(((p,u)::ps.zip us).lookup n).map fun v=>(n,v))=qs.filterMap (fun n=>((ps.zip us).lookup n).map fun v=>(n,v)):=by
   intro qs
   induction qs with
   |nil=>intro _;rfl
   |cons q qs ih=>
    intro h
    have c:(q==p)=false:=beq_eq_false_iff_ne.mpr (h q (List.mem_cons_self ..))
    rw[List.filterMap_cons,List.filterMap_cons,ih fun n hn=>h n (List.mem_cons_of_mem _ hn),List.lookup_cons,c]
  exact congrArg ((p,u)::·) ((key ps fun n hn z=>n1 (z▸hn)).trans (zlf n2 (Nat.succ.inj hl)))
theorem zbp{x:PySem.Str}{A:PySem.Arguments}{B:List PySem.Stmt}{C:PySem.Scope}{ps:List PySem.Str}(h1:A=⟨[],A.args,none,[],[],none,[]⟩)(h2:A.args.map (·.arg)=ps)(nd:ps.Nodup)(kV doc pm:PySem.Value)(an:Option PySem.Addr)(cdv ct:PySem.Value)(us:List PySem.Value)(hl:us.length=ps.length):PySem.bindArgs (PySem.W.fnOf x x A B C .none kV doc pm an cdv ct) ⟨us,[]⟩=pure (ps.zip us):=by
 rw[h1]
 subst h2
 generalize A.args=as at hl nd ⊢
 have hf:((as.map (·.arg)).filter fun n=>(((as.map (·.arg)).zip us).lookup n).isNone)=[]:=List.filter_eq_nil_iff.mpr fun n hn=>by rw[zlz hl hn];exact Bool.false_ne_true
 have hz:=zlf nd hl
 generalize hp:as.map (·.arg)=ps at hl hf hz
 have hs:PySem.seqItems? PySem.Value.none=pure none:=rfl
 unfold PySem.bindArgs
 simp only[PySem.W.fnOf,hp,List.map_nil,List.nil_append,hs,pure_bind,hl]
 rw[List.forIn_nil,pure_bind]
 simp only[gt_iff_lt,Nat.lt_irrefl,decide_false,Bool.false_and,Bool.false_eq_true,if_false,Option.getD_none,List.drop_nil,List.length_nil,Nat.sub_zero,List.take_length,hf,List.isEmpty_nil,Bool.not_true,List.zip_nil_right,List.forIn_nil,pure_bind,List.append_nil,hz]
def bh.ok1{K:X1}{k:X3}{x:Str}{st:Stmt}{ps:X6}{f:X8}{h:Xe}(D:bh K x st f)(X:K.In h)(G:h.Ns mainGlobals k)
  (z1:autoParam (gR st=⟨[],(gR st).args,none,[],[],none,[]⟩) db._auto_1)(z2:autoParam ((gR st).args.map (·.arg)=ps) db._auto_1)(z3:autoParam (ps.Nodup) ef._auto_1):OC K k x st ps f:=by
 let#[p,r,kV,o,e,j,q,l,sl,n,g,i,b]:=D.ex
 show#[#[_,AM g i b,(AM g i b).binds (zbp z1 z2 z3),b],PySem.W.mg_of X G n]
structure Pk(P:X9)(w:Xc)(base:Xe):Prop where
def OC.cal{P:X9}{w:Xc}{a:Xe}{K:X1}{c:X3}{x:Str}{st:Stmt}{ps:X6}{f:X8}{k:Nat}{F:dE}(O:OC K c x st ps f)(Z:Pk P w a)
  (h:∀b,eQ K x x st f b->Binds K b ps []->PySem.W.keepIn K (.ref f)=true->c x=some (.ref f)->bC P w K c a dX k f b ps (eM #[K,c] ps.length F)):ft P w K c a k x ps F:=by
 let#[b,g,d,e]:=O.ex
 show#[f,b,h b g d e O.m,d,e,O.m]
end DL
namespace DL
open L2
def E(f:cv->aE->Option (α×aE))(c:cv)(S:aE)(Q:α->aE->Prop):Prop:=∃a b,f c S=some (a,b)/\Q a b
def T(f:cH)(a:cv)(S:aE)(Q:Out->Prop):Prop:=∃o,f a S=some o/\Q o
def Fn(F:dE)(ds:List D)(S:aE)(Q:Res->aE->Prop):Prop:=∃r a,F ds S=some (r,a)/\Q r a
def Tg(g:mv)(d:D)(c:cv)(S:aE)(Q:cv->aE->Prop):Prop:=∃a b,g d c S=some (a,b)/\Q a b
def Oq(g:qZ)(d:List D)(c:cv)(S:aE)(Q:cv->aE->Prop):Prop:=∃a b,g d c S=some (a,b)/\Q a b
def Op(o:Option α)(Q:α->Prop):Prop:=∃d,o=some d/\Q d
def E.mono{Q R:α->aE->Prop}(h:E f s S Q)(i:∀a S,Q a S->R a S):E f s S R:=by
 let#[a,b,e,q]:=h
 show#[a,b,e,i _ _ q]
def T.mono{Q R:Out->Prop}(h:T f s S Q)(i:∀o,Q o->R o):T f s S R:=by
 let#[a,e,q]:=h
 show#[a,e,i _ q]
def ax{Q:D->aE->Prop}(h:s[i]?=some (some d))(q:Q d S):E (au i) s S Q:=#[d,S,by unfold au;rw[h],q]
def dI{Q:D->aE->Prop}(q:Q d S):E (cF d) s S Q:=#[d,S,L,q]
def aI{Q:List D->aE->Prop}(q:Q [] S):E av s S Q:=#[[],S,L,q]
def aw{Q:List D->aE->Prop}(h:E f s S λd a=>E g s a λds S2=>Q (d::ds) S2):E (ar f g) s S Q:=by
 let#[d,a,b,ds,S2,c,q]:=h
 show#[_,_,by unfold ar;rw[b];erw[Qbq];rw[c];rfl,q]
def b_{o:uA}{Q:D->aE->Prop}(h:E f s S λx a=>E g s a λy S2=>Op (o S2 x y) λd=>Q d S2):E (bf o f g) s S Q:=by
 let#[x,a,b,y,S2,e,d,c,q]:=h
 show#[d,S2,by unfold bf;rw[b];erw[Qbq];rw[e];erw[Qbq];rw[c];rfl,q]
def cb{Q:D->aE->Prop}(h:E f s S λds a=>ds.length<=sizeLine/\Q (.tup ds) a):E (aW f) s S Q:=by
 let#[ds,a,b,l,q]:=h
 show#[_,_,by unfold aW;rw[b];erw[Qbq];rw[Qhq l],q]
def cR{Q:List D->aE->Prop}(h:E f s S λds a=>ds.length<=sizeLine/\Q ds a):E (bq f) s S Q:=by
 let#[ds,a,b,l,q]:=h
 show#[_,_,by unfold bq;rw[b];erw[Qbq];rw[Qhq l],q]
def cG{Q:D->aE->Prop}(h:E f s S λds a=>Q (.ref a.length) (a++ [.lst ds])):E (bA f) s S Q:=by
 let#[ds,a,b,q]:=h
 show#[_,_,by unfold bA;rw[b];rfl,q]
def Mj{o:Jt}{Q:D->aE->Prop}(h:E f s S λds a=>Op (o ds) λd=>Q d a):E (Cu o f) s S Q:=by
 let#[ds,a,b,d,c,q]:=h
 show#[d,a,by unfold Cu;rw[b];erw[Qbq];rw[c];rfl,q]
def bQ{Q:(List D×Tag)->aE->Prop}(h:E f s S λd a=>Op (uk a d) λp=>Q p a):E (aP f) s S Q:=by
 let#[e,a,b,d,c,q]:=h
 show#[d,a,by unfold aP;rw[b];erw[Qbq];rw[c];rfl,q]
def je{Q:(List D×Tag)->aE->Prop}(h:E f s S λds a=>Q (ds,.fr) a):E (fg f) s S Q:=by
 let#[ds,a,b,q]:=h
 show#[_,a,by unfold fg;rw[b];rfl,q]
def qF{Q:D->aE->Prop}(h:E f s S λp a=>Q (.int p.1.length) a):E (et f) s S Q:=by
 let#[p,a,b,q]:=h
 show#[_,a,by unfold et;rw[b];rfl,q]
def eS{Q:D->aE->Prop}(h:E f s S λp a=>Q (.tup p.1) a):E (tupQ f) s S Q:=by
 let#[p,a,b,q]:=h
 show#[_,a,by unfold tupQ;rw[b];rfl,q]
def d_{Q:(List D×Tag)->aE->Prop}(h:E f s S λp a=>p.2.isL=true/\Q p a):E (dq f) s S Q:=by
 let#[p,a,b,l,q]:=h
 show#[_,a,by unfold dq;rw[b];erw[Qbq];rw[Qhq l],q]
def wU{Q:D->aE->Prop}(h:E f s S λp a=>(p.2.isL=true/\p.2.stays a p.1)/\Q (.bl (!p.1.isEmpty)) a):E (fO f) s S Q:=by
 let#[p,a,b,l,q]:=h
 show#[_,a,by unfold fO;rw[b];erw[Qbq];rw[Qhq l],q]
def bM(Q:D->aE->Prop)(r:Res)(S2:aE):Prop:=match r with|.d x=>Q x S2|.l _=>False
def bg(Q:List D->aE->Prop)(r:Res)(S2:aE):Prop:=match r with|.d _=>False|.l x=>Q x S2
def bN(Q:Bool->aE->Prop)(d:D)(a:aE):Prop:=match d with|.bl k=>Q k a|_=>False
def cP(g:cH)(Q:Out->Prop)(o:Out):Prop:=match o with|.nx a b=>T g a b Q|o=>Q o
def c7(I:Nat->cv->aE->Prop)(n:Nat)(Q:Out->Prop)(o:Out):Prop:=match o with|.nx a b=>I (n+1) a b|.ct a b=>I (n+1) a b|.bk a b=>Q (.nx a b)|o=>Q o
def hJ(S:aE)(Q:Res->aE->Prop)(o:Out):Prop:=match o with
 |.nx _ a=>Op (settle S .non a) λp=>Q p.1 p.2|.rt d a=>Op (settle S d a) λp=>Q p.1 p.2|.rl l a=>Op (fG S l a) λp=>Q p.1 p.2|_=>False
def QD{Q:D->aE->Prop}(h:Q x S):bM Q (.d x) S:=h
def QB{Q:List D->aE->Prop}(h:Q x S):bg Q (.l x) S:=h
def q5{Q:Bool->aE->Prop}(h:Q k S):bN Q (.bl k) S:=h
def QL(h:let a:=s;T g a S Q):cP g Q (.nx s S):=h
def bO(h:E g s S λds a=>Fn F ds a<|bM Q):E (aA F g) s S Q:=by
 let#[ds,a,c,r,b,e,q]:=h
 cases r with
 |d x=>show#[x,b,by unfold aA;rw[c];erw[Qbq];rw[e];rfl,q]
 |l x=>show q.elim
def j8(h:E g s S λds a=>Fn F ds a<|bg Q):E (dU F g) s S Q:=by
 let#[ds,a,c,r,b,e,q]:=h
 cases r with
 |d x=>show q.elim
 |l x=>show#[x,b,by unfold dU;rw[c];erw[Qbq];rw[e];rfl,q]
def bZ(h:E f s S (bN Q)):E (aK f) s S Q:=by
 let#[d,b,a,q]:=h
 cases d with
 |bl k=>show#[k,b,by unfold aK;rw[a];rfl,q]
 |_=>show q.elim
def CA{Q:Bool->aE->Prop}(h:E f s S λd a=>Op (AE a d) λk=>Q k a):E (lC f) s S Q:=by
 let#[d,a,b,k,c,q]:=h
 show#[k,a,by unfold lC;rw[b];erw[Qbq];rw[c];rfl,q]
def A2{Q:Bool->aE->Prop}(h:E f s S λk a=>Q (!k) a):E (sP f) s S Q:=by
 let#[k,a,b,q]:=h
 show#[_,a,by unfold sP;rw[b];rfl,q]
def kL(h:E f s S λk a=>if k=true then E g s a Q else Q false a):E (gD f g) s S Q:=by
 let#[k,a,b,q]:=h
 cases k with
 |true=>let#[j,c,d,q]:=(q:E g s a Q);show#[j,c,by unfold gD;rw[b];show d,q]
 |false=>show#[false,a,by unfold gD;rw[b];rfl,q]
def Cf(h:E f s S λk a=>if k=true then Q true a else E g s a Q):E (Fp f g) s S Q:=by
 let#[k,a,b,q]:=h
 cases k with
 |true=>show#[true,a,by unfold Fp;rw[b];rfl,q]
 |false=>let#[j,c,d,q]:=(q:E g s a Q);show#[j,c,by unfold Fp;rw[b];show d,q]
def Nu(h:E c s S λk a=>if k=true then E f s a Q else E g s a Q):E (sM c f g) s S Q:=by
 let#[k,a,e,q]:=h
 cases k with
 |true=>let#[j,b,d,q]:=(q:E f s a Q);show#[j,b,by unfold sM;rw[e];show d,q]
 |false=>let#[j,b,d,q]:=(q:E g s a Q);show#[j,b,by unfold sM;rw[e];show d,q]
def bE(h:E f s S λd a=>Q<|.nx (s.set i<|some d) a):T (aV i f) s S Q:=by
 let#[d,a,b,q]:=h
 show#[_,by unfold aV;rw[b];rfl,q]
def dM(h:E f s S λd a=>Q<|.rt d a):T (cB f) s S Q:=by
 let#[d,a,b,q]:=h
 show#[_,by unfold cB;rw[b];rfl,q]
def OV(h:E f s S λd a=>Q<|.rl d a):T (JL f) s S Q:=by
 let#[d,a,b,q]:=h
 show#[_,by unfold JL;rw[b];rfl,q]
def kE(h:E f s S λd a=>Q<|.nx s a):T (rj f) s S Q:=by
 let#[d,a,b,q]:=h
 show#[_,by unfold rj;rw[b];rfl,q]
def dg{Q:Out->Prop}(q:Q (.nx s S)):T fQ s S Q:=#[_,L,q]
def vQ(h:E f s S λd b=>Tg g d s b λa S2=>Q<|.nx a S2):T (lT f g) s S Q:=by
 let#[d,b,c,a,S2,e,q]:=h
 show#[_,by unfold lT;rw[c];erw[Qbq];rw[e];rfl,q]
def aG(h:T f s S (cP g Q)):T (aD f g) s S Q:=by
 let#[o,b,q]:=h
 cases o with
 |nx a c=>let#[o,d,q]:=(q:T g a c Q);show#[o,by unfold aD;rw[b];show d,q]
 |_=>show#[_,by unfold aD;rw[b];rfl,q]
def fE(h:E c s S λk a=>if k=true then T f s a Q else T g s a Q):T (fK c f g) s S Q:=by
 let#[k,a,d,q]:=h
 cases k with
 |true=>let#[j,b,q]:=(q:T f s a Q);show#[j,by unfold fK;rw[d];show b,q]
 |false=>let#[j,b,q]:=(q:T g s a Q);show#[j,by unfold fK;rw[d];show b,q]
def aR{s:cv}{Q:cv->aE->Prop}(q:Q (s.set i<|some d) S):Tg (bB i) d s S Q:=#[_,_,L,q]
def QP{Q:cv->aE->Prop}(h:E f s S λx a=>E g s a λy S2=>∃k i ds j,x=.ref k/\y=.int i/\S2[k]?=some (.lst ds)/\GL ds.length i=some j/\Q s (S2.set k<|.lst (ds.set j d))):Tg (J7 f g) d s S Q:=by
 let#[x,a,b,y,S2,c,k,i,ds,j,rfl,rfl,h1,h2,q]:=h
 show#[_,_,by unfold J7;rw[b];erw[Qbq];rw[c];erw[Qbq,h1,h2],q]
def fP (h:E i s S λp w=>∃I:Nat->cv->aE->Prop,I 0 s w/\(∀n a c,I n a c->p.2 c)∧
   (∀(n:Nat) (d:D) (a:cv) (c:aE),p.1[n]?=some d->I n a c->Tg g d a c λu S2=>cP b (c7 I n Q)<|.nx u S2)∧
   ∀a c,I p.1.length a c->Q (.nx a c)):T (ie i g b) s S Q:=by
 let#[#[r,W],w,B,I,A,x,f,m]:=h
 have F:∀(k n:Nat) (a:cv) (c:aE),n+k=r.length->I n a c->∃o,forL g b W (r.drop n) a c=some o/\Q o:=by
  intro k
  induction k with
  | zero=>
    intro n a c y t
    rw[List.drop_of_length_le (!0)]
    show#[.nx a c,by erw[forL];rw[Qhq (x _ _ _ t)],m _ _ (by rw[<-y];show t)]
  | succ k z=>
    intro n a c y t
    have l:n<r.length:=by omega
    rw[QWq l]
    let#[u,S2,v,o,C,q]:=f n r[n] a c (gQe l) t
    erw[forL]
    rw[Qhq (x _ _ _ t),v]
    erw[Qbq]
    rw[C]
    erw[Qbq]
    cases o with
    |nx e j=>show z (n+1) e j (!0) q
    |ct e j=>show z (n+1) e j (!0) q
    |bk e j=>show#[_,L,q]
    |rt d j=>show#[_,L,q]
    |rl d j=>show#[_,L,q]
 let#[o,v,q]:=F r.length 0 s w (!0) A
 show#[o,by unfold ie;rw[B];show v,q]
def gH{Q:List D->aE->Prop} (h:E i s S λp B=>∃I:Nat->cv->aE->List D->Prop,I 0 (mE js s) B []/\(∀n b e a,I n b e a->p.2 e)∧
   (∀(n:Nat) (d:D) (b:cv) (e:aE) (a:List D),p.1[n]?=some d->I n b e a->Tg g d b e λj S2=>E t j S2 λk x=>if k=true then E f j x λy A=>a.length<sizeLine/\I (n+1) j A (a++ [y]) else I (n+1) j x a)∧
   ∀b e a,I p.1.length b e a->Q a e):E (bx js i g t f) s S Q:=by
 let#[#[v,W],B,J,I,H,C,m,u]:=h
 have M:∀(k n:Nat) (b:cv) (e:aE) (a:List D),n+k=v.length->I n b e a->∃r l,mG g t f W (v.drop n) b e a=some (r,l)/\Q r l:=by
  intro k
  induction k with
  | zero=>
    intro n b e a F w
    rw[List.drop_of_length_le (!0)]
    show#[a,e,by erw[mG];rw[Qhq (C _ _ _ _ w)],u _ _ _ (by rw[<-F];show w)]
  | succ k G=>
    intro n b e a F w
    have o:n<v.length:=by omega
    rw[QWq o]
    let#[j,S2,z,c,x,K,q]:=m n v[n] b e a (gQe o) w
    erw[mG]
    rw[Qhq (C _ _ _ _ w),z]
    erw[Qbq]
    rw[K]
    erw[Qbq]
    cases c with
    | true=>
      rw[Qhq L] at q|-
      let#[y,A,N,hl,q]:=q
      rw[N]
      erw[Qbq]
      rw[Qhq hl]
      show G (n+1) j A _ (!0) q
    | false=>
      rw[Quq (!1)] at q|-
      show G (n+1) j x _ (!0) q
 let#[r,l,z,q]:=M v.length 0 _ B [] (!0) H
 show#[r,l,by unfold bx;rw[J];show z,q]
def il{Q:(List D×(aE->Prop))->aE->Prop}(h:E f s S λd a=>∃j,d=.int j/\(-(2^62)<=j/\j<2^62)/\Q (iG 0 j,λ_=>True) a):E (iH f) s S Q:=by
 let#[d,a,b,j,rfl,hj,q]:=h
 show#[_,a,by unfold iH;rw[b];erw[Qbq];rw[Qhq hj],q]
def ja{Q:(List D×(aE->Prop))->aE->Prop}(h:E f s S λp a=>Q (p.1,λb=>p.2.stays b p.1) a):E (gQ f) s S Q:=by
 let#[p,a,c,q]:=h
 show#[_,a,by unfold gQ;rw[c];rfl,q]
def wN{m:List D->List D->Option (List D×D)}{Q:D->aE->Prop}(h:E f s S λx b=>∃k a,x=.ref k/\b[k]?=some (.lst a)/\E g s b λys S2=>∃ds,S2[k]?=some (.lst ds)/\Op (m ds ys) λp=>Q p.2<|S2.set k<|.lst p.1):E (Ad m f g) s S Q:=by
 let#[x,b,c,k,a,rfl,h1,ys,S2,e2,ds,h2,p,e3,q]:=h
 show#[_,_,by unfold Ad;rw[c];erw[Qbq,e2,h1,h2,e3],q]
def cc{ds:List D}(h:cP b (hJ S Q) (.nx (ds.map some++List.replicate (n-ds.length) none) S)):Fn (fj n b) ds S Q:=by
 let#[o,e,q]:=h
 cases o with
 |nx g f=>let#[#[r,a],c,q]:=q;show#[r,a,by unfold fj;rw[e];show c,q]
 |rt d f=>let#[#[r,a],c,q]:=q;show#[r,a,by unfold fj;rw[e];show c,q]
 |rl d f=>let#[#[r,a],c,q]:=q;show#[r,a,by unfold fj;rw[e];show c,q]
 |bk=>show q.elim
 |ct=>show q.elim
def h_{Q:Res×aE->Prop}(c:oS S a)(ht:a.take S.length=S2)(b:∀k,d≠.ref k)(hl:cn S.length d=true)(q:Q (.d d,S2)):Op (settle S d a) Q:=by
 show#[_,?_,q]
 unfold settle
 rw[Qhq c,ht]
 cases d with
 |ref k=>show absurd L (b k)
 |_=>erw[hl,if_true]
def m9{Q:Res×aE->Prop}(b:oS S a)(ht:a.take S.length=S2)(hl:bP S.length ds=true)(q:Q (.l ds,S2)):Op (fG S ds a) Q:=by
 show#[_,?_,q]
 unfold fG
 rw[Qhq #[b,hl],ht]
def tw:oS S S:=#[Qmq _,λk o _ h=>.inl h]
def vo{S:aE}(h:ID S.length o=true):oS S (S.set k o):=by
 show#[by simp,λj u _ e=>?_]
 rw[List.getElem?_set] at e
 split at e
 ·split at e
  ·cases e;show .inr h
  ·cases e
 ·show .inl e
end DL
namespace L2
open PyProof.Rows
end L2
namespace DL
open L2
end DL
namespace L2
open PyProof.Rows
end L2
namespace DL
open PyProof.Rows L2
end DL
namespace L2
open PyProof.Rows
end L2
namespace DL
open PyProof.Rows L2
end DL
namespace DL
open L2
mutual
noncomputable def my:D->Option PyData
 |.non=>some .none
 |.bl b=>some (.bool b)
 |.int i=>some (.int i)
 |.str x=>if PyData.strOk x=true then some (.str x) else none
 |.tup a=>(gy a).map .tuple
 |.ref _=>none
 |.fn _=>none
noncomputable def gy:List D->Option (List PyData)
 | []=>some []
 |d::ds=>(my d).bind λp=>(gy ds).map (p::·)
end
mutual
theorem sE:∀{d:D} {p:PyData},my d=some p->p.canLay0=true
 |.non,_,e=>by cases e;rfl
 |.bl _,_,e=>by cases e;rfl
 |.int _,_,e=>by cases e;rfl
 | .str x,_,e=>by
   erw[my] at e
   split at e
   · rename_i c;cases e;show c
   · cases e
 | .tup ds,_,e=>by
   erw[my] at e
   let#[b,a,rfl]:=oQm.mp e
   show pV a
 |.ref _,_,e=>by cases e
 |.fn _,_,e=>by cases e
theorem pV:∀{ds:List D} {ps:List PyData},gy ds=some ps->PyData.canLayAll0 ps=true
 | [],_,e=>by cases e;rfl
 | d::ds,_,e=>by
   erw[gy] at e
   let#[p,a,e]:=aq e
   let#[ps,b,rfl]:=oQm.mp e
   erw[PyData.canLayAll0,QCq]
   show#[sE a,pV b]
end
mutual
theorem uc:∀{d:D} {p:PyData} {v:V},Rel M ρ H d v->my d=some p->o9 (λ_=>False) H p v
 |.non,_,_,.non,e=>by cases e;show .non
 |.bl _,_,_,.bl _,e=>by cases e;show .bl _
 |.int _,_,_,.int _,e=>by cases e;show .int _
 | .str _,_,_,.str _,e=>by
   erw[my] at e
   split at e
   · cases e;show .str _
   · cases e
 | .tup ds,_,_,.tup h hs,e=>by
   erw[my] at e
   let#[b,a,rfl]:=oQm.mp e
   show .tup h (wX hs a)
 |.ref _,_,_,_,e=>by cases e
 |.fn _,_,_,_,e=>by cases e
theorem wX:∀{ds:List D} {ps:List PyData} {vs:List V},bj M ρ H ds vs->gy ds=some ps->qz (λ_=>False) H ps vs
 | [],_,_,.nil,e=>by cases e;show .nil
 | d::ds,_,_,.cons h hs,e=>by
   erw[gy] at e
   let#[p,a,e]:=aq e
   let#[ps,b,rfl]:=oQm.mp e
   show .cons (uc h a) (wX hs b)
end
end DL
namespace L2
def NX(K:X1)(d:Bool):R2:=λx y H Q=>∃p a c b,y=.ref a/\(iX K H a c\/gV K H a c)/\o9 (λ_=>False) H p x/\qz (λ_=>False) H b c/\p.canLay0=true/\PyData.canLayAll0 b=true/\p.depth<=60/\Q (.bl (if d then !b.any (PyData.eqv · p) else b.any (PyData.eqv · p))) H
def L3(s:X4)(p:PyData)(u:Xd):Bool:= @decide (∃d a,d.canLay0=true/\Reads s.heap u d a/\PyData.eqv d p=true) (Classical.propDecidable _)
def Gf{s:X4}{p d:PyData}(l:d.canLay0=true)(r:Reads s.heap u d as):L3 s p u=PyData.eqv d p:=by
 unfold L3
 cases h:PyData.eqv d p with
 |true=>show @Qeq _ (Classical.propDecidable _) #[d,as,l,r,h]
 | false=>
   show @Qdq _ (Classical.propDecidable _) ?_
   rintro⟨e,a,f,c,b⟩
   rw[SeqAt.Reads.unique d e u as a l r c] at h
   rw[h] at b
   cases b
theorem qo{s:X4}:∀{b:X5} {ps:List PyData} {as:X7},ReadsAll s.heap b ps as->PyData.canLayAll0 ps=true->b.any (L3 s p)=ps.any (PyData.eqv · p)/\∀u∈b,∃d as,d.canLay0=true/\Reads s.heap u d as
 |_,_,_,.nil,_=>#[L,λu a=>by cases a]
 | _,d::ps,_,.cons r rs,l=>by
   have c:d.canLay0=true/\PyData.canLayAll0 ps=true:=by simpa [PyData.canLayAll0] using l
   let#[f,e]:=qo (p:=p) rs c.2
   show#[by rw[List.any_cons,List.any_cons,f,Gf c.1 r],λu a=>?_]
   rcases Qsq.mp a with rfl|a
   · show#[_,_,c.1,r]
   · show e u a
def FU{A:X_}{s:X4}(f:A.units+63<cLine)(b:Reads s.heap v p bs)(c:p.canLay0=true)(e:p.depth<=60)(h:∃d as,d.canLay0=true/\Reads s.heap u d as):SeqAt.EqAt A s u v (L3 s p u):=by
 let#[d,as,l,r]:=h
 rw[Gf l r]
 intro a w E Q q
 show SeqAt.eqBoolOverData a w A E s _ _ _ _ _ _ Q r b l c (!0) q
def F_{X:Cx}(R:X.A.units+64<cLine):jO X (compareOp .In) (NX X.K false):=by
 rintro q s S H x y v u Q I F G ⟨p,a,P,N,J,d,B,e,n,b,m,h⟩
 subst J
 cases G
 let#[M,o,_]:=lD I (λa z=>z.elim) B F
 have c:X.A.in1.units+63<cLine:=by show X.A.units+1+63<cLine;omega
 rcases d with d|d
 ·let#[i,r,l,C]:=I.list d
  let#[t,g,_]:=jM I (λa z=>z.elim) e r
  let#[j,f]:=qo (p:=p) g b
  show SeqAt.in_listAt (L3 s p) l.isList (λw k=>FU c o n m<|f w (by simpa using k)) #[.bl _,H,I,L,?_]
  rw[List.any_toArray,j]
  show h
 ·let#[i,r,l,C]:=I.tuple d
  let#[t,g,_]:=jM I (λa z=>z.elim) e r
  let#[j,f]:=qo (p:=p) g b
  show SeqAt.in_tupleAt (L3 s p) l (λw k=>FU c o n m<|f w (by simpa using k)) #[.bl _,H,I,L,?_]
  rw[List.any_toArray,j]
  show h
end L2
namespace DL
open L2
noncomputable def zR(c:Bool)(f:bp)(g:d0):bp:=λi S=>(f i S).bind λ(x,k)=>(g i k).bind λ(p,j)=>(my x).bind λv=>(gy p.1).bind λd=>if v.depth<=60 then some (.bl (if c then !d.any (PyData.eqv · v) else d.any (PyData.eqv · v)),j) else none
def JN:∀m H Q,tD (md X) (zR i f g) m H Q->GM (NX X.K i) (tD (md X) f) (tQ (md X) g) m H Q:=λm H Q I=>by
 let#[J,n,S,d,R,ok,e,q]:=I
 let#[#[x,r],P,e]:=aq e
 let#[#[#[C,t],G],F,e]:=aq e
 let#[v,p,e]:=aq e
 let#[B,s,e]:=aq e
 split at e
 ·rename_i c
  let#[rfl,rfl]:=cq e
  show#[J,n,S,x,r,ok,P,λl u H1 w j z=>#[l,n,r,C,t,G,ok.to w j,F,λA a N H2 o k y M=>?_]]
  show#[v,a,N,B,L,y.sq,uc (z.ext o) p,wX M s,sE p,pV s,c,q _ _ _ (w.trans o) k<|.bl _]
 ·cases e
def NL{X:Cx}(i:eP k X.A)(d:PE X a (tD (md X) f))(j:PE X b (tQ (md X) g))(c:autoParam (behindInMarks .In b=false) db._auto_1):PE X (.Compare a [.In] [b] h) (tD (md X)<|zR false f g):=kr (BQ (F_ i.units) d j c) JN
def Mh{X:Cx}(i:eP k X.A)(d:PE X a (tD (md X) f))(j:PE X b (tQ (md X) g))(c:autoParam (behindInMarks .In b=false) db._auto_1):PT X (.Compare a [.In] [b] h) (tB (md X)<|aK<|zR false f g):=nI JN (lU (F_ i.units) d j c)
end DL
namespace DL
open PyProof.Rows L2
def jx:fillsNumberSlot (.type "tuple") "mul"=pure false:=
 PySem.fillsNumberSlot_seq (id:="tuple.__mul__") (r:=some (.builtin "tuple.__rmul__")) PySem.F.slot_tuple_mul.lookup (by decide +kernel) PySem.F.slot_tuple_rmul.lookup (by decide +kernel)
def oA:seqRepeat? (.type "tuple")=pure (some<|.builtin "tuple.__mul__"):=by
 unfold seqRepeat?
 rw[PySem.seqSlot_of (T:="tuple") (name:="__mul__") (id:="tuple.__mul__") PySem.F.slot_tuple_mul.lookup (by decide +kernel),PySem.seqSlot_of (T:="tuple") (name:="__rmul__") (id:="tuple.__rmul__") PySem.F.slot_tuple_rmul.lookup (by decide +kernel)]
 rfl
def sO(a:Int)(t:Tok)(l:X8)(items:Xa)(n:Nat)(c:Option Addr)(sl:Array (Option Value)):
  Meets (Builtin.«int.__rmul__» #[[.int a t,.ref l],[]]) (λ_ R s=>s.heap.get? l=some {cls:=.type "tuple",dict:=c,data:=.seq items n,slots:=sl}/\R (.ok (.ret Value.notImplemented)) s):=
 .of_wp λb w A R s h=>by let#[i,g,d,e,f]:=s;let#[hl,h]:=h;wp_walk;show#[_,L,h]
def Dg(l:X8)(items:Xa)(n:Nat)(r:Option Addr)(sl:Array (Option Value))(x:Int)(u:Tok)(v:2<=x)(F:x<2^63)(a:¬items.isEmpty=true)(hsz:items.size*x.toNat<=sizeLine):
  Meets (Builtin.«tuple.__mul__» #[[.ref l,.int x u],[]]) (λ_ R s=>s.heap.get? l=some {cls:=.type "tuple",dict:=r,data:=.seq items n,slots:=sl}/\R (.ok (.ret (Value.ref s.heap.objs.size))) {s with heap:=s.heap.push {cls:=Value.type "tuple",data:=Data.seq (List.foldl (λe c=>e++c) (List.toArray []) (List.replicate x.toNat items))},toks:=s.toks}):=
 .of_wp λi w A R s h=>by
  let#[C,g,d,y,z]:=s;let#[hl,h]:=h
  let B:=AutoSeq1.idx_int
  have j:(sizeLine:Nat)=16777216:=by decide
  have f:((items.size:Int)*x)=((items.size*x.toNat:Nat):Int):=by rw[Int.natCast_mul,Int.toNat_of_nonneg (!0)]
  have m:items.size*x.toNat<=16777216:=by omega
  have k:¬(decide (x< -2^63)||decide (x>=2^63))=true:=by simp;omega
  have o:¬(items.isEmpty||x==1)=true:=by simp at a|-;show#[a,by omega]
  have p:¬(decide (x<=0)||items.isEmpty)=true:=by simp at a|-;show#[by omega,a]
  have t:¬((items.size:Int)*x>(2^63-1)/8):=by rw[f];omega
  have q:¬Builtin.Tuple.tupleTooMany ((items.size:Int)*x)=true:=by rw[f];unfold Builtin.Tuple.tupleTooMany;rw[Qdq (by rw[j];omega)];decide
  have b:(List.foldl (λe c=>e++c) (List.toArray []) (List.replicate x.toNat items)).size<=sizeLine:=by rw[AutoListH.size_joined,j,Nat.mul_comm];simpa using m
  wp_walk using wpAny_loadPart' hl
  show QgQ (Qdq k) ?_
  wp_walk using wpAny_loadPart' hl
  show QgQ (Qdq o) ?_
  wp_walk using wpAny_loadPart' hl
  show QgQ (Qdq p) ?_
  wp_walk using wpAny_loadPart' hl
  show QgQ (Qdq t) ?_
  wp_walk using wpAny_loadPart' hl
  show QgQ (Qdq q) ?_
  wp_walk using wpAny_loadPart' hl
  show QgQ (Qdq<|Nat.not_lt.mpr b) ?_
  wp_walk
  show#[_,L,h]
def Jd(K:X1):R2:=λx y H Q=>∃a k d,x=.ref a/\y=.int k/\gV K H a d/\d≠[]/\2<=k/\k<2^63/\d.length*k.toNat<=sizeLine/\∀p,H p=none->Q (.ref p) (upd H p<|.tup (List.replicate k.toNat d).flatten)
def IR:jO X (binaryOp .Mult) (Jd X.K):=by
 intro p s S H x y v u Q I J M h
 let#[l,k,G,rfl,rfl,ha,hx,h1,h2,hz,q]:=h
 cases J
 let#[t,rfl]:=M
 let#[d,g,C,_]:=I.tuple ha
 let#[#[B,r,m,sl],f,w,n,j]:=id C
 simp only at w j
 subst w j
 have i:d.toArray.size*k.toNat<=sizeLine:=by rw[Qjq,<-g.length];show hz
 have e:List.foldl (λP N=>P++N) (List.toArray []) (List.replicate k.toNat d.toArray)=(List.replicate k.toNat d).flatten.toArray:=by
  have:=foldl_rep d k.toNat []
  rw[List.nil_append] at this
  show this
 show wpAny_binaryOp_repeat_ref (T:="tuple") (U:="int") (!1) #[_,f,L] (λA=>typeIs_int A k t) jx F.fills_int_mul F.slot_int_rmul oA F.slot_int_index.lookup
  (call_meets F.slot_int_rmul (typeIs_int s k t) F.entry_int_rmul (F.args_int_rmul_2 _ _) (sO k t l d.toArray n r sl)
   #[f,L,#[_,f,L],call_meets F.slot_tuple_mul #[_,f,L] F.entry_tuple_mul (F.args_tuple_mul_2 _ _) (Dg l d.toArray n r sl k t h1 h2 (λz=>hx (g.nil_iff.mp (by simpa using z))) i) #[f,?_]])
 rw[e]
 show#[.ref s.heap.objs.size,_,I.laid (t':=s.toks) (o:=.tup (List.replicate k.toNat G).flatten) (λb R q=>Qcq _ q) (Qmq _) ?_,L,q _<|I.hok.fresh<|Qmq _]
 show#[by rw[len_rep,Nat.mul_comm];show hz,_,g.rep k.toNat,uE.new _ _]
def Ar(l:X8)(items:Xa)(n:Nat)(b:Option Addr)(sl:Array (Option Value))(u:Tok):
  Meets (Builtin.«tuple.__mul__» #[[.ref l,.int 1 u],[]]) (λ_ R s=>s.heap.get? l=some {cls:=.type "tuple",dict:=b,data:=.seq items n,slots:=sl}/\R (.ok (.ret (Value.ref l))) s):=
 .of_wp λa w A R s h=>by
  let#[j,g,d,c,e]:=s;let#[hl,h]:=h
  let f:=AutoSeq1.idx_int
  have i:¬(decide ((1:Int)< -2^63)||decide ((1:Int)>=2^63))=true:=by decide
  have k:(items.isEmpty||(1:Int)==1)=true:=by simp
  wp_walk using wpAny_loadPart' hl
  show#[_,L,h]
def Am(l:X8)(items:Xa)(n:Nat)(c:Option Addr)(sl:Array (Option Value))(u:Tok)(a:¬items.isEmpty=true):
  Meets (Builtin.«tuple.__mul__» #[[.ref l,.int 0 u],[]]) (λ_ R s=>s.heap.get? l=some {cls:=.type "tuple",dict:=c,data:=.seq items n,slots:=sl}/\R (.ok (.ret (Value.ref s.heap.objs.size))) {s with heap:=s.heap.push {cls:=Value.type "tuple",data:=Data.seq (List.toArray [])},toks:=s.toks}):=
 .of_wp λb w A R s h=>by
  let#[k,g,d,e,f]:=s;let#[hl,h]:=h
  let i:=AutoSeq1.idx_int
  have j:¬(decide ((0:Int)< -2^63)||decide ((0:Int)>=2^63))=true:=by decide
  have m:¬(items.isEmpty||(0:Int)==1)=true:=by simpa using a
  have o:(decide ((0:Int)<=0)||items.isEmpty)=true:=by simp
  wp_walk using wpAny_loadPart' hl
  show#[_,L,h]
def Jv(K:X1):R2:=λx y H Q=>∃a k d,x=.ref a/\y=.int k/\gV K H a d/\d≠[]/\((k=1/\Q (.ref a) H)\/(k=0/\∀p,H p=none->Q (.ref p) (upd H p<|.tup [])))
def HB:jO X (binaryOp .Mult) (Jv X.K):=by
 intro m s N H x y v u Q I C G h
 let#[l,k,M,rfl,rfl,ha,hx,h]:=h
 cases C
 let#[t,rfl]:=G
 let#[d,A,B,_]:=I.tuple ha
 let#[#[w,g,j,sl],e,p,n,i]:=id B
 simp only at p i
 subst p i
 have f:¬d.toArray.isEmpty=true:=λz=>hx (A.nil_iff.mp (by simpa using z))
 show wpAny_binaryOp_repeat_ref (T:="tuple") (U:="int") (!1) #[_,e,L] (λr=>typeIs_int r k t) jx F.fills_int_mul F.slot_int_rmul oA F.slot_int_index.lookup
  (call_meets F.slot_int_rmul (typeIs_int s k t) F.entry_int_rmul (F.args_int_rmul_2 _ _) (sO k t l d.toArray n g sl) #[e,L,#[_,e,L],?_])
 rcases h with⟨rfl,q⟩|⟨rfl,q⟩
 ·show call_meets F.slot_tuple_mul #[_,e,L] F.entry_tuple_mul (F.args_tuple_mul_2 _ _) (Ar l d.toArray n g sl t) #[e,.ref l,H,I,L,q]
 ·show call_meets F.slot_tuple_mul #[_,e,L] F.entry_tuple_mul (F.args_tuple_mul_2 _ _) (Am l d.toArray n g sl t f) #[e,?_]
  show#[.ref s.heap.objs.size,_,I.laid (t':=s.toks) (o:=.tup []) (λb J q=>Qcq _ q) (Qmq _) ?_,L,q _<|I.hok.fresh<|Qmq _]
  show#[Nat.zero_le _,_,.nil,uE.new _ _]
noncomputable def yl:uA:=λ_ x y=>match x,y with
 |.tup i,.int k=>if 0<=k/\k<2^63/\i≠[]/\i.length*k.toNat<=sizeLine then some (.tup (List.replicate k.toNat i).flatten) else none
 |_,_=>none
def IZ:lB M (λx y H Q=>Jd M.K x y H Q\/Jv M.K x y H Q) yl:=by
 intro o S H x y d u v Q j l n e q
 cases l with
 | tup i h=>
   cases n with
   | int k=>
     erw[yl] at e
     split at e <;>cases e
     rename_i hl
     let g:=λz=>hl.2.2.1 (List.length_eq_zero_iff.mp<|h.length.trans<|List.length_eq_zero_iff.mpr z)
     by_cases m:2<=k
     · show .inl #[_,k,_,L,L,gV.of i,g,m,hl.2.1,by rw[<-h.length];show hl.2.2.2,λp f=>q _ _ (bX.laid f) (j.lay f)<|.tup bz ((h.rep _).ext (bX.laid f))]
     · show .inr #[_,k,_,L,L,gV.of i,g,?_]
       rcases(by omega:k=1\/k=0) with rfl|rfl
       · show .inl #[L,q _ _ bX.refl j ?_]
         rw[show(List.replicate (1:Int).toNat _).flatten=_ from List.append_nil _]
         show .tup i h
       · show .inr #[L,λp f=>q _ _ (bX.laid f) (j.lay f)<|.tup bz .nil]
   |_=>erw[yl,reduceCtorEq] at e
 |_=>erw[yl,reduceCtorEq] at e
def Px(d:PE X a (tD (md X) f))(e:PE X b (tD (md X) g)):PE X (.BinOp a .Mult b c) (tD (md X)<|bf yl f g):=o6 IZ (oo (IR.or HB) d e)
end DL
namespace L2
open PyProof.Rows
end L2
namespace DL
open L2
end DL
namespace L2
end L2
namespace DL
open L2
end DL
namespace L2
open PyProof.Rows
end L2
namespace DL
open L2
end DL
namespace Z3
open PySem Zq
end Z3
namespace L2
open PyProof.Rows Zq
end L2
namespace DL
open PyProof.Rows L2
end DL
namespace L2
open PyProof.Rows
end L2
namespace DL
open PyProof.Rows L2
end DL
namespace L2
open PyProof.Rows
end L2
namespace DL
open L2
noncomputable def Er(f g:bp):bp:=λe S=>(f e S).bind λ(y,h)=>(g e h).bind λ(x,d)=>match x with
 | .ref k=>match d[k]? with
   |some (.dct l)=>(pd y).bind λi=>some (.bl (jk l i).isSome,d)
   |_=>none
 |_=>none
def Nq:∀(n:List (Option V)) (H:Hp) (Q:V->Hp->Prop),tD (md X) (Er f g) n H Q->ME (tD (md X) f) (tD (md X) g) n H Q:=λn H Q F=>by
 let#[G,p,S,d,Y,ok,e,q]:=F
 let#[#[y,t],N,e]:=aq e
 let#[#[x,C],B,e]:=aq e
 cases x with
 | ref k=>
   dsimp only at e
   split at e
   · rename_i l J
     let#[j,P,e]:=aq e
     let#[rfl,rfl]:=cq e
     show#[G,p,S,y,t,ok,N,λm U H1 u i w=>#[m,p,t,_,C,ok.to u i,B,λz W H2 r h M=>?_]]
     cases og (w.ext r) P
     cases M with
     | ref R=>
       let#[K,A,o]:=h.obj k _ _ R J
       show#[_,_,L,wc.k A,?_]
       have:(mD K j).isSome=(jk l j).isSome:=by
         cases s:jk l j with
         |none=>rw[o.noval s];rfl
         |some d=>let#[v,I,_]:=o.val s;rw[I];rfl
       rw[this]
       show q _ _ _ (u.trans r) h<|.bl _
   · cases e
 |_=>cases e
def Na{X:Cx}(h:X.A.units+1<cLine)(e:PE X a (tD (md X) f))(i:PE X b (tD (md X) g))(d:autoParam (behindInMarks .In b=false) db._auto_1):PT X (.Compare a [.In] [b] c) (tB (md X)<|aK<|Er f g):=nI Nq (EX (K4 h e i) d)
end DL
namespace L2
open PyProof.Rows
def FO(K:X1):List V->Hp->VK->Prop:=λd H Q=>∃(a:X8) (c:List Int),d= [.ref a]/\iX K H a (c.map V.int)/\c.length<64/\∀(l:X8) (b:List Int),H l=none->b.Pairwise (·<=·)->b.Perm c->Q (.ref l) (upd H l<|.lst (b.map V.int))
def wu(h:IntsAre vs ns):bL (ns.map V.int) vs:=by
 induction h with
 |nil=>show .nil
 |cons y t _ a=>show .cons #[t,L] a
def xT:fm X (.builtin "sorted") (FO X.K):=by
 intro m s A H z B Q I r h
 let#[a,j,rfl,ha,h64,q]:=h
 let#[u,rfl,rx]:=vals1 r
 cases (show u=Value.ref a from rx)
 let#[f,k,t,y]:=I.list ha
 have v:f.length=j.length:=by have:=k.length;simpa using this.symm
 have g:s.heap.objs.size<=s.heap.objs.size+1:=Nat.le_succ _
 show sorted_ints t.isList (intsAre_of k) (!0) λc d p l w=>?_
 let#[e,x]:=sortedAll_at s.heap f c
 have i:d.length=j.length:=l.length_eq
 show#[.ref (s.heap.objs.size+1),_,I.laid (a:=s.heap.objs.size+1) (o:=.lst (d.map V.int)) (h':=sortedAll s.heap f c) (t':=s.toks) (λb o n=>?_) g #[?_,c.toList,e,wu p,?_],L,q _ d (I.hok.fresh g) w l]
 ·show sortedAll_old n
 ·rw[lQm,i]
  show QAq (nQl h64) (!1)
 ·simpa using x
end L2
namespace DL
open L2
noncomputable def p8:List D->Option (List Int)
 | []=>some []
 | d::r=>match d with
   |.int i=>(p8 r).bind λf=>some (i::f)
   |_=>none
theorem u3:∀{ds:List D} {vs:List V} {f:List Int},bj M ρ H ds vs->p8 ds=some f->vs=f.map V.int
 | [],_,_,h,e=>by cases h;cases e;rfl
 | d::ds,_,_,h,e=>by
   cases d with
   | int b=>
     erw[p8] at e
     let#[i,g,e]:=aq e
     cases e
     cases h with
     | cons h j=>
       cases h
       rw[u3 j g]
       rfl
   |_=>cases e
theorem sh:∀d:List Int,p8 (d.map D.int)=some d
 | []=>rfl
 |i::d=>by erw[QDq,p8];rw[sh d];rfl
end DL
namespace L2
open PyProof.Rows
end L2
namespace DL
open L2
end DL
namespace L2
open PyProof.Rows
end L2
namespace Zp
open PySem PySem.W PyProof.Rows L2
end Zp
namespace L2
open PyProof.Rows
end L2
namespace DL
open PyProof.Rows L2
end DL
namespace L2
open PyProof.Rows
def Inv.sett(I:Inv X f j H s)(h:H a=some (.ext (ST.dj a d))):ST.dj a d s.heap:=(show cV X.prog X.w H s.heap a (.ext _) from I.hok a _ h).1
def E4(x:ST.dj a d h):cV P w H h a (.ext (ST.dj a d)):=by
 show#[x,?_,λc g p k=>p.keep k]
 let#[o,i,e,t,c,_]:=x
 show#[o,c]
def Nm(H:Hp)(d:List (PyData×Addr)):Prop:=∀e∈d,ST.nu 8 e.1=true/\o9 (λ_=>False) H e.1 (.ref e.2)
def Nm.to(I:Inv X f j H s)(h:Nm H d):ST.J0 s.heap d:=λe c=>by
 let#[l,g]:=h e c
 let#[i,k,_]:=lD I (λa z=>z.elim) g (u:=.ref e.2) L
 show#[l,i,k]
def DT:fm X (.type "set") (λxs H Q=>xs= []/\∀q,H q=none->Q (.ref q) (upd H q<|.ext (ST.dj q []))):=by
 intro f s j H xs g Q I r h
 let#[rfl,q]:=h
 cases r
 show ST.Ij λi c e=>?_
 show#[.ref _,_,I.laid (o:=.ext (ST.dj s.heap.objs.size [])) (t':=s.toks) c (Qmq _)<|E4 e,L,q _ I.fresh]
def NC(g c:TE):TE:=λj H Q=>g j H λy H1=>c j H1 λx H2=>∃a b d p,x=.ref a/\y=.ref b/\H2 a=some (.ext (ST.dj a d))/\Nm H2 d/\d.length<=5000/\o9 (λ_=>False) H2 p (.ref b)/\ST.nu 8 p=true/\Q (.bl (!d.any λe=>PyData.eqv e.1 p)) H2
def JZ{X:Cx}(S:X.A.units+64<cLine)(hi:PE X i g)(r:PE X o e):PC X .NotIn i o (NC g e):=by
 intro f s j H Q I h
 show cO (hi f s j H _ I h) λK t ⟨y,H1,n,w,q⟩=>cO (r f t j H1 _ n q) λu R B=>?_
 let#[x,H2,c,v,a,b,d,p,l,J,G,F,hl,k,C,M]:=B
 subst l J
 obtain rfl:u=Value.ref a:=v
 obtain rfl:K=Value.ref b:=w
 let#[N,m,_]:=lD c (λa z=>z.elim) k (u:=.ref b) L
 show ST.Ee (!0) (c.sett G) (F.to c) hl m C λP=>#[.bl _,H2,c.tok _,L,M]
def Il{X:Cx}(F:X.A.units+64<cLine):NW X "set.add" (λx vs H Q=>∃a b d p,x=.ref a/\vs= [.ref b]/\H a=some (.ext (ST.dj a d))/\Nm H d/\d.length<=5000/\o9 (λ_=>False) H p (.ref b)/\ST.nu 8 p=true/\Q .non (upd H a<|.ext (ST.dj a (if (d.any λe=>PyData.eqv e.1 p)=true then d else d++ [(p,b)])))):=by
 intro f s j H x vs v J Q I n m h
 let#[a,b,d,p,rfl,rfl,hS,he,hl,hd,hn,q]:=h
 cases n
 let#[u,rfl,ru]:=m.one
 obtain rfl:u=Value.ref b:=ru
 let#[y,i,_]:=lD I (λa z=>z.elim) hd (u:=.ref b) L
 show ST.GX (!0) (I.sett hS) (he.to I) hl i hn λk B w g=>?_
 show#[.non,_,I.write (x:=a) (e:=a) (t':=k) (by rw[hS];trivial) (.inl L) (λc o r e=>(w.2 c r).trans e) ?_<|E4 g,L,q]
 let#[o,C,G,t,l,_]:=g
 show#[o,l]
def QA(r:V->List V->Hp->VK->Prop)(m:TE)(t:TA):TE:=λj H Q=>m j H λx H1=>(∃p d,x=.ref p/\H1 p=some (.ext (ST.dj p d)))/\t j H1 λc H2=>r x c H2 Q
def K0{l:Pos}(P:NW X "set.add" r)(G:PE X o m)(U:PA X [e] t)
  (c:autoParam (attributeBase o "add" X.env (eval o X.env)=eval o X.env) db._auto_1)
  (k:autoParam (((backTo g (starEach [e] X.env)).all (λx=> !x.1)&&(backToKw g (keywordEach [] X.env)).all (λx=>x.1.isSome)
   &&decide ([e].length+([]:List Keyword).length+(if ([]:List Keyword).isEmpty then 0 else 1)<30))=true) db._auto_1)
  (i:autoParam ((l.endLine==g.line)=true) db._auto_1) (K:autoParam (starEach [e] X.env= [(false,eval e X.env)]) db._auto_1):
  PE X (.Call (.Attribute o "add" l) [e] [] g) (QA r m t):=by
 intro f s j H Q I h
 show wpAny_Call_method_late c k i L (cO (G f s j H _ I h) λv J M=>?_)
 let#[x,H1,n,w,#[p,d,S,C],A]:=M
 subst S
 cases w
 let u:=n.sett C
 show#["set","set.add",F.plainAttrs_set,F.slot_set_add,F.type_set_add,u.typeIs,u.noDict,?_]
 let q:=U g f J j H1 _ n A
 rw[K] at q|-
 show Calls.callWith_builtin (by rfl)<|Calls.evalArgs_plain ?_
 show cO q λR z ⟨y,H2,B,N,W⟩=>P f z j H2 (.ref p) y (.ref p) R Q B L N W
end L2
namespace DL
open PyProof.Rows L2
mutual
theorem vS:∀{d:D} {p:PyData},fS d=some p->my d=some p
 |.int _,_,e=>e
 | .tup ds,_,e=>by
   erw[fS] at e
   let#[b,a,rfl]:=oQm.mp e
   erw[my]
   rw[Cq a]
   rfl
 |.non,_,e=>by cases e
 |.bl _,_,e=>by cases e
 |.str _,_,e=>by cases e
 |.ref _,_,e=>by cases e
 |.fn _,_,e=>by cases e
theorem Cq:∀{ds:List D} {ps:List PyData},eh ds=some ps->gy ds=some ps
 | [],_,e=>e
 | d::ds,_,e=>by
   erw[eh] at e
   let#[p,a,e]:=aq e
   let#[ps,b,rfl]:=oQm.mp e
   erw[gy]
   rw[vS a,Cq b]
   rfl
end
noncomputable def oX(ds:List D)(p:PyData):Bool:=ds.any λd=>match fS d with|some q=>PyData.eqv q p|none=>false
theorem wa:∀{ds:List D} {ps:List PyData} {bs:X7} {p:PyData},eh ds=some ps->ps.length=bs.length->((List.zip ps bs).any λe=>PyData.eqv e.1 p)=oX ds p
 | [],_,bs,p,e,l=>by cases e;rfl
 | d::ds,_,bs,p,e,l=>by
   erw[eh] at e
   let#[q,a,e]:=aq e
   let#[ps,f,rfl]:=oQm.mp e
   cases bs with
   |nil=>simp at l
   | cons b bs=>
     let c:=wa (p:=p) f (bs:=bs) (by simpa using l)
     rw[List.zip_cons_cons,List.any_cons,c]
     unfold oX
     rw[List.any_cons,a]
theorem uu:∀{ds:List D} {ps:List PyData},eh ds=some ps->ps.length=ds.length
 | [],_,e=>by cases e;rfl
 | d::ds,_,e=>by
   erw[eh] at e
   let#[q,b,e]:=aq e
   let#[ps,a,rfl]:=oQm.mp e
   simp[uu a]
theorem CO:∀{n:Nat} {ps:List PyData} {p:PyData},ST.mK n ps=true->ST.nu n p=true->ST.mK n (ps++ [p])=true
 |n,[],p,_,h=>by erw[List.nil_append,ST.mK,h];rfl
 | n,q::ps,p,h,hp=>by
   erw[ST.mK,QCq] at h
   erw[List.cons_append,ST.mK,QCq]
   show#[h.1,CO h.2 hp]
theorem zD:∀{ds:List D} {ps:List PyData} {d:D} {p:PyData},eh ds=some ps->fS d=some p->eh (ds++ [d])=some (ps++ [p])
 | [],_,d,p,e,e2=>by cases e;erw[List.nil_append,eh];rw[e2];rfl
 | c::ds,_,d,p,e,e2=>by
   erw[eh] at e
   let#[q,a,e]:=aq e
   let#[ps,b,rfl]:=oQm.mp e
   erw[List.cons_append,eh]
   rw[a,zD b e2]
   rfl
theorem Ck:∀{ps:List PyData} {bs:X7} {p:PyData} {b:X8},ps.length=bs.length->List.zip (ps++ [p]) (bs++ [b])=List.zip ps bs++ [(p,b)]
 | [],[],_,_,_=>rfl
 |q::ps,c::bs,p,b,h=>by erw[List.cons_append,List.zip_cons_cons];rw[Ck (by simpa using h)]
 | [],_::_,_,_,h=>by simp at h
 |_::_,[],_,_,h=>by simp at h
theorem Av:∀{ds:List D} {ps:List PyData} {bs:X7},bj M ρ H ds (bs.map V.ref)->eh ds=some ps->ST.mK 8 ps=true->Nm H (List.zip ps bs)
 | [],_,_,_,e,_=>by cases e;intro e a;simp at a
 | d::ds,_,bs,h,e,hn=>by
   erw[eh] at e
   let#[q,c,e]:=aq e
   let#[ps,g,rfl]:=oQm.mp e
   erw[ST.mK,QCq] at hn
   cases bs with
   |nil=>cases h
   | cons b bs=>
     cases h with
     | cons h f=>
       intro e a
       rw[List.zip_cons_cons] at a
       rcases Qsq.mp a with rfl|a
       · show#[hn.1,uc h<|vS c]
       · show Av f g hn.2 e a
noncomputable def OP:bp:=λ_ S=>some (.ref S.length,S++ [.sett []])
def KW(r:Gl X "set")(l:X.mg "set"=none):PE X (.Call (.Name "set" p) [] [] i) (tD (md X) OP):=kr (AH DT r l (by rfl)) λv H Q m=>by
 let#[h,t,S,d,s,ok,e,q]:=m
 cases e
 show#[L,λp g=>?_]
 have k:bX h H h (upd H p<|.ext (ST.dj p [])):=bX.laid g
 have n:p∉h:=cW bX.refl ok.st g
 let j:=(ok.st.lay (u:=.ext (ST.dj p [])) g).box (o:=.sett []) n #[[],[],bz,.nil,L,L]
 show q (h++ [p]) (.ref p) _ #[List.prefix_append _ _,λc f=>?_,k.keep,k.grow] j<|.ref ?_
 ·rcases mQa.mp f with f|f
  ·show .inl f
  ·rw[Qfq] at f;subst f;show .inr g
 ·rw[<-ok.st.len,QQq (Qmq _)]
  simp
noncomputable def EC(f g:bp):bp:=λd S=>(f d S).bind λ(y,h)=>(g d h).bind λ(x,c)=>match x,y with
 | .ref k,.tup ys=>match c[k]? with
   |some (.sett ds)=>(fS<|.tup ys).bind λp=>if ST.nu 8 p=true/\ds.length<=5000 then some (.bl (!oX ds p),c) else none
   |_=>none
 |_,_=>none
def MJ:∀(o:List (Option V)) (H:Hp) (Q:V->Hp->Prop),tD (md X) (EC f g) o H Q->NC (tD (md X) f) (tD (md X) g) o H Q:=λo H Q J=>by
 let#[K,s,S,d,S',ok,e,q]:=J
 let#[#[y,u],P,e]:=aq e
 let#[#[x,I],F,e]:=aq e
 cases x with
 | ref k=>
   cases y with
   | tup ys=>
     dsimp only at e
     split at e
     · rename_i ds M
       let#[p,R,e]:=aq e
       split at e
       · rename_i c
         let#[rfl,rfl]:=cq e
         show#[K,s,S,_,u,ok,P,λm v1 H1 v l j=>#[m,s,u,_,I,ok.to v l,F,λz v2 H2 t h N=>?_]]
         let j:=j.ext t
         cases N with
         | ref U=>
           let#[Y,Z,C,r,n,B]:=h.obj k _ _ U M
           let hl:=r.length
           rw[lQm] at hl
           let A:=uu n
           let G:=uc j (vS R)
           cases j with
           | tup W w=>
             show#[_,_,_,p,L,L,C,Av r n B,?_,G,c.1,?_]
             · rw[List.length_zip];omega
             · rw[wa n (!0)]
               show q _ _ _ (v.trans t) h<|.bl _
       · cases e
     · cases e
   |_=>cases e
 |_=>cases e
def NV{X:Cx}(h:eP k X.A)(d:PE X a (tD (md X) f))(j:PE X b (tD (md X) g))(c:autoParam (behindInMarks .NotIn b=false) db._auto_1):PT X (.Compare a [.NotIn] [b] i) (tB (md X)<|aK<|EC f g):=nI MJ (EX (JZ h.units d j) c)
noncomputable def Gj(f g:bp):bp:=λh S=>(f h S).bind λ(x,d)=>match x with
 | .ref k=>match d[k]? with
   | some (.sett _)=>(g h d).bind λ(y,c)=>match y,c[k]? with
     |.tup ys,some (.sett ds)=>(fS<|.tup ys).bind λp=>if ST.nu 8 p=true/\ds.length<=5000 then some (.non,c.set k<|.sett (if oX ds p=true then ds else ds++ [.tup ys])) else none
     |_,_=>none
   |_=>none
 |_=>none
def EV{X:Cx}{s j:Pos}(hr:eP k X.A)(ho:PE X o (tD (md X) f))(ha:PE X e (tD (md X) g))(w:autoParam (attributeBase o "add" X.env (eval o X.env)=eval o X.env) db._auto_1)
  (N:autoParam (((backTo j (starEach [e] X.env)).all (λx=> !x.1)&&(backToKw j (keywordEach [] X.env)).all (λx=>x.1.isSome)
   &&decide ([e].length+([]:List Keyword).length+(if ([]:List Keyword).isEmpty then 0 else 1)<30))=true) db._auto_1)
  (B:autoParam ((s.endLine==j.line)=true) db._auto_1) (hs:autoParam (starEach [e] X.env= [(false,eval e X.env)]) db._auto_1):PE X (.Call (.Attribute o "add" s) [e] [] j) (tD (md X)<|Gj f g):=
 kr (K0 (Il hr.units) ho (dD ha gh hs) w N B hs) λσ H Q qq=>by
  let#[ρ,Γ,S,d,S',ok,e,q]:=qq
  let#[#[x,S1],e1,e]:=aq e
  cases x with
  | ref k=>
    dsimp only at e
    split at e
    · rename_i a4 a1
      let#[#[y,S2],e2,e]:=aq e
      dsimp only at e
      split at e
      · rename_i ys ds t
        let#[p,e3,e]:=aq e
        split at e
        · rename_i c
          let#[rfl,rfl]:=cq e
          show#[ρ,Γ,S,_,S1,ok,e1,λW v1 H1 x1 M r1=>?_]
          cases r1 with
          | ref hk=>
            rename_i l
            let#[a8,a7,g1,_]:=M.obj k l _ hk a1
            show#[#[_,_,L,g1],W,Γ,S1,_,S2,ok.to x1 M,e2,λr v2 H2 Y C r2=>?_]
            have m:r[k]?=some l:=cK Y.pre hk
            let#[K,G,h1,R,I,h4]:=C.obj k l _ m t
            let hl:=R.length
            rw[lQm] at hl
            let a6:=uu I
            let dt:=uc r2 (vS e3)
            let a2:=r2
            cases r2 with
            | tup F a3=>
              rename_i U a5
              show#[l,U,List.zip G K,p,L,L,h1,Av R I h4,by rw[List.length_zip];omega,dt,c.1,?_]
              rw[wa I (!0)]
              have ne:∀x,H2 l=some x->¬Pj x:=λx J=>by rw[h1] at J;cases J;show λz=>z
              have x3:∀u:HO,bX r H2 r (upd H2 l u):=λu=>by
                have ma:l∈r:=mQg m
                show#[List.prefix_refl _,λ_ h=>.inl h,λb x J c=>?_,λb F=>?_]
                · rw[bc]
                  · show J
                  · intro z
                    subst z
                    show c.elim (λn=>n ma) λim=>ne _ J im
                · by_cases z:b=l
                  · subst z;rw[bz] at F;cases F
                  · rw[bc z] at F;show F
              by_cases P:oX ds p=true
              · rw[Qhq P]
                rw[Qhq P] at q
                let#[v,Z]:=C.put (o':=.sett ds) (u:=.ext (ST.dj l<|List.zip G K)) m t #[K,G,bz,R.ext<|x3 _,I,h4] ne
                show q _ _ _ ((x1.trans Y).trans Z) v .non
              · rw[Quq P]
                rw[Quq P] at q
                rw[<-Ck (!0)]
                let#[v,Z]:=C.put (o':=.sett (ds++ [.tup ys])) (u:=.ext (ST.dj l (List.zip (G++ [p]) (K++ [U])))) m t ⟨K++ [U],G++ [p],bz,by
                  rw[Qzq]
                  show(R.ext (x3 _)).append (.cons (a2.ext (x3 _)) .nil),zD I e3,CO h4 c.1⟩ ne
                show q _ _ _ ((x1.trans Y).trans Z) v .non
        · cases e
      · cases e
    · cases e
  |_=>cases e
def OT{S:aE}{Q:D->aE->Prop}(q:Q (.ref S.length) (S++ [.sett []])):E OP a S Q:=#[_,_,L,q]
def N7{Q:D->aE->Prop}(h:E f a S λy b=>E g a b λx S2=>∃k ys ds p,x=.ref k/\y=.tup ys/\S2[k]?=some (.sett ds)/\fS (.tup ys)=some p/\(ST.nu 8 p=true/\ds.length<=5000)/\Q (.bl (!oX ds p)) S2):E (EC f g) a S Q:=by
 let#[y,b,c,x,S2,d,k,ys,ds,p,rfl,rfl,h1,h2,h3,q]:=h
 show#[_,_,by unfold EC;rw[c];erw[Qbq];rw[d];erw[Qbq,h1,h2];rw[Qhq h3],q]
def Jy{Q:D->aE->Prop}(h:E f a S λx c=>∃k b,x=.ref k/\c[k]?=some (.sett b)/\E g a c λy S2=>∃ys ds p,y=.tup ys/\S2[k]?=some (.sett ds)/\fS (.tup ys)=some p/\(ST.nu 8 p=true/\ds.length<=5000)/\Q .non (S2.set k<|.sett (if oX ds p=true then ds else ds++ [.tup ys]))):E (Gj f g) a S Q:=by
 let#[x,c,d,k,b,rfl,h0,y,S2,e2,ys,ds,p,rfl,h1,h2,h3,q]:=h
 show#[_,_,by unfold Gj;rw[d];erw[Qbq,h0];rw[e2];erw[Qbq,h1,h2];rw[Qhq h3],q]
noncomputable def MT(i:Nat)(f:bp):cH:=λc S=>match c[i]? with
 | some (some<|.int m)=>(f c S).bind λ(d,g)=>match d with
   |.int n=>some (.nx (c.set i<|some<|.int (m+n)) g)
   |_=>none
 |_=>none
def PV{X:Cx}(i:Nat)(A:X.N.Nodup)(he:PE X e (tD (md X) f))(hi:autoParam (X.N[i]?=some x) db._auto_1)(u:autoParam (Loc X.env.scope x) ec._auto_1)
  (p:autoParam (X.fn x=true\/X.env.scope.names.lookup x=some .local) cS._auto_1):PS X (.AugAssign (.Name x a) .Add e b) (tS (md X)<|MT i f):=
 CH (Ko A hi u he JS p) λD C H r=>by
  let#[s,t,S,o,ok,e,q]:=r
  unfold MT at e
  split at e
  ·rename_i m w
   let#[#[d,z],y,e]:=aq e
   cases d with
   | int n=>
     cases e
     let#[v,l,j]:=ok.en.get i _ w
     cases j
     show#[_,l,s,t,S,_,z,ok,y,λg B H1 h c k=>?_]
     cases k
     show#[_,_,L,L,?_]
     show q g _ _ h #[(ok.en.ext h).set (.int _),c]
   |_=>cases e
  ·cases e
def Pn{Q:Out->Prop}(j:c[i]?=some (some<|.int m))(h:E f c S λd g=>∃n,d=.int n/\Q (.nx (c.set i<|some<|.int (m+n)) g)):T (MT i f) c S Q:=by
 let#[d,g,k,n,rfl,q]:=h
 show#[_,by unfold MT;rw[j];simp only;rw[k];rfl,q]
noncomputable def insI(x:Int):List Int->List Int
 | []=> [x]
 |y::r=>if x<=y then x::y::r else y::insI x r
noncomputable def gK:List Int->List Int
 | []=> []
 |x::r=>insI x (gK r)
theorem insI_perm(x:Int):∀l:List Int,(insI x l).Perm (x::l)
 | []=>List.Perm.refl _
 | y::r=>by
   unfold insI
   split
   · show List.Perm.refl _
   · show((insI_perm x r).cons y).trans (List.Perm.swap _ _ _)
theorem iV:∀l:List Int,(gK l).Perm l
 | []=>List.Perm.refl _
 |x::r=>(insI_perm x _).trans ((iV r).cons x)
theorem qx:∀{l:List Int},l.Pairwise (·<=·)->(insI x l).Pairwise (·<=·)
 | [],_=>by simp[insI]
 | y::r,h=>by
   rw[List.pairwise_cons] at h
   unfold insI
   split
   · rename_i c
     show List.pairwise_cons.mpr #[λz a=>?_,List.pairwise_cons.mpr h]
     rcases Qsq.mp a with rfl|a
     · show c
     · show Int.le_trans c<|h.1 z a
   · rename_i c
     show List.pairwise_cons.mpr #[λz a=>?_,qx h.2]
     rcases Qsq.mp ((insI_perm x r).mem_iff.mp a) with rfl|a
     · omega
     · show h.1 z a
theorem mI:∀l:List Int,(gK l).Pairwise (·<=·)
 | []=>List.Pairwise.nil
 |x::r=>qx (mI r)
noncomputable def HM(f:d0):fT:=λd S=>(f d S).bind λ(p,c)=>if p.2.isL=true then(p8 p.1).bind λb=>if b.length<64 then some ((gK b).map D.int,c) else none else none
def L1(u:Gl X "sorted")(C:X.mg "sorted"=none)(G:PE X a (tQ (md X) f))(n:autoParam (starEach [a] X.env= [(false,eval a X.env)]) db._auto_1):
  PE X (.Call (.Name "sorted" p) [a] [] g) (tL (md X)<|HM f):=
 kr (jr xT u C PyProof.Rows.boot_sorted (dD G gh n) (he:=n)) λK H Q z=>by
  let#[A,B,S,d,M,ok,e,q]:=z
  let#[#[#[v,t],I],F,e]:=aq e
  dsimp only at e
  split at e
  ·rename_i c
   let#[i,w,e]:=aq e
   split at e
   ·rename_i y
    let#[rfl,rfl]:=cq e
    show#[A,B,S,v,t,I,ok,F,λs a J N x o h r=>#[a,i,L,?_,y,λl j hl m k=>?_]]
    ·rw[<-u3 r w];show h.sqL c
    ·have:j=gK i:=List.Perm.eq_of_pairwise (le:=(·<=·)) (λa b _ _ m k=>by omega) m (mI i) (k.trans (iV i).symm)
     subst this
     show q _ _ _ _ (x.trans<|bX.laid hl) (o.lay hl) (x.grow _ hl) (cW x o hl) bz<|pX _
   ·cases e
  ·cases e
def Lp{Q:List D->aE->Prop}(h:E f d S λp c=>p.2.isL=true/\∃b:List Int,p.1=b.map D.int/\b.length<64/\Q ((gK b).map D.int) c):E (HM f) d S Q:=by
 let#[p,c,e,l,b,j,i,q]:=h
 show#[_,c,by unfold HM;rw[e];erw[Qbq];rw[Qhq l,j,sh];erw[Qbq];rw[Qhq i],q]
end DL
namespace W28
open L2 DL
abbrev cz:=bf kc
abbrev eR(v:Nat)(k:Int):=bf kc (au v) (cF<|.int k)
abbrev gY(v:Nat)(k:Int):=ar (bf kc (au v)<|cF<|.int k)
abbrev jQ(x:Str):=ar (cF<|.str x)
abbrev bR(k:Int):=cF (.int k)
abbrev aF(k:Nat):=ar (au k)
abbrev cT(k:Int):=ar (cF<|.int k)
def p5:cH:=
 (aD (aV 2 (bR 0))
 (aD (fK (aK (bf Ea (au 1) (et (aP (au 0))))) (aV 2 (cz (au 0) (au 1))) fQ)
 (JL (bq (ar (bf tZ (Cu Ep (aF 2 av)) (Cu intOfD (ar (bf Pq (Cu Ep (aF 2 av)) (bf HL (bR 10) (bR 18))) av))) (ar (bf oD (bf tZ (bf bS (bf bS (bf oD (au 2) (bR 2147483629)) (bf tZ (bf tZ (bR 7919) (au 1)) (au 1))) (bR 11)) (bR 48271)) (bR 2147483647)) (cT 0 av)))))))
def lZ:dE:=fj 3 p5
def nE:cH:=
 (aD (fK (aK (bf OA (eR 0 0) (bR 0))) (aD (aV 2 (bf oD (eR 0 0) (au 1)))
 (aD (lT (bf yH (eR 0 0) (au 1)) (J7 (au 0) (bR 0)))
 (cB (au 2)))) fQ)
 (aD (lT (bf bS (eR 0 2) (bR 1)) (J7 (au 0) (bR 2)))
 (aD (lT (bf oD (bf bS (bf bS (bf tZ (eR 0 1) (bR 69621)) (bf tZ (bR 7919) (eR 0 2))) (bR 1)) (bR 2147483629)) (J7 (au 0) (bR 1)))
 (cB (bf oD (bf yH (bf oD (bf tZ (eR 0 1) (bf bS (bf oD (eR 0 1) (bR 40009)) (bR 3))) (bR 2147483587)) (bR 11)) (au 1))))))
def ay:dE:=fj 3 nE
def lJ:cH:=
 (aD (aV 2 (cF (.str "abcdefghijklmnopqrstuvwxyz")))
 (aD (lT (aW (ar (aA ay (aF 0 (cT 26 av))) (ar (cz (bA (bq (cT 1 (cT 3 (cT 5 (cT 7 (cT 9 (cT 11 av)))))))) (aA ay (aF 0 (cT 6 av)))) av))) (iy (nG 2 (aH (bB 3) (aH (bB 4) di)))))
 (aD (aV 5 (bA (bx [none,some 2,some 3,some 4] (iH (au 1)) (bB 0) bI (bf bS (cz (au 1) (bf oD (bf bS (au 2) (bf tZ (au 3) (au 0))) (bR 26))) (cz (bA (bq (jQ "" (jQ "zz" (jQ "x" (jQ "qqqqqqq" av)))))) (bf oD (bf bS (au 2) (au 0)) (bR 4)))))))
 (JL (BG (aP (au 5)))))))
def eG:dE:=fj 6 lJ
def fX:cH:=
 (aD (aV 1 (bA (dU eG (aF 0 (cT 12 av)))))
 (aD (aV 2 (bf bS (bR 1) (aA ay (aF 0 (cT 4 av)))))
 (aD (vW 3 4 (ar (bA (bq av)) (ar (bA (bq av)) av)))
 (aD (ie (iH (au 2)) (bB 5) (aD (aV 6 (cz (au 1) (cz (bA (bq (ar (bf oD (bf bS (au 5) (bR 1)) (au 2)) (aF 5 (ar (aA ay (aF 0 (aF 2 av))) av))))) (aA ay (aF 0 (cT 3 av))))))
 (aD (aV 7 (aW (ar (aW (jQ "do" (ar (cF .non) (aF 6 (gY 1 9 (cT 0 av)))))) av)))
 (aD (fK (aK (bf (gq false) (aA ay (aF 0 (cT 4 av))) (bR 0))) (aV 7 (bf bS (au 7) (aW (ar (aW (jQ "tell" (cT 1 av))) av)))) fQ)
 (aD (aV 8 (cz (bA (bq (jQ "at once" (jQ "when free" av)))) (aA ay (aF 0 (cT 2 av)))))
 (rj (Ad lg (au 3) (ar (aW (ar (cz (au 1) (au 5)) (aF 8 (ar (aW av) (ar (aW av) (ar (aW (ar (aW (gY 1 8 (aF 7 av))) (ar (aW (gY 1 9 (ar (aW (ar (aW (jQ "tell" (cT 2 av))) av)) av))) av))) av)))))) av))))))))
 (aD (ie (iH (bf bS (bR 1) (aA ay (aF 0 (cT 4 av))))) (bB 5) (aD (aV 9 (cz (au 1) (cz (bA (bq (ar (bf oD (au 5) (au 2)) (ar (aA ay (aF 0 (aF 2 av))) av)))) (aA ay (aF 0 (cT 2 av))))))
 (aD (aV 7 (aW (ar (aW (jQ "do" (ar (cF .non) (aF 9 (ar (cz (bA (bq (gY 1 8 (gY 1 8 (gY 1 9 av))))) (aA ay (aF 0 (cT 3 av)))) (cT 0 av)))))) av)))
 (rj (Ad lg (au 4) (ar (aW (ar (aW av) (ar (bf yl (au 7) (bf bS (bR 1) (Cu intOfD (ar (bf (gq false) (aA ay (aF 0 (cT 4 av))) (bR 0)) av)))) av))) av))))))
 (cB (aW (ar (tupQ (dq (aP (au 3)))) (ar (aW av) (ar (aW av) (ar (tupQ (dq (aP (au 4)))) av)))))))))))
def eN:dE:=fj 10 fX
def i_(a:dE):cH:=
 (aD (aV 4 (aA ay (aF 0 (cT 8 av))))
 (aD (fK (Fp (aK (bf (gq false) (au 3) (bR 0))) (aK (bf Ea (au 4) (bR 3)))) (aD (fK (gD (aK (fO (aP (au 1)))) (aK (bf (gq true) (au 4) (bR 0)))) (cB (cz (au 1) (aA ay (aF 0 (ar (et (aP (au 1))) av))))) fQ)
 (cB (aA ay (aF 0 (cT 3 av))))) fQ)
 (aD (fK (gD (aK (fO (aP (au 2)))) (aK (bf (gq false) (au 4) (bR 3)))) (cB (aW (jQ "waits" (ar (cz (au 2) (aA ay (aF 0 (ar (et (aP (au 2))) av)))) av)))) fQ)
 (aD (aV 5 (aA a (aF 0 (aF 1 (aF 2 (ar (bf y1 (au 3) (bR 1)) av))))))
 (aD (fK (aK (bf (gq false) (au 4) (bR 4))) (cB (aW (jQ "not" (aF 5 av)))) fQ)
 (aD (aV 6 (cz (bA (bq (jQ "plus" (jQ "minus" (jQ "less" (jQ "same" (jQ "both" av))))))) (aA ay (aF 0 (cT 5 av)))))
 (cB (aW (aF 6 (aF 5 (ar (aA a (aF 0 (aF 1 (aF 2 (ar (bf y1 (au 3) (bR 1)) av))))) av)))))))))))
def aY:Nat->dE
 |0=>λ_ _=>none
 |n+1=>fj 7 (i_<|aY n)
def ix:cH:=
 (aD (aV 5 (aA ay (aF 0 (cT 12 av))))
 (aD (fK (gD (aK (bf Ea (au 5) (bR 6))) (aK (fO (aP (au 4))))) (aD (lT (cz (au 4) (aA ay (aF 0 (ar (et (aP (au 4))) av)))) (iy (nG 2 (aH (bB 6) (aH (bB 7) di)))))
 (aD (aV 8 (cz (bA (w_ (aP (au 1)) (fg (bq (ar (cF .non) av))))) (aA ay (aF 0 (ar (bf bS (et (aP (au 1))) (bR 1)) av)))))
 (cB (aW (jQ "do" (aF 8 (aF 6 (aF 7 (ar (aA (aY 3) (aF 0 (aF 1 (ar (bA (bq av)) (cT 1 av))))) av))))))))) fQ)
 (aD (fK (gD (aK (bf Ea (au 5) (bR 9))) (aK (fO (aP (au 2))))) (aD (vW 9 10 (ar (cz (au 2) (aA ay (aF 0 (ar (et (aP (au 2))) av)))) (ar (cz (au 2) (aA ay (aF 0 (ar (et (aP (au 2))) av)))) av)))
 (cB (cz (bA (bq (ar (aW (jQ "take" (aF 9 av))) (ar (aW (jQ "give" (aF 9 av))) (ar (aW (jQ "pass" (aF 9 (aF 10 av)))) av))))) (aA ay (aF 0 (cT 3 av)))))) fQ)
 (aD (aV 11 (bf bS (bf bS (eR 3 0) (bR 1)) (aA ay (aF 0 (ar (bf y1 (eR 3 1) (eR 3 0)) av)))))
 (aD (fK (aK (bf (gq false) (au 5) (bR 9))) (cB (aW (jQ "unless" (ar (aA (aY 3) (aF 0 (aF 1 (ar (bA (bq av)) (cT 2 av))))) (ar (cz (bA (bq (aF 11 (aF 11 (cT 0 av))))) (aA ay (aF 0 (cT 3 av)))) av))))) fQ)
 (aD (fK (aK (bf (gq false) (au 5) (bR 10))) (cB (aW (jQ "go" (ar (cz (bA (bq (aF 11 (cT 0 av)))) (aA ay (aF 0 (cT 2 av)))) av)))) fQ)
 (aD (fK (Fp (aK (eqQ false (aP (au 1)) (fg (bq av)))) (aK (bf (gq false) (aA ay (aF 0 (cT 2 av))) (bR 0)))) (cB (aW (jQ "say" (ar (aA (aY 3) (aF 0 (aF 1 (ar (bA (bq av)) (cT 1 av))))) av)))) fQ)
 (cB (aW (jQ "put" (ar (cz (au 1) (aA ay (aF 0 (ar (et (aP (au 1))) av)))) (ar (aA (aY 3) (aF 0 (aF 1 (ar (bA (bq av)) (cT 2 av))))) av))))))))))))
def eK:dE:=fj 12 ix
def iC:cH:=
 (aD (lT (au 1) (iy (nG 3 (aH (bB 4) (aH (bB 5) (aH (bB 6) di))))))
 (aD (aV 7 (bA (w_ (aP (au 4)) (fg (bq (jQ "given" av))))))
 (aD (aV 8 (aA ay (aF 0 (cT 10 av))))
 (aD (fK (gD (aK (bf Ea (au 8) (bR 3))) (aK (fO (aP (au 5))))) (cB (aW (jQ "wait" (ar (cz (au 5) (aA ay (aF 0 (ar (et (aP (au 5))) av)))) (ar (aA (aY 3) (aF 0 (aF 7 (aF 5 (cT 1 av))))) av))))) fQ)
 (aD (fK (gD (aK (bf Ea (au 8) (bR 5))) (aK (fO (aP (au 5))))) (aD (aV 9 (cz (bA (bq (jQ "call" (ar (cz (bA (bq (jQ "call" (jQ "all" av)))) (Cu intOfD (ar (bf (gq false) (au 6) (cF (.str "when free"))) av))) av)))) (aA ay (aF 0 (cT 2 av)))))
 (cB (aW (aF 9 (ar (cz (au 5) (aA ay (aF 0 (ar (et (aP (au 5))) av)))) av))))) fQ)
 (aD (fK (gD (aK (bf Ea (au 8) (bR 7))) (aK (fO (aP (au 3))))) (aD (lT (cz (au 3) (aA ay (aF 0 (ar (et (aP (au 3))) av)))) (iy (nG 2 (aH (bB 10) (aH (bB 11) di)))))
 (aD (aV 12 (cz (bA (w_ (aP (au 4)) (fg (bq (ar (cF .non) av))))) (aA ay (aF 0 (ar (bf bS (et (aP (au 4))) (bR 1)) av)))))
 (cB (aW (jQ "do" (aF 12 (aF 10 (aF 11 (ar (aA (aY 3) (aF 0 (aF 7 (aF 5 (cT 1 av))))) av))))))))) fQ)
 (aD (fK (aK (bf (gq false) (au 8) (bR 7))) (cB (aW (jQ "tell" (ar (aA (aY 3) (aF 0 (aF 7 (aF 5 (cT 1 av))))) av)))) fQ)
 (aD (fK (aK (bf (gq false) (au 8) (bR 8))) (aD (aV 13 (bf bS (bf bS (eR 2 0) (bR 1)) (aA ay (aF 0 (ar (bf y1 (eR 2 1) (eR 2 0)) av)))))
 (cB (aW (jQ "unless" (ar (aA (aY 3) (aF 0 (aF 7 (aF 5 (cT 2 av))))) (ar (cz (bA (bq (aF 13 (aF 13 (cT 0 av))))) (aA ay (aF 0 (cT 3 av)))) av)))))) fQ)
 (aD (fK (aK (eqQ false (aP (au 4)) (fg (bq av)))) (cB (aW (jQ "tell" (jQ "given" av)))) fQ)
 (cB (aW (jQ "put" (ar (cz (au 4) (aA ay (aF 0 (ar (et (aP (au 4))) av)))) (ar (aA (aY 3) (aF 0 (aF 7 (aF 5 (cT 2 av))))) av))))))))))))))
def eF:dE:=fj 14 iC
def lL:cH:=
 (aD (aV 2 (bA (dU eG (aF 0 (cT 24 av)))))
 (aD (aV 3 (cz (bA (bq (cT 1 (cT 2 (cT 1 (cT 2 (cT 3 (cT 0 av)))))))) (aA ay (aF 0 (cT 6 av)))))
 (aD (aV 4 (bA (bx [none,some 0] (iH (au 3)) (bB 0) bI (bf bS (bR 1) (aA ay (aF 1 (cT 2 av)))))))
 (aD (aV 5 (bA (bq av)))
 (aD (ie (iH (au 3)) (bB 6) (rj (wg (au 5) (fg (bx [none,some 2,some 6] (IS (bR 1) (cz (au 4) (au 6))) (bB 0) bI (aW (ar (cz (au 1) (au 2)) (ar (cz (au 1) (bf bS (bR 8) (au 0))) av))))))))
 (aD (lT (aW (ar (bA (bq av)) (ar (bA (bq av)) av))) (iy (nG 2 (aH (bB 7) (aH (bB 8) di)))))
 (aD (ie (iH (au 3)) (bB 6) (aD (aV 9 (bA (uD (fg (uD (aP (au 2)) (jJ (bR 12)) jP)) jP (jJ (aA ay (aF 0 (cT 3 av)))))))
 (aD (aV 10 (bA (uD (fg (uD (aP (au 2)) (jJ (cz (bA (bq (cT 0 (cT 16 av)))) (aA ay (aF 0 (cT 2 av))))) jP)) jP (jJ (cz (bA (bq (cT 1 (cT 0 (cT 1 (cT 2 av)))))) (aA ay (aF 0 (cT 4 av))))))))
 (aD (aV 11 (cz (bA (bq (jQ "at once" (jQ "when free" av)))) (aA ay (aF 0 (cT 2 av)))))
 (aD (aV 12 (bA (bq av)))
 (aD (ie (iH (cz (au 4) (au 6))) (bB 13) (aD (aV 14 (bf bS (bR 1) (aA ay (aF 0 (cT 3 av)))))
 (aD (aV 15 (bA (Eo (aP (au 5)) (Cu intOfD (ar (bf (gq false) (au 13) (bR 0)) av)))))
 (aD (aV 16 (bA (bx [none,some 0,some 9,some 10,some 11,some 14,some 15] (iH (au 14)) (bB 0) bI (aA eF (aF 1 (ar (aW (aF 2 (aF 3 (aF 4 av)))) (ar (aW (aF 0 (aF 5 av))) (aF 6 av))))))))
 (rj (Ad lg (au 12) (ar (aW (ar (cz (au 2) (bf bS (bR 8) (au 13))) (ar (tupQ (dq (aP (au 16)))) av))) av)))))))
 (aD (rj (wg (au 8) (fg (bx [none,some 2,some 6] (gQ (aP (au 12))) (bB 0) bI (aW (ar (cz (au 1) (au 2)) (gY 0 0 av)))))))
 (aD (aV 17 (tupQ (fg (bx [none,some 0] (gQ (aP (au 9))) (bB 0) bI (aW (aF 0 (ar (aA ay (aF 1 (cT 3 av))) av)))))))
 (aD (aV 18 (tupQ (fg (bx [none,some 0] (gQ (aP (au 10))) (bB 0) bI (aW (aF 0 (ar (cz (bA (bq (jQ "row" (jQ "turns" av)))) (aA ay (aF 1 (cT 2 av)))) av)))))))
 (rj (Ad lg (au 7) (ar (aW (ar (cz (au 2) (au 6)) (aF 11 (aF 17 (aF 18 (ar (tupQ (dq (aP (au 12)))) av)))))) av))))))))))))
 (aD (aV 19 (tupQ (fg (bx [none,some 0] (gQ (fg (uD (fg (uD (aP (au 2)) (jJ (bR 4)) jP)) jP (jJ (cz (bA (bq (cT 0 (cT 1 (cT 2 (cT 1 av)))))) (aA ay (aF 0 (cT 4 av)))))))) (bB 0) bI (aW (aF 0 (ar (aA ay (aF 1 (cT 2 av))) av)))))))
 (aD (aV 20 (tupQ (fg (bx [none,some 0] (gQ (fg (uD (fg (uD (aP (au 2)) (jJ (bR 20)) jP)) jP (jJ (cz (bA (bq (cT 0 (cT 0 (cT 1 av))))) (aA ay (aF 0 (cT 3 av)))))))) (bB 0) bI (aW (aF 0 (ar (aA ay (aF 1 (cT 2 av))) av)))))))
 (aD (aV 21 (bA (bq av)))
 (aD (ie (iH (cz (bA (bq (cT 2 (cT 2 (cT 3 (cT 1 (cT 2 (cT 4 av)))))))) (aA ay (aF 0 (cT 6 av))))) (bB 6) (aD (aV 22 (bA (uD (fg (uD (aP (au 2)) (jJ (bR 22)) jP)) jP (jJ (aA ay (aF 0 (cT 2 av)))))))
 (aD (aV 14 (bf bS (bR 1) (aA ay (aF 0 (aF 1 av)))))
 (aD (aV 23 (bA (w_ (aP (au 22)) (fg (bx [none,none] (gQ (aP (au 20))) (iy (nG 2 (aH (bB 0) (aH (bB 1) di)))) bI (au 0))))))
 (aD (aV 16 (bA (bx [none,some 0,some 8,some 14,some 19,some 23] (iH (au 14)) (bB 0) bI (aA eK (aF 1 (aF 5 (ar (bA (bx [none,none] (gQ (aP (au 4))) (iy (nG 2 (aH (bB 0) (aH (bB 1) di)))) bI (au 0))) (ar (aW (aF 0 (aF 3 av))) (aF 2 av)))))))))
 (rj (Ad lg (au 21) (ar (aW (ar (tupQ (fg (bx [none] (gQ (aP (au 22))) (bB 0) bI (aW (aF 0 (cT 0 av)))))) (ar (tupQ (dq (aP (au 16)))) av))) av))))))))
 (cB (aW (ar (tupQ (dq (aP (au 7)))) (aF 19 (aF 20 (ar (tupQ (dq (aP (au 21)))) av)))))))))))))))))
def iS:dE:=fj 24 lL
def jW:cH:=
 (aD (fK (aK (bf (gq false) (aA ay (aF 0 (cT 4 av))) (bR 0))) (cB (aA iS (aF 0 (ar (bf bS (bR 1) (aA ay (aF 0 (cT 4 av)))) av)))) fQ)
 (cB (aA eN (aF 0 av))))
def fI:dE:=fj 1 jW
def pH:cH:=
 (JL<|bx [none,none] (gQ<|aP<|au 0) (iy<|nG 2<|aH (bB 0)<|aH (bB 1) di) bI<|au 1)
def lV:dE:=fj 1 pH
def ia:cH:=
 (aD (aV 1 (bA (bq av)))
 (aD (ie (gQ (aP (eR 0 1))) (iy (nG 2 (aH (bB 2) (aH (bB 3) di)))) (rj (vb (au 1) (aP (au 3)))))
 (aD (ie (gQ (aP (eR 0 0))) (iy (nG 5 (aH (bB 4) (aH (bB 5) (aH (bB 3) (aH (bB 6) (aH (bB 7) di))))))) (aD (rj (vb (au 1) (aP (bf bS (au 3) (au 6)))))
 (ie (gQ (aP (au 7))) (bB 8) (rj (wg (au 1) (fg (dU lV (aF 8 av))))))))
 (cB (au 1)))))
def cD:dE:=fj 9 ia
def lG:cH:=
 (cB<|cz (cz (cz (eR 0 3)<|au 1)<|bR 1)<|tX<|bR 1)
def cX:dE:=fj 2 lG
def lj:cH:=
 (aD (vW 3 4 (gY 2 0 (gY 2 1 av)))
 (aD (fK (aK (bf (gq false) (au 3) (cF (.int (-1))))) (cB (cz (cz (eR 0 3) (au 1)) (bR 1))) fQ)
 (cB (cz (cz (cz (cz (eR 0 0) (au 3)) (bR 4)) (au 4)) (bR 1)))))
def fw:dE:=fj 5 lj
def ik:cH:=
 (aD (aV 3 (aA cX (aF 1 (aF 2 av))))
 (cB (FL (bf (gq false) (eR 3 0) (cF (.int (-1)))) (bf (gq false) (eR 3 2) (et (aP (aA fw (aF 0 (aF 2 (aF 3 av))))))))))
def fN:dE:=fj 4 ik
def pQ:cH:=
 (aD (aV 2 (bA (dU cD (aF 1 av))))
 (JL (bx [none,some 0,some 1,some 2] (iH (et (aP (eR 1 3)))) (bB 0) (gD (aK (HX true (au 0) (aP (au 3)))) (sP (lC (aA fN (aF 1 (aF 2 (aF 0 av))))))) (au 0))))
def hX:dE:=fj 3 pQ
def pR:cH:=
 (JL<|bx [none] (gQ<|aP<|au 0) (bB 0) bI<|eR 0 0)
def ed:dE:=fj 1 pR
def pS:cH:=
 (cB<|K2 (fg<|dU ed<|aF 0 av)<|au 1)
def dk:dE:=fj 2 pS
def ng:cH:=
 (cB<|bf bS (bf bS (tH (au 0) jP<|jJ<|au 1)<|aW<|aF 2 av)<|tH (au 0) (jJ<|bf bS (au 1)<|bR 1) jP)
def dB:dE:=fj 3 ng
def nq:cH:=
 (cB<|bf bS (tH (au 0) jP<|jJ<|bR 3)<|aW<|ar (aA dB<|gY 0 3<|aF 1<|ar (aW<|aF 2<|aF 3 av) av) av)
def eX:dE:=fj 4 nq
def nL:cH:=
 (cB<|bf bS (aW<|ar (aA dB<|gY 0 0<|aF 1<|aF 2 av) av)<|tH (au 0) (jJ<|bR 1) jP)
def c_:dE:=fj 3 nL
def j7:cH:=
 (aD (aV 5 (cz (aA cX (aF 1 (aF 2 av))) (bR 0)))
 (aD (fK (aK (bf (gq true) (au 5) (cF (.int (-1))))) (aD (aV 6 (aA dk (ar (cz (cz (eR 0 0) (au 5)) (bR 2)) (aF 3 av))))
 (aD (aV 7 (aA dB (ar (cz (cz (eR 1 0) (au 5)) (bR 0)) (aF 6 (aF 4 av)))))
 (cB (aA c_ (aF 1 (aF 5 (ar (bf bS (aW (aF 7 av)) (tH (cz (eR 1 0) (au 5)) (jJ (bR 1)) jP)) av))))))) fQ)
 (aD (fK (aK (HX false (au 3) (fg (dU ed (gY 0 2 av))))) (aD (aV 8 (aA dB (gY 1 2 (ar (aA dk (gY 0 2 (aF 3 av))) (aF 4 av)))))
 (cB (aW (gY 1 0 (gY 1 1 (aF 8 (gY 1 3 av))))))) fQ)
 (aD (lT (cz (eR 1 3) (au 2)) (iy (nG 2 (aH (bB 7) (aH (bB 9) di)))))
 (aD (aV 6 (aA dk (ar (cz (cz (eR 0 3) (au 2)) (bR 0)) (aF 3 av))))
 (cB (aA eX (aF 1 (aF 2 (ar (aA dB (aF 7 (aF 6 (aF 4 av)))) (aF 9 av)))))))))))
def e_:dE:=fj 10 j7
def i8:cH:=
 (aD (fK (aK (bf (gq false) (au 0) (cF (.str "plus")))) (cB (Cu minD (ar (bf bS (au 1) (au 2)) (ar (cF (.int (9))) av)))) fQ)
 (aD (fK (aK (bf (gq false) (au 0) (cF (.str "minus")))) (cB (Cu maxD (ar (bf y1 (au 1) (au 2)) (cT 0 av)))) fQ)
 (aD (fK (aK (bf (gq false) (au 0) (cF (.str "less")))) (cB (sM (aK (bf Ea (au 1) (au 2))) (bR 1) (bR 0))) fQ)
 (aD (fK (aK (bf (gq false) (au 0) (cF (.str "same")))) (cB (sM (aK (bf (gq false) (au 1) (au 2))) (bR 1) (bR 0))) fQ)
 (cB (sM (gD (aK (bf (gq true) (au 1) (bR 0))) (aK (bf (gq true) (au 2) (bR 0)))) (bR 1) (bR 0)))))))
def gk:dE:=fj 3 i8
def pU(a:dE):cH:=
 (aD (fK (lC (Ds "int" (au 0))) (cB (au 0)) fQ)
 (aD (fK (lC (Ds "str" (au 0))) (cB (Jh (au 1) (au 0))) fQ)
 (aD (fK (aK (bf (gq false) (eR 0 0) (cF (.str "waits")))) (cB (sM (aK (bf OA (Jh (au 2) (eR 0 1)) (bR 0))) (bR 1) (bR 0))) fQ)
 (aD (aV 3 (aA a (gY 0 1 (aF 1 (aF 2 av)))))
 (aD (fK (aK (bf (gq false) (eR 0 0) (cF (.str "not")))) (cB (sM (aK (bf (gq false) (au 3) (bR 0))) (bR 1) (bR 0))) fQ)
 (cB (aA gk (gY 0 0 (aF 3 (ar (aA a (gY 0 2 (aF 1 (aF 2 av)))) av))))))))))
def gf:Nat->dE
 |0=>λ_ _=>none
 |n+1=>fj 4 (pU<|gf n)
def lW:cH:=
 (aD (aV 4 (aA cX (aF 1 (aF 2 av))))
 (aD (aV 5 (eR 4 0))
 (aD (fK (aK (bf (gq false) (au 5) (cF (.int (-1))))) (aD (aV 6 (L0 (fg (dU ed (gY 0 2 av))) (aP (eR 1 2))))
 (aD (rj (H_ (au 6) (L0 (fg (dU ed (ar (cz (cz (eR 0 3) (au 2)) (bR 0)) av))) (aP (cz (cz (eR 1 3) (au 2)) (bR 0))))))
 (cB (aA (gf 6) (aF 3 (aF 6 (ar Oo av))))))) fQ)
 (aD (aV 6 (L0 (fg (dU ed (ar (cz (cz (eR 0 0) (au 5)) (bR 2)) av))) (aP (cz (cz (eR 1 0) (au 5)) (bR 0)))))
 (aD (Kh (au 6) (cF (.str "given")) (eR 4 3))
 (aD (MR 7 (p_ [none,none] (Gz (fg (dU ed (ar (cz (cz (eR 0 0) (au 5)) (bR 3)) av))) (aP (cz (cz (eR 1 0) (au 5)) (bR 4)))) (iy (nG 2 (aH (bB 0) (aH (bB 1) di)))) bI (au 0) (et (aP (au 1)))))
 (cB (aA (gf 6) (aF 3 (aF 6 (aF 7 av)))))))))))
def dH:dE:=fj 8 lW
def w6:cH:=
 (cB<|aA e_<|aF 0<|aF 1<|aF 2<|gY 3 1<|ar (aA dH<|aF 0<|aF 1<|aF 2<|gY 3 2 av) av)
def rG:dE:=fj 4 w6
def f_:cH:=
 (aD (lT (cz (eR 0 3) (au 1)) (iy (nG 2 (aH (bB 3) (aH (bB 4) di)))))
 (cB (aA eX (aF 0 (aF 1 (aF 3 (ar (bf bS (tH (au 4) jP (jJ (tX (bR 1)))) (aW (aF 2 av))) av)))))))
def dG:dE:=fj 5 f_
def xt:cH:=
 (aD (aV 3 (aA cX (aF 0 (aF 1 av))))
 (cB (aA dG (aF 0 (aF 1 (ar (bf bS (bf bS (tH (au 3) jP (jJ (bR 2))) (aW (aF 2 av))) (tH (au 3) (jJ (bR 3)) jP)) av))))))
def kb:dE:=fj 4 xt
def nV:cH:=
 (aD (fK (aK (bf (gq false) (aA dH (aF 0 (aF 1 (aF 2 (gY 3 1 av))))) (bR 0))) (cB (aA kb (aF 1 (aF 2 (gY 3 2 av))))) fQ)
 (cB (au 1)))
def km:dE:=fj 4 nV
def Bc:cH:=
 (cB<|aA kb<|aF 1<|aF 2<|gY 3 1 av)
def wx:dE:=fj 4 Bc
def sZ:cH:=
 (aD (lT (cz (eR 0 0) (au 1)) (iy (nG 5 (aH (bB 3) (aH (bB 4) (aH (bB 5) (aH (bB 6) (aH (bB 7) di))))))))
 (aD (fK (aK (bf (gq false) (au 4) (cF (.int (-1))))) (cB (aA c_ (aF 0 (aF 1 (ar (aW (aF 3 (aF 2 (aF 5 (aF 6 (aF 7 av)))))) av))))) fQ)
 (cB (aA c_ (aF 0 (aF 1 (ar (aW (aF 3 (aF 4 (ar (bf bS (au 5) (aW (aF 2 av))) (aF 6 (aF 7 av)))))) av)))))))
def lF:dE:=fj 8 sZ
def AS:cH:=
 (aD (aV 4 (aA dk (gY 0 0 (gY 3 2 av))))
 (aD (aV 5 (aA dk (ar (cz (cz (eR 0 0) (au 4)) (bR 4)) (gY 3 3 av))))
 (aD (aV 6 (aW (aF 4 (aF 5 (cT 0 (ar (aA dH (aF 0 (aF 1 (aF 2 (gY 3 4 av))))) (cT 0 av)))))))
 (aD (lT (cz (eR 1 3) (au 2)) (iy (nG 2 (aH (bB 7) (aH (bB 8) di)))))
 (cB (aA lF (ar (aA eX (aF 1 (aF 2 (aF 7 (ar (bf bS (au 8) (aW (aF 6 av))) av))))) (aF 4 (aF 2 av)))))))))
def vZ:dE:=fj 9 AS
def tN:cH:=
 (aD (aV 4 (cz (aA cX (aF 1 (aF 2 av))) (bR 0)))
 (cB (aW (aF 4 (ar (aA dk (ar (cz (cz (eR 0 0) (au 4)) (bR 3)) (aF 3 av))) av)))))
def jH:dE:=fj 5 tN
def m_:cH:=
 (aD (aV 4 (cz (eR 0 0) (au 1)))
 (cB (aA c_ (aF 0 (aF 1 (ar (bf bS (tH (au 4) jP (jJ (bR 4))) (aW (ar (aA dB (gY 4 4 (aF 2 (aF 3 av)))) av))) av))))))
def eZ:dE:=fj 5 m_
def Aq:cH:=
 (aD (lT (cz (eR 0 0) (au 1)) (iy (nG 5 (aH (bB 2) (aH (bB 3) (aH (bB 4) (aH (bB 5) (aH (bB 6) di))))))))
 (aD (fK (lC (au 5)) (cB (aA c_ (aF 0 (aF 1 (ar (aW (aF 2 (gY 5 0 (aF 4 (ar (tH (au 5) (jJ (bR 1)) jP) (aF 6 av)))))) av))))) fQ)
 (aD (fK (lC (au 4)) (cB (aA c_ (aF 0 (aF 1 (ar (aW (aF 2 (gY 4 0 (ar (tH (au 4) (jJ (bR 1)) jP) (aF 5 (aF 6 av)))))) av))))) fQ)
 (cB (aA c_ (aF 0 (aF 1 (ar (aW (aF 2 (ar (cF (.int (-1))) (aF 4 (aF 5 (aF 6 av)))))) av))))))))
def qm:dE:=fj 7 Aq
def t6:cH:=
 (aD (lT (aA jH (aF 0 (aF 1 (aF 2 (gY 3 1 av))))) (iy (nG 2 (aH (bB 4) (aH (bB 5) di)))))
 (aD (aV 6 (bR 0))
 (aD (fK (aK (bf (gq false) (cz (cz (cz (cz (eR 0 0) (au 4)) (bR 3)) (au 5)) (bR 1)) (cF (.str "turns")))) (aV 6 (aA dH (aF 0 (aF 1 (aF 2 (gY 3 2 av)))))) fQ)
 (aD (aV 7 (cz (cz (cz (eR 1 0) (au 4)) (bR 4)) (au 5)))
 (aD (aV 8 (et (fg (bx [none,none,some 6] (gQ (aP (au 7))) (iy (nG 2 (aH (bB 0) (aH (bB 1) di)))) (aK (bf LY (au 0) (au 2))) (au 0)))))
 (aD (aV 9 (aA eZ (aF 1 (aF 4 (aF 5 (ar (bf bS (bf bS (tH (au 7) jP (jJ (au 8))) (aW (ar (aW (aF 6 (aF 2 av))) av))) (tH (au 7) (jJ (au 8)) jP)) av))))))
 (cB (aA qm (aF 9 (aF 4 av))))))))))
def oy:dE:=fj 10 t6
def tm:cH:=
 (aD (lT (aA jH (aF 0 (aF 1 (aF 2 (gY 3 1 av))))) (iy (nG 2 (aH (bB 4) (aH (bB 5) di)))))
 (aD (aV 6 (cz (cz (cz (eR 1 0) (au 4)) (bR 4)) (au 5)))
 (aD (fK (sP (lC (au 6))) (cB (au 1)) fQ)
 (aD (aV 7 (aA eZ (aF 1 (aF 4 (aF 5 (ar (tH (au 6) (jJ (bR 1)) jP) av))))))
 (aD (fK (aK (bf (gq false) (cz (cz (eR 0 0) (au 4)) (bR 1)) (cF (.str "when free")))) (cB (au 7)) fQ)
 (aD (lT (cz (eR 7 0) (au 4)) (iy (nG 5 (aH (bB 8) (aH (bB 9) (aH (bB 10) (aH (bB 11) (aH (bB 12) di))))))))
 (cB (aA c_ (aF 7 (aF 4 (ar (aW (aF 8 (ar (cz (eR 6 0) (bR 1)) (aF 10 (ar (bf bS (au 11) (aW (aF 2 av))) (aF 12 av)))))) av)))))))))))
def oJ:dE:=fj 13 tm
def xn:cH:=
 (aD (lT (aA jH (aF 0 (aF 1 (aF 2 (gY 3 1 av))))) (iy (nG 2 (aH (bB 4) (aH (bB 5) di)))))
 (cB (aA eZ (aF 1 (aF 4 (aF 5 (ar (aW av) av)))))))
def rR:dE:=fj 6 xn
def uh:cH:=
 (aD (aV 4 (aA dH (aF 0 (aF 1 (aF 2 (gY 3 1 av))))))
 (cB (aA dG (aF 1 (aF 2 (ar (bf bS (tH (aA cX (aF 1 (aF 2 av))) jP (jJ (bR 4))) (aW (aF 4 av))) av))))))
def pk:dE:=fj 5 uh
def nO:cH:=
 (cB<|bf bS (aW<|gY 0 0<|ar (aA dB<|gY 0 1<|aF 1<|aF 2 av) av)<|tH (au 0) (jJ<|bR 2) jP)
def ff:dE:=fj 3 nO
def Ap:cH:=
 (aD (aV 4 (aA dk (gY 0 1 (aF 3 av))))
 (aD (lT (cz (eR 1 1) (au 4)) (iy (nG 2 (aH (bB 5) (aH (bB 6) di)))))
 (aD (fK (aK (bf OA (au 5) (bR 0))) (cB (aA ff (aF 1 (aF 4 (ar (aW (ar (bf y1 (au 5) (bR 1)) (aF 6 av))) av))))) fQ)
 (cB (aA ff (aF 1 (aF 4 (ar (aW (aF 5 (ar (bf bS (au 6) (aW (aF 2 av))) av))) av))))))))
def si:dE:=fj 7 Ap
def t7:cH:=
 (cB<|aA si<|aF 0<|aF 1<|aF 2<|gY 3 1 av)
def oT:dE:=fj 4 t7
def kQ:cH:=
 (aD (aV 3 (aA dk (gY 0 1 (aF 2 av))))
 (aD (lT (cz (eR 1 1) (au 3)) (iy (nG 2 (aH (bB 4) (aH (bB 5) di)))))
 (aD (fK (lC (au 5)) (cB (aA ff (aF 1 (aF 3 (ar (aW (aF 4 (ar (tH (au 5) (jJ (bR 1)) jP) av))) av))))) fQ)
 (cB (aA ff (aF 1 (aF 3 (ar (aW (ar (Cu minD (ar (bf bS (au 4) (bR 1)) (ar (cF (.int (9))) av))) (aF 5 av))) av))))))))
def gu:dE:=fj 6 kQ
def sC:cH:=
 (cB<|aA gu<|aF 0<|aF 1<|gY 3 1 av)
def o_:dE:=fj 4 sC
def sr:cH:=
 (cB<|aA si<|aF 0<|ar (aA gu<|aF 0<|aF 1<|gY 3 1 av)<|aF 2<|gY 3 2 av)
def oP:dE:=fj 4 sr
def xk:cH:=
 (cB<|au 1)
def rN:dE:=fj 4 xk
noncomputable def mw:List (Str×Str):= [("put","by_put"),("unless","by_unless"),("go","by_go"),("do","by_do"),("wait","by_wait"),("call","by_call"),("all","by_all"),("tell","by_tell"),("take","by_take"),("give","by_give"),("pass","by_pass"),("say","by_say")]
def tY:List (Str×dE):= [("by_put",rG),("by_unless",km),("by_go",wx),("by_do",vZ),("by_wait",oy),("by_call",oJ),("by_all",rR),("by_tell",pk),("by_take",oT),("by_give",o_),("by_pass",oP),("by_say",rN)]
def vh:cH:=
 (aD (aV 4 (Ou mw (eR 3 0)))
 (cB (sD 4 tY (aF 0 (aF 1 (aF 2 (aF 3 av)))))))
def jC:dE:=fj 5 vh
def pM:cH:=
 (aD (lT (cz (eR 1 3) (au 2)) (iy (nG 2 (aH (bB 3) (aH (bB 4) di)))))
 (aD (lT (cz (au 4) (tX (bR 1))) (iy (nG 5 (aH (bB 5) (aH (bB 6) (aH (bB 7) (aH (bB 8) (aH (bB 9) di))))))))
 (aD (aV 10 (aA eX (ar (aA qm (aF 1 (aF 5 av))) (aF 2 (aF 3 (ar (tH (au 4) jP (jJ (tX (bR 1)))) av))))))
 (aD (aV 11 (cz (aA fw (aF 0 (aF 2 (ar (cz (au 4) (tX (bR 2))) av)))) (bf y1 (cz (cz (au 4) (tX (bR 2))) (bR 2)) (bR 1))))
 (aD (fK (aK (bf (mz false) (eR 11 1) (cF .non))) (cB (au 10)) fQ)
 (cB (aA e_ (aF 0 (aF 10 (aF 2 (gY 11 1 (aF 9 av))))))))))))
def jq:dE:=fj 12 pM
def kH:cH:=
 (aD (aV 3 (aA cX (aF 1 (aF 2 av))))
 (aD (aV 4 (eR 3 0))
 (aD (fK (gD (aK (bf (gq true) (au 4) (cF (.int (-1))))) (aK (bf (gq true) (cz (cz (eR 1 0) (au 4)) (bR 1)) (au 2)))) (cB (aW (ar (aA lF (aF 1 (aF 4 (aF 2 av)))) (ar (cF .non) av)))) fQ)
 (aD (aV 5 (aA fw (aF 0 (aF 2 (aF 3 av)))))
 (aD (fK (aK (bf (gq false) (eR 3 2) (et (aP (au 5))))) (cB (aW (ar (aA jq (aF 0 (aF 1 (aF 2 av)))) (ar (cF .non) av)))) fQ)
 (aD (aV 6 (cz (au 5) (eR 3 2)))
 (aD (aV 7 (cF .non))
 (aD (fK (aK (bf (gq false) (eR 6 0) (cF (.str "say")))) (aV 7 (aW (aF 2 (ar (aA dH (aF 0 (aF 1 (aF 2 (gY 6 1 av))))) av)))) fQ)
 (cB (aW (ar (aA jC (aF 0 (ar (aA kb (aF 1 (aF 2 (ar (bf bS (eR 3 2) (bR 1)) av)))) (aF 2 (aF 6 av))))) (aF 7 av))))))))))))
def lP:dE:=fj 8 kH
def yG:cH:=
 (aD (aV 3 OP)
 (aD (rj (Gj (au 3) (au 1)))
 (aD (aV 4 (bA (bq (ar (aW (aF 1 (ar (tX (bR 1)) (ar (tX (bR 1)) av)))) av))))
 (aD (aV 5 (bR 0))
 (aD (Ay (gD (aK (bf Ea (au 5) (et (aP (au 4))))) (aK (bf LY (et (aP (au 4))) (au 2)))) (aD (aV 6 (cz (cz (au 4) (au 5)) (bR 0)))
 (aD (ie (gQ (fg (dU hX (aF 0 (aF 6 av))))) (bB 7) (aD (lT (aA lP (aF 0 (aF 6 (aF 7 av)))) (iy (nG 2 (aH (bB 8) (aH (bB 9) di)))))
 (fK (aK (EC (au 8) (au 3))) (aD (rj (Gj (au 3) (au 8)))
 (rj (Ad lg (au 4) (ar (aW (aF 8 (aF 5 (aF 7 av)))) av)))) fQ)))
 (MT 5 (bR 1)))) 500)
 (cB (sM (aK (bf LY (et (aP (au 4))) (au 2))) (au 4) (cF .non))))))))
def oZ:dE:=JX 10 yG
def Gr:cH:=
 (aD (aV 3 (aA oZ (aF 0 (aF 1 (aF 2 av)))))
 (aD (fK (aK (bf (mz false) (au 3) (cF .non))) (cB (cF .non)) fQ)
 (aD (aV 4 (bA (HM (fg (dU cD (aF 1 av))))))
 (aD (ie (gQ (aP (au 3))) (iy (nG 3 (aH (bB 5) (aH (bB 6) (aH (bB 7) di))))) (aD (aV 8 (bA (dU cD (aF 5 av))))
 (aV 4 (bA (bx [none,some 8] (gQ (aP (au 4))) (bB 0) (aK (HX false (au 0) (aP (au 1)))) (au 0))))))
 (cB (tupQ (dq (aP (au 4)))))))))
def vz:dE:=fj 9 Gr
def mU:cH:=
 (cB<|tupQ<|fg<|bx [none,none] (gQ<|aP<|au 0) (iy<|nG 2<|aH (bB 0)<|aH (bB 1) di) bI<|au 1)
def gg:dE:=fj 1 mU
def kW:cH:=
 (aD (lT (au 0) (iy (nG 5 (aH (bB 1) (aH (bB 2) (aH (bB 3) (aH (bB 4) (aH (bB 5) di))))))))
 (cB (aW (ar (aA gg (aF 3 av)) (ar (cF (.int (-1))) (ar (aW av) (ar (aW av) (ar (tupQ (fg (bx [none] (gQ (aP (au 4))) (bB 0) bI (aW av)))) av))))))))
def i3:dE:=fj 6 kW
def A5:cH:=
 (aD (lT (au 0) (iy (nG 4 (aH (bB 1) (aH (bB 2) (aH (bB 3) (aH (bB 4) di)))))))
 (aD (aV 5 (aW (ar (cF (.int (-1))) (ar (cF (.int (-1))) (cT 0 (cT 0 (cT 0 av)))))))
 (cB (aW (ar (tupQ (fg (bx [none] (gQ (aP (au 1))) (bB 0) bI (aA i3 (aF 0 av))))) (ar (tupQ (fg (bx [none,none] (gQ (aP (au 2))) (iy (nG 2 (aH (bB 0) (aH (bB 1) di)))) bI (aW (aF 1 (ar (aW av) av)))))) (ar (aA gg (aF 3 av)) (ar (tupQ (fg (bx [none,none,some 5] (gQ (aP (au 4))) (iy (nG 2 (aH (bB 0) (aH (bB 1) di)))) bI (aW (ar (aA gg (aF 0 av)) (ar (aW (aF 2 av)) av)))))) av))))))))
def xQ:dE:=fj 6 A5
def uq:cH:=
 (aD (fK (aK (HX true (au 2) (fg (dU hX (aF 0 (aF 1 av)))))) never fQ)
 (cB (aA lP (aF 0 (aF 1 (aF 2 av))))))
def oO:dE:=fj 3 uq
def kR:cH:=
 (aD (aV 2 (bA (bq av)))
 (aD (ie (gQ (fg (dU hX (aF 0 (aF 1 av))))) (bB 3) (aD (lT (aA oO (aF 0 (aF 1 (aF 3 av)))) (iy (nG 2 (aH (bB 4) (aH (bB 5) di)))))
 (rj (Ad lg (au 2) (ar (aW (aF 3 (aF 4 (aF 5 av)))) av)))))
 (cB (au 2))))
def gC:dE:=fj 6 kR
def nT:cH:=
 (aD (vW 3 4 (ar (aA xQ (aF 1 av)) (ar (bA (bq av)) av)))
 (aD (ie (iH (au 2)) (bB 5) (aD (aV 6 (bA (dU gC (aF 1 (aF 3 av)))))
 (fK (aK (fO (aP (au 6)))) (aD (lT (cz (au 6) (aA ay (aF 0 (ar (et (aP (au 6))) av)))) (iy (nG 3 (aH (bB 7) (aH (bB 3) (aH (bB 8) di))))))
 (rj (Ad lg (au 4) (aF 7 av)))) fQ)))
 (cB (aW (ar (tupQ (dq (aP (au 4)))) (aF 3 av))))))
def jU:dE:=fj 9 nT
def jS:cH:=
 (aD (aV 2 Oo)
 (aD (ie (Gz (aP (eR 0 0)) (aP (eR 1 0))) (iy (nG 2 (aH (bB 3) (aH (iy (nG 5 (aH (bB 4) (aH (bB 5) (aH (bB 6) (aH (bB 7) (aH (bB 8) di))))))) di)))) (ie (gQ (aP (au 6))) (bB 9) (Kh (au 2) (au 9) (aW (gY 3 0 (aF 5 av))))))
 (cB (au 2))))
def g8:dE:=JX 10 jS
def ur:cH:=
 (aD (aV 2 (bA (bq av)))
 (aD (aV 3 (au 1))
 (aD (Ay (gD (aK (Er (au 3) (au 0))) (gD (aK (bf Pq (au 3) (au 1))) (aK (bf Ea (et (aP (au 2))) (HK (au 0)))))) (aD (lT (Jh (au 0) (au 3)) (iy (nG 2 (aH (bB 4) (aH (bB 5) di)))))
 (aD (rj (Ad lg (au 2) (ar (aW (aF 3 (aF 4 av))) av)))
 (aD (fK (aK (bf (gq false) (au 5) (au 1))) (cB (tupQ (dq (aP (au 2))))) fQ)
 (aV 3 (au 5))))) 5)
 (cB (cF .non)))))
def kh:dE:=fj 6 ur
def A3:cH:=
 (aD (aV 2 (aA g8 (aF 0 (aF 1 av))))
 (aD (aV 3 (bA (bx [none,some 2] (iH (et (aP (eR 1 3)))) (bB 0) bI (aA kh (aF 1 (aF 0 av))))))
 (cB (tupQ (fg (bx [none] (gQ (aP (au 3))) (bB 0) (aK (bf (mz true) (au 0) (cF .non))) (au 0)))))))
def pE:dE:=fj 4 A3
def JW:cH:=
 (aD (ie (iH (bf bS (bR 1) (Cu minD (cT 4 (ar (et (aP (au 0))) av))))) (bB 1) (aD (aV 2 (bA (dU lZ (aF 0 (aF 1 av)))))
 (aD (aV 3 (aA fI (aF 2 av)))
 (ie (iH (bR 2)) (bB 4) (aD (aV 5 (cz (aA jU (aF 2 (aF 3 (ar (aA ay (aF 2 (cT 16 av))) av)))) (bR 1)))
 (aD (lT (aW (ar (aA pE (aF 3 (aF 5 av))) (ar (aA vz (aF 3 (aF 5 (cT 100 av)))) av))) (iy (nG 2 (aH (bB 6) (aH (bB 7) di)))))
 (aD (aV 8 (bA (bq av)))
 (aD (ie (gQ (aP (au 6))) (bB 9) (rj (wg (au 8) (fg (bx [none] (gQ (aP (au 9))) (bB 0) bI (eR 0 0))))))
 (aD (fK (gD (aK (bf (mz true) (au 7) (cF .non))) (sP (lC (uJ (fg (bx [none,some 7] (gQ (aP (au 8))) (bB 0) bI (zR false (au 0) (aP (au 1))))))))) (cB (cF (.bl false))) fQ)
 (aD (ie (iH (bR 15)) (bB 10) (aD (aV 11 (bA (dU gC (aF 3 (aF 5 av)))))
 (aD (fK (aK (fO (aP (au 11)))) (aD (lT (cz (au 11) (aA ay (aF 2 (ar (et (aP (au 11))) av)))) (iy (nG 3 (aH (bB 12) (aH (bB 5) (aH (bB 13) di))))))
 (fK (Fp (aK (zR false (au 12) (aP (au 8)))) (gD (aK (bf (mz true) (au 7) (cF .non))) (aK (zR false (au 12) (aP (au 7)))))) (cB (cF (.bl false))) fQ)) fQ)
 (fK (sP (lC (uJ (fg (bx [none,some 3,some 5] (gQ (aP (au 6))) (bB 0) bI (zR false (au 0) (aP (aA pE (aF 1 (aF 2 av)))))))))) (cB (cF (.bl false))) fQ))))
 (aD (aV 14 (aA vz (aF 3 (aF 5 (cT 100 av)))))
 (fK (gD (aK (bf (mz true) (au 7) (cF .non))) (Fp (aK (bf (mz false) (au 14) (cF .non))) (sP (lC (uJ (fg (bx [none,some 14] (gQ (aP (au 7))) (bB 0) bI (zR false (au 0) (aP (au 1)))))))))) (cB (cF (.bl false))) fQ))))))))))))
 (cB (cF (.bl true))))
def GQ:dE:=fj 15 JW
noncomputable def top(i:Nat):Stmt:=PySem.Challenge.pw_calledroom_k45_whole_rings_stay.main.body.getD i (.Pass #[0,0,0,0])
noncomputable abbrev ni:Stmt:=top 64
noncomputable abbrev kT:Stmt:=top 65
noncomputable abbrev j3:Stmt:=top 66
noncomputable abbrev fM:Stmt:=top 71
noncomputable abbrev iq:Stmt:=top 67
noncomputable abbrev gF:Stmt:=top 69
noncomputable abbrev gI:Stmt:=top 68
noncomputable abbrev kd:Stmt:=top 70
noncomputable abbrev jc:Stmt:=top 72
noncomputable abbrev m7:Stmt:=top 22
noncomputable abbrev gJ:Stmt:=top 55
noncomputable abbrev ka:Stmt:=top 14
noncomputable abbrev ki:Stmt:=top 15
noncomputable abbrev gG:Stmt:=top 56
noncomputable abbrev nP:Stmt:=top 54
noncomputable abbrev nB:Stmt:=top 27
noncomputable abbrev nR:Stmt:=top 29
noncomputable abbrev lN:Stmt:=top 16
noncomputable abbrev kP:Stmt:=top 19
noncomputable abbrev lA:Stmt:=top 17
noncomputable abbrev k9:Stmt:=top 31
noncomputable abbrev ir:Stmt:=top 3
noncomputable abbrev m8:Stmt:=top 2
noncomputable abbrev nH:Stmt:=top 30
noncomputable abbrev sj:Stmt:=top 35
noncomputable abbrev fH:Stmt:=top 20
noncomputable abbrev tU:Stmt:=top 21
noncomputable abbrev kO:Stmt:=top 36
noncomputable abbrev xG:Stmt:=top 37
noncomputable abbrev pZ:Stmt:=top 32
noncomputable abbrev wG:Stmt:=top 38
noncomputable abbrev pD:Stmt:=top 39
noncomputable abbrev lO:Stmt:=top 40
noncomputable abbrev wj:Stmt:=top 33
noncomputable abbrev qk:Stmt:=top 41
noncomputable abbrev pB:Stmt:=top 42
noncomputable abbrev sA:Stmt:=top 43
noncomputable abbrev qc:Stmt:=top 44
noncomputable abbrev lE:Stmt:=top 18
noncomputable abbrev xD:Stmt:=top 46
noncomputable abbrev pJ:Stmt:=top 45
noncomputable abbrev j2:Stmt:=top 48
noncomputable abbrev pW:Stmt:=top 47
noncomputable abbrev pY:Stmt:=top 49
noncomputable abbrev sf:Stmt:=top 50
noncomputable abbrev mZ:Stmt:=top 52
noncomputable abbrev ny:Stmt:=top 34
noncomputable abbrev qg:Stmt:=top 58
noncomputable abbrev pF:Stmt:=top 60
noncomputable abbrev Ah:Stmt:=top 62
noncomputable abbrev kY:Stmt:=top 11
noncomputable abbrev jT:Stmt:=top 13
noncomputable abbrev wy:Stmt:=top 12
noncomputable abbrev qh:Stmt:=top 57
noncomputable abbrev kg:Stmt:=top 73
noncomputable abbrev kI:Stmt:=top 74
noncomputable abbrev jf:Stmt:=top 6
noncomputable abbrev lu:Stmt:=top 7
noncomputable abbrev vY:Stmt:=top 5
noncomputable abbrev oa:Stmt:=top 75
end W28
namespace W28
open L2 DL PyProof.Rows
noncomputable abbrev zt:List Str:= ["_law_left","_law_many"]
noncomputable abbrev BP:List Str:= ["_law_left","_law_most"]
noncomputable abbrev uZ:List Str:= ["_law_left","_law_names","_law_bells","_law_deep"]
noncomputable abbrev BM:List Str:= ["_law_left","_law_own","_law_passes","_law_span","_law_deeds"]
noncomputable abbrev BS:List Str:= ["_law_left","_law_room","_law_span","_law_inner"]
noncomputable abbrev BK:List Str:= ["_law_left","_law_world_here","_law_most"]
noncomputable abbrev pq:List Str:= ["_law_left"]
noncomputable abbrev Ci:List Str:= ["_law_script","_law_k"]
noncomputable abbrev Ey:List Str:= ["_law_script"]
noncomputable abbrev BN:List Str:= ["_law_world_here","_law_scene"]
noncomputable abbrev JE:List Str:= ["_law_x","_law_left"]
noncomputable abbrev CN:List Str:= ["ahead","first"]
noncomputable abbrev zd:List Str:= ["form","first","second"]
noncomputable abbrev yd:List Str:= ["line"]
noncomputable abbrev yz:List Str:= ["parts","at","part"]
noncomputable abbrev yh:List Str:= ["roll","name"]
noncomputable abbrev yu:List Str:= ["roll"]
noncomputable abbrev x8:List Str:= ["room"]
noncomputable abbrev zF:List Str:= ["scene","at","room"]
noncomputable abbrev yF:List Str:= ["scene","at","turnstile"]
noncomputable abbrev CF:List Str:= ["scene","hand","frame"]
noncomputable abbrev B9:List Str:= ["scene","hand","row"]
noncomputable abbrev yI:List Str:= ["scene","hand","values","frames"]
noncomputable abbrev yn:List Str:= ["scene","hand"]
noncomputable abbrev BR:List Str:= ["scene","room","bell","line"]
noncomputable abbrev CJ:List Str:= ["scene","room","hand"]
noncomputable abbrev Cd:List Str:= ["scene","room"]
noncomputable abbrev BD:List Str:= ["scene"]
noncomputable abbrev z3:List Str:= ["things"]
noncomputable abbrev vt:List Str:= ["tree","things","waiting"]
noncomputable abbrev CT:List Str:= ["world","hand","frame"]
noncomputable abbrev Cs:List Str:= ["world","scene","hand","name"]
noncomputable abbrev bK:List Str:= ["world","scene","hand","row"]
noncomputable abbrev CB:List Str:= ["world","scene","hand","tree"]
noncomputable abbrev BA:List Str:= ["world","scene","hand","word","value"]
noncomputable abbrev CL:List Str:= ["world","scene","hand","word"]
noncomputable abbrev eJ:List Str:= ["world","scene","hand"]
noncomputable abbrev xI:List Str:= ["world","scene","most"]
noncomputable abbrev xb:List Str:= ["world","scene","name"]
noncomputable abbrev gL:List Str:= ["world","scene"]
noncomputable abbrev xh:List Str:= ["world","start","most"]
noncomputable abbrev wF:List Str:= ["world"]
section
variable(P:X9)(w:Xc)(K:X1)(b:X3)(a:Xe)
abbrev AU:Prop:=ft P w K b a 1 "_law_pot" Ci lZ
abbrev dw:Prop:=ft P w K b a 1 "_law_pick" zt ay
abbrev oW:Prop:=ft P w K b a 2 "_law_words" zt eG
abbrev pj:Prop:=ft P w K b a 3 "_law_ring_world" pq eN
abbrev kM:Prop:=ft P w K b a 5 "_law_any_sum" uZ (aY 3)
abbrev rB:Prop:=ft P w K b a 6 "_law_hand_row" BM eK
abbrev rE:Prop:=ft P w K b a 6 "_law_deed_row" BS eF
abbrev xA:Prop:=ft P w K b a 7 "_law_world" BP iS
abbrev uC:Prop:=ft P w K b a 8 "_law_either" pq fI
abbrev Bi:Prop:=ft P w K b a 1 "hands_at" yd lV
abbrev kA:Prop:=ft P w K b a 2 "hands_in_rows" BD cD
abbrev dP:Prop:=ft P w K b a 1 "last_frame" yn cX
abbrev j6:Prop:=ft P w K b a 1 "program_of" CT fw
abbrev q_:Prop:=ft P w K b a 2 "is_behind_all" eJ fN
abbrev nF:Prop:=ft P w K b a 3 "may_step" gL hX
abbrev nW:Prop:=ft P w K b a 1 "names_of" yu ed
abbrev ij:Prop:=ft P w K b a 2 "place_of" yh dk
abbrev gx:Prop:=ft P w K b a 1 "with_part" yz dB
abbrev iP:Prop:=ft P w K b a 2 "with_hand" yI eX
abbrev gB:Prop:=ft P w K b a 2 "with_room" zF c_
abbrev qD:Prop:=ft P w K b a 3 "put_thing" BA e_
abbrev sI:Prop:=ft P w K b a 1 "value_of_two" zd gk
abbrev A7:Prop:=ft P w K b a 8 "value_of" vt (gf 6)
abbrev fW:Prop:=ft P w K b a 9 "reckoned" CB dH
abbrev i6:Prop:=ft P w K b a 3 "with_last_frame" CF dG
abbrev rS:Prop:=ft P w K b a 4 "at_row" B9 kb
abbrev vB:Prop:=ft P w K b a 3 "come_in" CJ lF
abbrev p7:Prop:=ft P w K b a 3 "bell_of" CL jH
abbrev lI:Prop:=ft P w K b a 3 "with_line" BR eZ
abbrev BV:Prop:=ft P w K b a 3 "leave" Cd qm
abbrev qI:Prop:=ft P w K b a 2 "with_pass" yF ff
abbrev Ce:Prop:=ft P w K b a 3 "taken" Cs si
abbrev oI:Prop:=ft P w K b a 3 "given_back" xb gu
abbrev AW:Prop:=ft P w K b a 11 "row_done" bK jC
abbrev AA:Prop:=ft P w K b a 4 "end_deed" eJ jq
abbrev vq:Prop:=ft P w K b a 12 "step_of" eJ lP
abbrev C4:Prop:=ft P w K b a 13 "come_to" xh oZ
abbrev LC:Prop:=ft P w K b a 14 "lost" xI vz
abbrev qC:Prop:=ft P w K b a 1 "values_of" z3 gg
abbrev xi:Prop:=ft P w K b a 2 "begun_room" x8 i3
abbrev Ht:Prop:=ft P w K b a 3 "begun" wF xQ
abbrev C0:Prop:=ft P w K b a 13 "stepped" eJ oO
abbrev oG:Prop:=ft P w K b a 14 "_law_steps" BN gC
abbrev zq:Prop:=ft P w K b a 15 "_law_walk" BK jU
abbrev uQ:Prop:=ft P w K b a 1 "hands_ahead" gL g8
abbrev zW:Prop:=ft P w K b a 1 "ring_from" CN kh
abbrev HF:Prop:=ft P w K b a 2 "rings" gL pE
end
def OG(g:Gl X "len")(c:X.mg "len"=none)(d:PE X a (tQ (md X) f))(e:starEach [a] X.env= [(false,eval a X.env)]):PE X (.Call (.Name "len" p) [a] [] b) (tD (md X)<|et f):=se g c d e
def cp(S:aM X N js a c)(m:X.calm=true)(hi:PI X h b (tI (md X) i))(k:∀C s H fp,PG (aN X N a c C s H fp) h<|tG (md<|aN X N a c C s H fp) g)(ht:∀C s H fp,m6 (aN X N a c C s H fp) e<|tB (md<|aN X N a c C s H fp) t)(he:∀C s H fp,PE (aN X N a c C s H fp) d<|tD (md<|aN X N a c C s H fp) f)(l:autoParam (∀x,foldedSetIterable b X.env x=pure x) dl._auto_1):PE X (.ListComp d [⟨h,b,e,0⟩] a j) (tL (md X)<|bx js i g t f):=K_ S m hi k ht he l
def mq{d:Pos}(S:aM X N js a h)(u:X.calm=true)(hi:PI X l b (tI (md X) i))(p:∀C s H fp,PG (aN X N a h C s H fp) l<|tG (md<|aN X N a h C s H fp) g)(ht:∀C s H fp,m6 (aN X N a h C s H fp) j<|tB (md<|aN X N a h C s H fp) t)(he:∀C s H fp,PE (aN X N a h C s H fp) e<|tD (md<|aN X N a h C s H fp) f)(m:PG X c (oq n))(r:autoParam (∀x,foldedSetIterable b X.env x=pure x) dl._auto_1)(o:autoParam (swapsWithSole [c] (.ListComp e [⟨l,b,j,0⟩] a k) d.line X.env=pure true) db._auto_1)(q:autoParam ((assignEach [c] X.env).map (·.2)= [assign c X.env]) db._auto_1):PS X (.Assign [c] (.ListComp e [#[l,b,j,0]] a k) d) (tS (md X)<|aV n<|bA<|bx js i g t f):=Ks S u hi p ht he m r o q
def Fs{e:Pos}(S:aM X N js a d)(z:X.calm=true)(hi:PI X j b (tI (md X) i))(r:∀C s H fp,PG (aN X N a d C s H fp) j<|tG (md<|aN X N a d C s H fp) g)(ht:∀C s H fp,m6 (aN X N a d C s H fp) f<|tB (md<|aN X N a d C s H fp) t)(u:∀C s H fp,PE (aN X N a d C s H fp) k<|tD (md<|aN X N a d C s H fp) p)(y:∀C s H fp,PE (aN X N a d C s H fp) l<|tD (md<|aN X N a d C s H fp) q)(m:PG X c (oq n))(w:autoParam (∀x,foldedSetIterable b X.env x=pure x) dl._auto_1)(o:autoParam (swapsWithSole [c] (.DictComp k l [⟨j,b,f,0⟩] a h) e.line X.env=pure true) db._auto_1)(v:autoParam ((assignEach [c] X.env).map (·.2)= [assign c X.env]) db._auto_1):PS X (.Assign [c] (.DictComp k l [#[j,b,f,0]] a h) e) (tS (md X)<|MR n<|p_ js i g t p q):=Iw S z hi r ht u y m w o v
local macro_rules|`(tactic|specialize $n:num)=>do
 let k:=n.getNat
 if k<13 then `(tactic|specialize $(Lean.Syntax.mkNumLit<|toString (k+1))) else Lean.Macro.throwError ""
def ac(s:String):Lean.Syntax:=((s.splitOn " ").foldl (λ(st:List Lean.Syntax) t=>
 let n (k:Lean.Name) (a:List Lean.Syntax):Lean.Syntax:=.node .none k a.toArray
 let S (x:Lean.Syntax):=n `Lean.Parser.Tactic.tacticSeq [n `Lean.Parser.Tactic.tacticSeq1Indented [n `null [x]]]
 let c:=t.front
 let r:=(t.drop 1).toString
 if c='\'' then Lean.mkAtom r::st else if c='$' then (Lean.mkIdent r.toName).raw::st else if c='S' then S st.head!::st.tail! else if c='G' then n `group [Lean.mkAtom "|",S st.head!]::st.tail! else
 if c='H' then n `Lean.Parser.Term.hole [Lean.mkAtom "_"]::st else if c='Y' then n `Lean.Parser.Term.syntheticHole [Lean.mkAtom "?",Lean.mkAtom "_"]::st else
 let p:=r.splitOn ","
 let m:=p.head!.toNat!
 n (((",".intercalate p.tail!).splitOn ".").foldl .str (if c='T' then `Lean.Parser.Tactic else if c='E' then `Lean.Parser.Term else .anonymous)) (st.take m).reverse::st.drop m) []).head!
abbrev ad:=ac "'with_reducible 'change $PE H H A2,null E2,app '<| $tD H H A2,null E2,app A3,term_<|_ A0,null T3,change S T2,withReducible S"
abbrev al:=ac "'first '( '( 'with_reducible 'refine' $MQ '? $cc E2,syntheticHole '? $hh E2,syntheticHole Y '? $hk E2,syntheticHole Y '? $hn E2,syntheticHole Y Y Y A9,null E2,app T2,refine' S T2,withReducible S ') T3,paren '; '( 'case $cc A1,Lean.binderIdent A0,null T2,caseArg A1,null '=> 'assumption T1,assumption S T4,case S ') T3,paren '; '( 'case $hh A1,Lean.binderIdent A0,null T2,caseArg A1,null '=> 'assumption T1,assumption S T4,case S ') T3,paren '; '( 'case $hk A1,Lean.binderIdent A0,null T2,caseArg A1,null '=> 'first 'decide A0,null T1,optConfig T2,decide G 'omega A0,null T1,optConfig T2,omega G A2,null T2,first S T4,case S ') T3,paren '; '( 'case $hn A1,Lean.binderIdent A0,null T2,caseArg A1,null '=> 'repeat '( 'first 'exact $AJ T2,exact G 'refine $mh Y A1,null E2,app T2,refine G A2,null T2,first S ') T3,paren S T2,tacticRepeat_ S T4,case S ') T3,paren A9,null T1,tacticSeq1Indented T1,tacticSeq ') T3,paren G '( '( 'with_reducible 'refine' $l7 '? $pg E2,syntheticHole '? $ff E2,syntheticHole A2,null E2,app T2,refine' S T2,withReducible S ') T3,paren '; '( 'case $pg A1,Lean.binderIdent A0,null T2,caseArg A1,null '=> '( 'refine' $BX '( $v ':= '. $int E2,dotIdent '( $[a A1,hygieneInfo E2,hygienicLParen '- '1 A1,num A2,term-_ ') E3,paren A1,null E2,app ') E5,namedArgument '? $a0 E2,syntheticHole '? $m0 E2,syntheticHole '? $r0 E2,syntheticHole '? $d0 E2,syntheticHole A5,null E2,app T2,refine' '; '( 'case $a0 A1,Lean.binderIdent A0,null T2,caseArg A1,null '=> 'exact $rfl T2,exact S T4,case S ') T3,paren '; '( 'case $m0 A1,Lean.binderIdent A0,null T2,caseArg A1,null '=> 'assumption T1,assumption S T4,case S ') T3,paren '; '( 'case $r0 A1,Lean.binderIdent A0,null T2,caseArg A1,null '=> 'exact '#[ H ', $rfl A3,null '] A3,term#[_,] T2,exact S T4,case S ') T3,paren '; '( 'case $d0 A1,Lean.binderIdent A0,null T2,caseArg A1,null '=> 'decide A0,null T1,optConfig T2,decide S T4,case S ') T3,paren A9,null T1,tacticSeq1Indented T1,tacticSeq ') T3,paren S T4,case S ') T3,paren '; '( 'case $ff A1,Lean.binderIdent A0,null T2,caseArg A1,null '=> 'exact 'λ H H A2,null A0,null '=> '. $int E2,dotIdent '( $[a A1,hygieneInfo E2,hygienicLParen '- '1 A1,num A2,term-_ ') E3,paren A1,null E2,app E4,basicFun E2,fun T2,exact S T4,case S ') T3,paren A5,null T1,tacticSeq1Indented T1,tacticSeq ') T3,paren G '( '( 'with_reducible 'refine' $l7 '? $pg E2,syntheticHole '? $ff E2,syntheticHole A2,null E2,app T2,refine' S T2,withReducible S ') T3,paren '; '( 'case $pg A1,Lean.binderIdent A0,null T2,caseArg A1,null '=> '( 'refine' $BX '( $v ':= '. $int E2,dotIdent '( $[a A1,hygieneInfo E2,hygienicLParen '9 A1,num ') E3,paren A1,null E2,app ') E5,namedArgument '? $a0 E2,syntheticHole '? $m0 E2,syntheticHole '? $r0 E2,syntheticHole '? $d0 E2,syntheticHole A5,null E2,app T2,refine' '; '( 'case $a0 A1,Lean.binderIdent A0,null T2,caseArg A1,null '=> 'exact $rfl T2,exact S T4,case S ') T3,paren '; '( 'case $m0 A1,Lean.binderIdent A0,null T2,caseArg A1,null '=> 'assumption T1,assumption S T4,case S ') T3,paren '; '( 'case $r0 A1,Lean.binderIdent A0,null T2,caseArg A1,null '=> 'exact '#[ H ', $rfl A3,null '] A3,term#[_,] T2,exact S T4,case S ') T3,paren '; '( 'case $d0 A1,Lean.binderIdent A0,null T2,caseArg A1,null '=> 'decide A0,null T1,optConfig T2,decide S T4,case S ') T3,paren A9,null T1,tacticSeq1Indented T1,tacticSeq ') T3,paren S T4,case S ') T3,paren '; '( 'case $ff A1,Lean.binderIdent A0,null T2,caseArg A1,null '=> 'exact 'λ H H A2,null A0,null '=> '. $int E2,dotIdent '( $[a A1,hygieneInfo E2,hygienicLParen '9 A1,num ') E3,paren A1,null E2,app E4,basicFun E2,fun T2,exact S T4,case S ') T3,paren A5,null T1,tacticSeq1Indented T1,tacticSeq ') T3,paren G A3,null T2,first S"
abbrev am:=ac "'with_reducible 'change $PA H H A2,null E2,app '<| $zV H H A2,null E2,app A3,term_<|_ A0,null T3,change S T2,withReducible S"
abbrev ap:=ac "'fail A0,null T2,fail S"
abbrev aT:=ac "'with_reducible 'change $PG H H A2,null E2,app '<| $tG H H A2,null E2,app A3,term_<|_ A0,null T3,change S T2,withReducible S"
abbrev ba:=ac "'with_reducible 'change $GN H H A2,null E2,app '<| $Od H H A2,null E2,app A3,term_<|_ A0,null T3,change S T2,withReducible S"
abbrev bd:=ac "'with_reducible 'change $PS H H A2,null E2,app '<| $tS H H A2,null E2,app A3,term_<|_ A0,null T3,change S T2,withReducible S"
abbrev bi:=ac "'first '( '( 'with_reducible 'refine $v8 Y Y Y Y Y '? $hsz E2,syntheticHole Y A7,null E2,app T2,refine S T2,withReducible S ') T3,paren '; '( 'case $hsz A1,Lean.binderIdent A0,null T2,caseArg A1,null '=> 'exact $rfl T2,exact S T4,case S ') T3,paren A3,null T1,tacticSeq1Indented T1,tacticSeq ') T3,paren G A1,null T2,first S"
abbrev bm:=ac "'with_reducible 'change $rq H H A2,null E2,app '<| $tS H H A2,null E2,app A3,term_<|_ A0,null T3,change S T2,withReducible S"
abbrev bn:=ac "'first 'refine $eT Y Y A2,null E2,app T2,refine G 'refine $qG Y A1,null E2,app T2,refine G A2,null T2,first S"
abbrev bt:=ac "'with_reducible 'change $PI H H H A3,null E2,app '<| $tI H H A2,null E2,app A3,term_<|_ A0,null T3,change S T2,withReducible S"
abbrev bw:=ac "'with_reducible 'change $PE H H A2,null E2,app '<| $tQ H H A2,null E2,app A3,term_<|_ A0,null T3,change S T2,withReducible S"
abbrev bJ:=ac "'with_reducible 'change $PE H H A2,null E2,app '<| $tL H H A2,null E2,app A3,term_<|_ A0,null T3,change S T2,withReducible S"
abbrev bY:=ac "'first '( '( 'with_reducible 'refine' $Mw '? $cc E2,syntheticHole '? $hh E2,syntheticHole Y '? $hk E2,syntheticHole Y '? $hn E2,syntheticHole Y Y Y A9,null E2,app T2,refine' S T2,withReducible S ') T3,paren '; '( 'case $cc A1,Lean.binderIdent A0,null T2,caseArg A1,null '=> 'assumption T1,assumption S T4,case S ') T3,paren '; '( 'case $hh A1,Lean.binderIdent A0,null T2,caseArg A1,null '=> 'assumption T1,assumption S T4,case S ') T3,paren '; '( 'case $hk A1,Lean.binderIdent A0,null T2,caseArg A1,null '=> 'first 'decide A0,null T1,optConfig T2,decide G 'omega A0,null T1,optConfig T2,omega G A2,null T2,first S T4,case S ') T3,paren '; '( 'case $hn A1,Lean.binderIdent A0,null T2,caseArg A1,null '=> 'repeat '( 'first 'exact $AJ T2,exact G 'refine $mh Y A1,null E2,app T2,refine G A2,null T2,first S ') T3,paren S T2,tacticRepeat_ S T4,case S ') T3,paren A9,null T1,tacticSeq1Indented T1,tacticSeq ') T3,paren G A1,null T2,first S"
abbrev ca:=ac "'with_reducible 'change $PT H H A2,null E2,app '<| $tB H H A2,null E2,app A3,term_<|_ A0,null T3,change S T2,withReducible S"
abbrev cm:=ac "'first 'refine $Mh '( $[a A1,hygieneInfo E2,hygienicLParen 'by 'assumption T1,assumption S E2,byTactic ') E3,paren Y Y A3,null E2,app T2,refine G A1,null T2,first S"
abbrev cs:=ac "'first '( '( 'with_reducible 'change H '= H A3,term_=_ A0,null T3,change S T2,withReducible S ') T3,paren '; 'exact $rfl T2,exact A3,null T1,tacticSeq1Indented T1,tacticSeq ') T3,paren G '( '( 'with_reducible 'change H '\\/ H A3,term_∨_ A0,null T3,change S T2,withReducible S ') T3,paren '; 'first 'exact $Or.inl $rfl A1,null E2,app T2,exact G 'exact $Or.inr $rfl A1,null E2,app T2,exact G 'exact $Or.inr '( $[a A1,hygieneInfo E2,hygienicLParen $Or.inl $rfl A1,null E2,app ') E3,paren A1,null E2,app T2,exact G 'exact $Or.inr '( $[a A1,hygieneInfo E2,hygienicLParen $Or.inr $rfl A1,null E2,app ') E3,paren A1,null E2,app T2,exact G A4,null T2,first A3,null T1,tacticSeq1Indented T1,tacticSeq ') T3,paren G '( '( 'with_reducible 'change $Gl H H A2,null E2,app A0,null T3,change S T2,withReducible S ') T3,paren '; 'exact $rfl T2,exact A3,null T1,tacticSeq1Indented T1,tacticSeq ') T3,paren G '( '( 'with_reducible 'change $L2.Loc H H A2,null E2,app A0,null T3,change S T2,withReducible S ') T3,paren '; 'first 'exact $Or.inl $rfl A1,null E2,app T2,exact G 'exact $Or.inr $rfl A1,null E2,app T2,exact G A2,null T2,first A3,null T1,tacticSeq1Indented T1,tacticSeq ') T3,paren G '( '( 'with_reducible 'change $Io H H A2,null E2,app A0,null T3,change S T2,withReducible S ') T3,paren '; 'first 'exact $Or.inl $rfl A1,null E2,app T2,exact G 'exact $Or.inr '( $[a A1,hygieneInfo E2,hygienicLParen $Or.inl $rfl A1,null E2,app ') E3,paren A1,null E2,app T2,exact G 'exact $Or.inr '( $[a A1,hygieneInfo E2,hygienicLParen $Or.inr $rfl A1,null E2,app ') E3,paren A1,null E2,app T2,exact G A3,null T2,first A3,null T1,tacticSeq1Indented T1,tacticSeq ') T3,paren G '( '( 'with_reducible 'change '( $[a A1,hygieneInfo E2,hygienicLParen H ': $Nat A1,null ') E5,typeAscription '<= H A3,term_≤_ A0,null T3,change S T2,withReducible S ') T3,paren '; 'omega A0,null T1,optConfig T2,omega A3,null T1,tacticSeq1Indented T1,tacticSeq ') T3,paren G '( '( 'with_reducible 'intro H H A2,null T2,intro S T2,withReducible S ') T3,paren '; 'rfl T1,tacticRfl A3,null T1,tacticSeq1Indented T1,tacticSeq ') T3,paren G 'with_reducible 'assumption T1,assumption S T2,withReducible G A8,null T2,first S"
abbrev cL:=ac "'first 'exact $rfl T2,exact G 'exact $Or.inl $rfl A1,null E2,app T2,exact G '( 'with_reducible 'first 'refine $PW.pt '( $[a A1,hygieneInfo E2,hygienicLParen $w_and Y Y A2,null E2,app ') E3,paren A1,null E2,app T2,refine G 'refine $PW.pt '( $[a A1,hygieneInfo E2,hygienicLParen $w_or Y Y A2,null E2,app ') E3,paren A1,null E2,app T2,refine G A2,null T2,first S T2,withReducible S ') T3,paren G 'refine $NL '( $[a A1,hygieneInfo E2,hygienicLParen 'by 'assumption T1,assumption S E2,byTactic ') E3,paren Y Y A3,null E2,app T2,refine G 'assumption T1,assumption G 'exact $Or.inr $rfl A1,null E2,app T2,exact G 'exact $Or.inr '( $[a A1,hygieneInfo E2,hygienicLParen $Or.inl $rfl A1,null E2,app ') E3,paren A1,null E2,app T2,exact G 'exact $Or.inr '( $[a A1,hygieneInfo E2,hygienicLParen $Or.inr $rfl A1,null E2,app ') E3,paren A1,null E2,app T2,exact G 'decide A0,null T1,optConfig T2,decide G 'omega A0,null T1,optConfig T2,omega G '( 'intro H H A2,null T2,intro '; 'rfl T1,tacticRfl A3,null T1,tacticSeq1Indented T1,tacticSeq ') T3,paren G '( 'intro H A1,null T2,intro '; 'rfl T1,tacticRfl A3,null T1,tacticSeq1Indented T1,tacticSeq ') T3,paren G '( 'intro H H H A3,null T2,intro '; 'rfl T1,tacticRfl A3,null T1,tacticSeq1Indented T1,tacticSeq ') T3,paren G 'exact '#[ $rfl ', $rfl ', $rfl ', $rfl ', $rfl ', $rfl ', $rfl A13,null '] A3,term#[_,] T2,exact G 'exact 'λ H H A2,null A0,null '=> '. $int E2,dotIdent H A1,null E2,app E4,basicFun E2,fun T2,exact G A15,null T2,first S"
set_option hygiene false
local macro_rules|`(tactic|specialize $n:num)=>do
 let k:=n.getNat
 let g (l:List String):Lean.MacroM (Array (Lean.TSyntax `Lean.Parser.Tactic.tacticSeq)):=l.toArray.mapM λz=>do
  let u:=z.splitOn " "
  let k:=u.getLast!.toNat!
  let ws:=(u.dropLast.map λn=>Lean.mkIdent n.toName).toArray
  let h←`(?_)
  let e:=Lean.Syntax.mkApp #[ws[0]!.raw] ((ws.toList.tail!.map λw=>#[w.raw]).toArray++Array.replicate k h)
  `(tacticSeq|refine $e)
 let A (i j:Nat):=g ((("v_ 5|vi 0|KL 3|E8 1|Jf 1|P4 0|Qs 2|OG 4|N_ 3|Jr 0|PY 2|Hj 5|P6 2|zS 6|Qt 2|JC 1|P8 NN MH 3|M5 3|QO 0|Mk 6|LW 10|Qb 5|Pc 2|LS 6|Lf 4|PL 0|P8 Nb Ng 3|Qk 2|Px 2|Qn 2|On 6|P_ 7|Mv 6|Qf 1|cQ 3|iQ 0|QK 5|EN 5|JH 4|Qi 3|rL 3|FR 0|BC 1|MU 3|JB 5|Nn 6|vO 2|OS 1|PM 5|Om 0|eT 2|Jz 0|qG 1|N3 1|OJ 4|P3 6|PR 6|NI 1|QH 1|Ms 1|Fy 1|Oe 3|P1 2|Ny 4|Ql 2|L1 4|uX NN MH 3|Oa 2|uX JD Jc 3|uX Qm PX 3|Qq 1|uX Oz Ob 3|uX Qp Qv 3|uX OL Pa 3|Qu 3|Os 3|QM 3|uX Jj Ji 3|Qr 2|OB 1|PU 0|Qj 0|QN 5|Qy 1|Fj 1|Qg 1".splitOn "|").drop i).take j)
 let C (_:Unit):Lean.MacroM (Array (Lean.TSyntax `Lean.Parser.Tactic.tacticSeq)):=("Me Dj LZ Bl.int 0|Pg jr LU Bl.min 1|OM jr MB Bl.abs 0|Pb jr LX Bl.max 1|int 2|str 2".splitOn "|":List String).toArray.mapM λz=>do
  let u:=z.splitOn " "
  let k:=u.getLast!.toNat!
  let s:=u.head!
  let ws:Array Lean.Ident:=(u.map λn=>Lean.mkIdent n.toName).toArray
  if k=2 then
   `(tacticSeq|refine Ip (v:=.ty $(Lean.quote s)) rfl ($(Lean.mkIdent<|.str (.str .anonymous "Bl") s) (by assumption)) $(Lean.mkIdent (.str `PyProof.Rows ("boot_" ++s))) rfl)
  else
   let e←if k=1 then `($(ws[2]!) rfl) else pure #[ws[2]!.raw]
   `(tacticSeq|((with_reducible refine OF $(ws[0]!) ?_);refine $(ws[1]!) $e rfl ($(ws[3]!) (by assumption)) (by rfl) ?_))
 let z:=([(0,0),(0,34),(34,2),(36,4),(40,2),(42,8),(50,3),(53,4),(57,3),(60,6),(66,13),(0,86)]:List (Nat×Nat)).getD k (0,0)
 let a←A z.1 z.2
 if k=0 then `(tactic|($(⟨cs⟩))) else
 if k<11 then
  let c←if k=1 then C () else pure [←`(tacticSeq|fail)].toArray
  let u:=[ad,am,aT,ba,bd,bm,bt,bw,bJ,ca][k-1]!
  let v:=[al,ap,ap,ap,bi,bn,ap,ap,bY,cm][k-1]!
  `(tactic|(($(⟨u⟩));first|(with_reducible first $[| $a]*)|($(⟨v⟩))|(first $[| $c]*))) else
 if k=11 then `(tactic|with_reducible first $[| $a]*) else
 if k=12 then `(tactic|($(⟨cL⟩))) else
 let b←g ("kZ 1|PassesOwn.never 0|yN 0|Ow 0|Bl.abs 1|Bl.all 1|Bl.dict 1|Bl.int 1|Bl.isi 1|Bl.len 1|Bl.max 1|Bl.min 1|Bl.range 1|Bl.sorted 1|Bl.str 1|Bl.tuple 1|Bl.zip 1|eT 2|qG 1".splitOn "|")
 let c←C ()
 `(tactic|first $[| $c]* $[| $b]*)
set_option hygiene true
local macro_rules|`(tactic|ac_rfl)=>`(tactic|repeat specialize 0)
local macro_rules|`(tactic|exists $a,$b)=>`(tactic|(refine cp (N:=$a) (js:=$b) (aM.gen rfl rfl rfl rfl rfl rfl) rfl ?_ (fun _ _ _ _=>?_) (fun _ _ _ _=>?_) (fun _ _ _ _=>?_);ac_rfl))
local macro_rules|`(tactic|injections $a:ident $b:ident)=>`(tactic|(have h:=aJ.nd $a;refine bu (by assumption) $a (fun e A b s H E g=>?_);delta $b;ac_rfl))
section
variable{P:X9}{w:Xc}{K:X1}{c:X3}{a:Xe}{f:X8}{d:FuncData}
def qO:aJ ["_law_script","_law_k","_law_cell"] Ci (aC ni):=fD
def y_(F:eQ K "_law_pot" "_law_pot" ni f d)(B:Bl c):bC P w K c a dX 1 f d Ci (eM #[K,c] 2 lZ):=by
 injections qO p5
def oQ:aJ ["_law_left","_law_many","_law_digit"] zt (aC kT):=fD
def xH(F:eQ K "_law_pick" "_law_pick" kT f d)(B:Bl c):bC P w K c a dX 1 f d zt (eM #[K,c] 2 ay):=by
 injections oQ nE
def mJ:aJ ["_law_left","_law_many","_law_letters","_law_first","_law_turn","_law_some"] zt (aC j3):=fD
def uK(F:eQ K "_law_words" "_law_words" j3 f d)(B:Bl c)(i:dw P w K c a):bC P w K c a dX 2 f d zt (eM #[K,c] 2 eG):=by
 injections mJ lJ
 show mq (n:=5) (N:= ["_law_k","_law_letters","_law_first","_law_turn"]) (js:= [none,some 2,some 3,some 4]) (aM.gen L L L L L L) L ?_ (λ_ _ _ _=>?_) (λ_ _ _ _=>?_) (λ_ _ _ _=>?_) ?_
 ac_rfl
def iw:aJ ["_law_left","_law_words_here","_law_many","_law_rooms","_law_hands","_law_k","_law_other","_law_rows","_law_manner","_law_room"] pq (aC fM):=fD
def nK(F:eQ K "_law_ring_world" "_law_ring_world" fM f d)(B:Bl c)(h:oW P w K c a)(l:dw P w K c a):bC P w K c a dX 3 f d pq (eM #[K,c] 1 eN):=by
 injections iw fX
 show CK<|xU (i:=3) (j:=4) L (by assumption) L L (!1) L L ?_ L
 ac_rfl
def kC:aJ ["_law_left","_law_names","_law_bells","_law_deep","_law_way","_law_one","_law_word"] uZ (aC iq):=fD
theorem kB(F:eQ K "_law_any_sum" "_law_any_sum" iq f d)(B:Bl c)(j:dw P w K c a)(b:Binds K d uZ [])(g:PySem.W.keepIn K (.ref f)=true)(m:c "_law_any_sum"=some (.ref f)):∀n,bC P w K c a dX (2+n) f d uZ (eM #[K,c] 4<|aY n)
 |0=>BL
 | n+1=>by
   have o:ft P w K c a (2+n) "_law_any_sum" uZ (aY n):=#[f,d,kB F B j b g m n,b,g,m]
   let l:=kC.nd
   show bu (k:=2+n) F kC λh A e s H E i=>?_
   let p:=i.units0
   delta i_
   ac_rfl
def jN:aJ ["_law_left","_law_own","_law_passes","_law_span","_law_deeds","_law_way","_law_room","_law_deed","_law_x","_law_p","_law_q","_law_later"] BM (aC gF):=fD
def qd(F:eQ K "_law_hand_row" "_law_hand_row" gF f d)(B:Bl c)(m:dw P w K c a)(k:kM P w K c a):bC P w K c a dX 6 f d BM (eM #[K,c] 5 eK):=by
 let h:=jN.nd
 show bu F jN λe A b s H E g=>?_
 let l:=g.units0
 delta ix
 ac_rfl
 show CK<|xU (i:=9) (j:=10) L (by assumption) L L (!1) L L ?_ L
 ac_rfl
def jK:aJ ["_law_left","_law_room","_law_span","_law_inner","_law_things","_law_bells","_law_manner","_law_names","_law_way","_law_word","_law_other","_law_deed","_law_x","_law_later"] BS (aC gI):=fD
def pL(F:eQ K "_law_deed_row" "_law_deed_row" gI f d)(B:Bl c)(k:dw P w K c a)(i:kM P w K c a):bC P w K c a dX 6 f d BS (eM #[K,c] 4 eF):=by
 let h:=jK.nd
 show bu F jK λe A b s H E g=>?_
 let j:=g.units0
 delta iC
 ac_rfl
end
section
variable{P:X9}{w:Xc}{K:X1}{b:X3}{a:Xe}{f:X8}{c:FuncData}
def mR:aJ ["_law_left","_law_most","_law_words_here","_law_many","_law_sizes","_law_inner","_law_k","_law_rooms","_law_every","_law_things","_law_bells","_law_manner","_law_deeds","_law_at","_law_size","_law_here","_law_rows","_law_first","_law_sorts","_law_passes","_law_opened","_law_hands","_law_own","_law_names"] BP (aC kd):=fD
def uO(F:eQ K "_law_world" "_law_world" kd f c)(B:Bl b)(i:oW P w K b a)(l:dw P w K b a)(g:rE P w K b a)(j:rB P w K b a):bC P w K b a dX 7 f c BP (eM #[K,b] 2 iS):=by
 injections mR lL
 show mq (n:=4) (N:= ["_law_k","_law_left"]) (js:= [none,some 0]) (aM.gen L L L L L L) L ?_ (λ_ _ _ _=>?_) (λ_ _ _ _=>?_) (λ_ _ _ _=>?_) ?_
 ac_rfl
 exists ["_law_at","_law_words_here","_law_k"],[none,some 2,some 6]
 show mq (n:=16) (N:= ["_law_row","_law_left","_law_things","_law_bells","_law_manner","_law_size","_law_here"]) (js:= [none,some 0,some 9,some 10,some 11,some 14,some 15]) (aM.gen L L L L L L) L ?_ (λ_ _ _ _=>?_) (λ_ _ _ _=>?_) (λ_ _ _ _=>?_) ?_
 ac_rfl
 exists ["_law_deed","_law_words_here","_law_k"],[none,some 2,some 6]
 exists JE,[none,some 0]
 exists ["_law_bell","_law_left"],[none,some 0]
 exists ["_law_p","_law_left"],[none,some 0]
 exists JE,[none,some 0]
 exists ["_law_x","_law_value"],[none,none]
 show mq (n:=16) (N:= ["_law_row","_law_left","_law_every","_law_size","_law_passes","_law_names"]) (js:= [none,some 0,some 8,some 14,some 19,some 23]) (aM.gen L L L L L L) L ?_ (λ_ _ _ _=>?_) (λ_ _ _ _=>?_) (λ_ _ _ _=>?_) ?_
 ac_rfl
 exists ["_law_p","_law_value"],[none,none]
 exists ["_law_x"],[none]
def ug:aJ pq pq (aC jc):=fD
def t8(F:eQ K "_law_either" "_law_either" jc f c)(B:Bl b)(i:dw P w K b a)(g:xA P w K b a)(j:pj P w K b a):bC P w K b a dX 8 f c pq (eM #[K,b] 1 fI):=by
 injections ug jW
def zi:aJ yd yd (aC m7):=fD
def zf(F:eQ K "hands_at" "hands_at" m7 f c)(B:Bl b):bC P w K b a dX 1 f c yd (eM #[K,b] 1 lV):=by
 injections zi pH
 exists ["turn","hand"],[none,none]
def jl:aJ ["scene","hands","value","row","values","within","late","bells","line"] BD (aC gJ):=fD
def pK(F:eQ K "hands_in_rows" "hands_in_rows" gJ f c)(B:Bl b)(h:Bi P w K b a):bC P w K b a dX 2 f c BD (eM #[K,b] 1 cD):=by
 injections jl ia
def uI:aJ yn yn (aC ka):=fD
def uM(F:eQ K "last_frame" "last_frame" ka f c)(B:Bl b):bC P w K b a dX 1 f c yn (eM #[K,b] 2 cX):=by
 injections uI lG
def mL:aJ ["world","hand","frame","room","deed"] CT (aC ki):=fD
def uH(F:eQ K "program_of" "program_of" ki f c)(B:Bl b){g:Tok}(k:b "OWN"=some (.int (-1) g)):bC P w K b a dX 1 f c CT (eM #[K,b] 3 fw):=by
 injections mL lj
 show CK<|xU (i:=3) (j:=4) L (by assumption) L L (!1) L L ?_ L
 ac_rfl
def jz:aJ ["world","scene","hand","frame"] eJ (aC gG):=fD
def qe(F:eQ K "is_behind_all" "is_behind_all" gG f c)(B:Bl b)(j:dP P w K b a)(k:j6 P w K b a){g:Tok}(h:b "OWN"=some (.int (-1) g)):bC P w K b a dX 2 f c eJ (eM #[K,b] 3 fN):=by
 injections jz ik
def qy:aJ ["world","scene","held_up"] gL (aC nP):=fD
def zm(F:eQ K "may_step" "may_step" nP f c)(B:Bl b)(h:kA P w K b a)(j:q_ P w K b a):bC P w K b a dX 3 f c gL (eM #[K,b] 2 hX):=by
 injections qy pQ
 exists ["hand","world","scene","held_up"],[none,some 0,some 1,some 2]
end
section
variable{P:X9}{w:Xc}{K:X1}{c:X3}{a:Xe}{f:X8}{d:FuncData}
def zy:aJ yu yu (aC nB):=fD
def yo(F:eQ K "names_of" "names_of" nB f d)(B:Bl c):bC P w K c a dX 1 f d yu (eM #[K,c] 1 ed):=by
 injections zy pR
 exists ["row"],[none]
def yE:aJ yh yh (aC nR):=fD
def zE(F:eQ K "place_of" "place_of" nR f d)(B:Bl c)(h:nW P w K c a):bC P w K c a dX 2 f d yh (eM #[K,c] 2 dk):=by
 injections yE pS
def xw:aJ yz yz (aC lN):=fD
def xB(F:eQ K "with_part" "with_part" lN f d)(B:Bl c):bC P w K c a dX 1 f d yz (eM #[K,c] 3 dB):=by
 injections xw ng
def xC:aJ yI yI (aC kP):=fD
def vR(F:eQ K "with_hand" "with_hand" kP f d)(B:Bl c)(h:gx P w K c a):bC P w K c a dX 2 f d yI (eM #[K,c] 4 eX):=by
 injections xC nq
def xO:aJ zF zF (aC lA):=fD
def wW(F:eQ K "with_room" "with_room" lA f d)(B:Bl c)(h:gx P w K c a):bC P w K c a dX 2 f d zF (eM #[K,c] 3 c_):=by
 injections xO nL
def om:aJ ["world","scene","hand","word","value","room","place","values","shared","frames"] BA (aC k9):=fD
def w5(F:eQ K "put_thing" "put_thing" k9 f d)(B:Bl c)(k:dP P w K c a)(n:ij P w K c a)(m:gx P w K c a)(p:gB P w K c a)(o:nW P w K c a)(h:iP P w K c a)(i:c "OWN"=some (.int (-1) g)):bC P w K c a dX 3 f d BA (eM #[K,c] 5 e_):=by
 injections om j7
def rh:aJ zd zd (aC ir):=fD
def q0(F:eQ K "value_of_two" "value_of_two" ir f d)(B:Bl c)(i:c "HIGHEST"=some (.int (9) g)):bC P w K c a dX 1 f d zd (eM #[K,c] 3 gk):=by
 injections rh i8
def qT:aJ ["tree","things","waiting","first"] vt (aC m8):=fD
theorem qM(F:eQ K "value_of" "value_of" m8 f d)(B:Bl c)(i:sI P w K c a)(b:Binds K d vt [])(g:PySem.W.keepIn K (.ref f)=true)(m:c "value_of"=some (.ref f)):∀n,bC P w K c a dX (2+n) f d vt (eM #[K,c] 3<|gf n)
 |0=>BL
 | n+1=>by
   have p:ft P w K c a (2+n) "value_of" vt (gf n):=#[f,d,qM F B i b g m n,b,g,m]
   let o:=qT.nd
   show bu (k:=2+n) F qT λh A e s H E j=>?_
   let l:=Cp j
   delta pU
   ac_rfl
def qv:aJ ["world","scene","hand","tree","frame","room","things","waiting"] CB (aC nH):=fD
def yk(F:eQ K "reckoned" "reckoned" nH f d)(B:Bl c)(l:dP P w K c a)(o:nW P w K c a)(m:A7 P w K c a)(j:c "OWN"=some (.int (-1) g)):bC P w K c a dX 9 f d CB (eM #[K,c] 4 dH):=by
 let k:=qv.nd
 show bu F qv λe A b s H E h=>?_
 let i:=Cp h
 delta lW
 ac_rfl
 show Fs (n:=7) (N:= ["bell","line"]) (js:= [none,none]) (aM.gen L L L L L L) L ?_ (λ_ _ _ _=>?_) (λ_ _ _ _=>?_) (λ_ _ _ _=>?_) (λ_ _ _ _=>?_) ?_
 ac_rfl
def D4:aJ bK bK (aC sj):=fD
def DV(F:eQ K "by_put" "by_put" sj f d)(B:Bl c)(h:qD P w K c a)(i:fW P w K c a):bC P w K c a dX 10 f d bK (eM #[K,c] 4 rG):=by
 injections D4 w6
def ib:aJ ["scene","hand","frame","values","frames"] CF (aC fH):=fD
def m5(F:eQ K "with_last_frame" "with_last_frame" fH f d)(B:Bl c)(h:iP P w K c a):bC P w K c a dX 3 f d CF (eM #[K,c] 3 dG):=by
 injections ib f_
def vk:aJ ["scene","hand","row","frame"] B9 (aC tU):=fD
def De(F:eQ K "at_row" "at_row" tU f d)(B:Bl c)(h:dP P w K c a)(j:i6 P w K c a):bC P w K c a dX 4 f d B9 (eM #[K,c] 3 kb):=by
 injections vk xt
def xo:aJ bK bK (aC kO):=fD
def wm(F:eQ K "by_unless" "by_unless" kO f d)(B:Bl c)(i:fW P w K c a)(h:rS P w K c a):bC P w K c a dX 10 f d bK (eM #[K,c] 4 km):=by
 injections xo nV
def EE:aJ bK bK (aC xG):=fD
def EW(F:eQ K "by_go" "by_go" xG f d)(B:Bl c)(h:rS P w K c a):bC P w K c a dX 5 f d bK (eM #[K,c] 4 wx):=by
 injections EE Bc
end
section
variable{P:X9}{w:Xc}{K:X1}{b:X3}{a:Xe}{f:X8}{c:FuncData}
def ub:aJ ["scene","room","hand","values","within","row","late","bells"] CJ (aC pZ):=fD
def AF(F:eQ K "come_in" "come_in" pZ f c)(B:Bl b)(k:gB P w K b a)(j:b "NOBODY"=some (.int (-1) g)):bC P w K b a dX 3 f c CJ (eM #[K,b] 3 lF):=by
 injections ub sZ
def x_:aJ ["world","scene","hand","row","room","deed","frame","values","frames"] bK (aC wG):=fD
def FH(F:eQ K "by_do" "by_do" wG f c)(B:Bl b)(j:ij P w K b a)(k:fW P w K b a)(l:vB P w K b a)(g:iP P w K b a):bC P w K b a dX 10 f c bK (eM #[K,b] 4 vZ):=by
 injections x_ AS
def t9:aJ ["world","scene","hand","word","room"] CL (aC pD):=fD
def Au(F:eQ K "bell_of" "bell_of" pD f c)(B:Bl b)(h:dP P w K b a)(j:ij P w K b a):bC P w K b a dX 3 f c CL (eM #[K,b] 4 jH):=by
 injections t9 tN
def oh:aJ ["scene","room","bell","line","state"] BR (aC lO):=fD
def vP(F:eQ K "with_line" "with_line" lO f c)(B:Bl b)(j:gB P w K b a)(i:gx P w K b a):bC P w K b a dX 3 f c BR (eM #[K,b] 4 eZ):=by
 injections oh m_
def yT:aJ ["scene","room","values","within","row","late","bells"] Cd (aC wj):=fD
def ER(F:eQ K "leave" "leave" wj f c)(B:Bl b)(k:gB P w K b a)(j:b "NOBODY"=some (.int (-1) g)):bC P w K b a dX 3 f c Cd (eM #[K,b] 2 qm):=by
 injections yT Aq
def sH:aJ ["world","scene","hand","row","room","bell","turn","line","ahead","waiting"] bK (aC qk):=fD
def Bu(F:eQ K "by_wait" "by_wait" qk f c)(B:Bl b)(l:p7 P w K b a)(k:fW P w K b a)(j:lI P w K b a)(g:BV P w K b a):bC P w K b a dX 10 f c bK (eM #[K,b] 4 oy):=by
 injections sH t6
 exists ["other","waiter","turn"],[none,none,some 6]
def ue:aJ ["world","scene","hand","row","room","bell","line","called","values","within","queue","late","bells"] bK (aC pB):=fD
def Bs(F:eQ K "by_call" "by_call" pB f c)(B:Bl b)(j:p7 P w K b a)(i:lI P w K b a)(k:gB P w K b a):bC P w K b a dX 4 f c bK (eM #[K,b] 4 oJ):=by
 injections ue tm
def vn:aJ ["world","scene","hand","row","room","bell"] bK (aC sA):=fD
def DX(F:eQ K "by_all" "by_all" sA f c)(B:Bl b)(j:p7 P w K b a)(i:lI P w K b a):bC P w K b a dX 4 f c bK (eM #[K,b] 4 rR):=by
 injections vn xn
def sG:aJ ["world","scene","hand","row","told"] bK (aC qc):=fD
def Az(F:eQ K "by_tell" "by_tell" qc f c)(B:Bl b)(k:fW P w K b a)(j:i6 P w K b a)(h:dP P w K b a):bC P w K b a dX 10 f c bK (eM #[K,b] 4 pk):=by
 injections sG uh
def wA:aJ yF yF (aC lE):=fD
def xj(F:eQ K "with_pass" "with_pass" lE f c)(B:Bl b)(h:gx P w K b a):bC P w K b a dX 2 f c yF (eM #[K,b] 3 ff):=by
 injections wA nO
def yD:aJ ["world","scene","hand","name","place","value","row"] Cs (aC xD):=fD
def Ek(F:eQ K "taken" "taken" xD f c)(B:Bl b)(i:ij P w K b a)(j:qI P w K b a):bC P w K b a dX 3 f c Cs (eM #[K,b] 4 si):=by
 injections yD Ap
def Be:aJ bK bK (aC pJ):=fD
def AN(F:eQ K "by_take" "by_take" pJ f c)(B:Bl b)(g:Ce P w K b a):bC P w K b a dX 4 f c bK (eM #[K,b] 4 oT):=by
 injections Be t7
def mN:aJ ["world","scene","name","place","value","row"] xb (aC j2):=fD
def uL(F:eQ K "given_back" "given_back" j2 f c)(B:Bl b)(j:ij P w K b a)(k:qI P w K b a)(l:b "HIGHEST"=some (.int (9) g)):bC P w K b a dX 3 f c xb (eM #[K,b] 3 gu):=by
 injections mN kQ
end
section
variable{P:X9}{w:Xc}{K:X1}{b:X3}{a:Xe}{f:X8}{c:FuncData}
def AY:aJ bK bK (aC pW):=fD
def Bg(F:eQ K "by_give" "by_give" pW f c)(B:Bl b)(h:oI P w K b a):bC P w K b a dX 4 f c bK (eM #[K,b] 4 o_):=by
 injections AY sC
def A6:aJ bK bK (aC pY):=fD
def A4(F:eQ K "by_pass" "by_pass" pY f c)(B:Bl b)(g:Ce P w K b a)(i:oI P w K b a):bC P w K b a dX 4 f c bK (eM #[K,b] 4 oP):=by
 injections A6 sr
def Dl:aJ bK bK (aC sf):=fD
def D6(F:eQ K "by_say" "by_say" sf f c)(B:Bl b):bC P w K b a dX 1 f c bK (eM #[K,b] 4 rN):=by
 injections Dl xk
def qw:aJ ["world","scene","hand","row","deed"] bK (aC mZ):=fD
def zG(F:eQ K "row_done" "row_done" mZ f c)(B:Bl b)(j:∀x F,tY.lookup x=some F->ft P w K b a 10 x bK F)(i:BO P w K b "DONE_BY" mw):bC P w K b a dX 11 f c bK (eM #[K,b] 4 jC):=by
 let g:=qw.nd
 show bu F qw λe A d s H E h=>?_
 show(eT (v8 4 g (HU i L (KL (v_ 3) vi) (λ_ _=>rfl)))
  (qG (BC (Hg j (h.mono (!1)) L (by first|show Or.inl L|show Or.inr (Or.inl L)) (cQ (v_ 0) (cQ (v_ 1) (cQ (v_ 2) (cQ (v_ 3) iQ)))) (mh (mh (mh (mh AJ))))))))
def qJ:aJ ["world","scene","hand","values","frames","room","deed","row","given","told","outside","came_by"] eJ (aC ny):=fD
def zr(F:eQ K "end_deed" "end_deed" ny f c)(B:Bl b)(h:iP P w K b a)(g:BV P w K b a)(j:j6 P w K b a)(l:qD P w K b a):bC P w K b a dX 4 f c eJ (eM #[K,b] 3 jq):=by
 injections qJ pM
def sT:aJ ["world","scene","hand","frame","room","program","row","event"] eJ (aC qg):=fD
def Bb(F:eQ K "step_of" "step_of" qg f c)(B:Bl b)(p:dP P w K b a)(n:vB P w K b a)(i:j6 P w K b a)(j:AA P w K b a)(q:fW P w K b a)(k:AW P w K b a)(l:rS P w K b a)(o:b "OWN"=some (.int (-1) e)):bC P w K b a dX 12 f c eJ (eM #[K,b] 3 lP):=by
 injections sT kH
def r_:aJ ["world","start","most","seen","found","at","scene","hand","reached","event"] xh (aC pF):=fD
def A1(F:eQ K "come_to" "come_to" pF f c)(B:Bl b)(j:nF P w K b a)(i:vq P w K b a):bC P w K b a dX 13 f c xh (eM #[K,b] 3 oZ):=by
 let d:=r_.nd
 show E5 F r_ λh A g s H E e=>?_
 show(eT (v8 3 d (KW L B.set))
  (eT (vO (EV e (v_ 3) (v_ 1)))
  (eT (v8 4 d (Jf (Fy (cQ (E8 (cQ (v_ 1) (cQ (JC vi) (cQ (JC vi) iQ)))) iQ))))
  (eT (v8 5 d vi)
  (eT (Cn 500 PassesOwn.never (PW.pt (w_and (uX JD Jc (v_ 5) (se L B.len (NI (v_ 4))) (kZ _)) (Fj (uX Jj Ji (se L B.len (NI (v_ 4))) (v_ 2) (kZ _))))) (eT (v8 6 d (KL (KL (v_ 4) (v_ 5)) vi))
  (eT (Nn PassesOwn.never L (N3 (QH (Mw j e (cQ (v_ 0) (cQ (v_ 6) iQ))))) (EN 7 d) (eT (JB (MQ i e (cQ (v_ 0) (cQ (v_ 6) (cQ (v_ 7) iQ)))) (JH L (rL (EN 8 d) (rL (EN 9 d) FR))))
  (qG (MU (NV e (v_ 8) (v_ 3)) (eT (vO (EV e (v_ 3) (v_ 8)))
  (qG (vO (zS (v_ 4) (E8 (cQ (v_ 8) (cQ (v_ 5) (cQ (v_ 7) iQ)))))))) Jz))))
  (qG (PV 5 d vi)))))
  (qG (BC (M5 (uX Jj Ji (se L B.len (NI (v_ 4))) (v_ 2) (kZ _)) (v_ 4) Jr))))))))
def CQ:aJ ["world","scene","most","found","left","later","origin","stepper","held_up"] xI (aC Ah):=fD
def I_(F:eQ K "lost" "lost" Ah f c)(B:Bl b)(h:C4 P w K b a)(i:kA P w K b a):bC P w K b a dX 14 f c xI (eM #[K,b] 3 vz):=by
 injections CQ Gr
 show mq (n:=4) (N:= ["hand","held_up"]) (js:= [none,some 8]) (aM.gen L L L L L L) L ?_ (λ_ _ _ _=>?_) (λ_ _ _ _=>?_) (λ_ _ _ _=>?_) ?_
 ac_rfl
def wM:aJ z3 z3 (aC kY):=fD
def wz(F:eQ K "values_of" "values_of" kY f c)(B:Bl b):bC P w K b a dX 1 f c z3 (eM #[K,b] 1 gg):=by
 injections wM mU
 exists ["word","value"],[none,none]
def mT:aJ ["room","name","manner","things","bells","deeds"] x8 (aC jT):=fD
def uP(F:eQ K "begun_room" "begun_room" jT f c)(B:Bl b)(k:qC P w K b a)(i:b "NOBODY"=some (.int (-1) g)):bC P w K b a dX 2 f c x8 (eM #[K,b] 1 i3):=by
 injections mT kW
 exists ["bell"],[none]
def ym:aJ ["world","rooms","passes","shared","hands","own"] wF (aC wy):=fD
def F4(F:eQ K "begun" "begun" wy f c)(B:Bl b)(l:qC P w K b a)(j:xi P w K b a)(h:b "OWN"=some (.int (-1) g)):bC P w K b a dX 3 f c wF (eM #[K,b] 1 xQ):=by
 injections ym A5
 exists x8,[none]
 exists ["name","value"],[none,none]
 exists ["things","program","own"],[none,none,some 5]
def An:aJ eJ eJ (aC qh):=fD
def Aw(F:eQ K "stepped" "stepped" qh f c)(B:Bl b)(i:nF P w K b a)(h:vq P w K b a):bC P w K b a dX 13 f c eJ (eM #[K,b] 3 oO):=by
 injections An uq
def mS:aJ ["_law_world_here","_law_scene","_law_some","_law_hand","_law_later","_law_event"] BN (aC kg):=fD
def uR(F:eQ K "_law_steps" "_law_steps" kg f c)(B:Bl b)(j:nF P w K b a)(i:C0 P w K b a):bC P w K b a dX 14 f c BN (eM #[K,b] 2 gC):=by
 injections mS kR
end
section
variable{P:X9}{w:Xc}{K:X1}{b:X3}{a:Xe}{f:X8}{c:FuncData}
def ph:aJ ["_law_left","_law_world_here","_law_most","_law_scene","_law_weaving","_law_turn","_law_some","_law_hand","_law_event"] BK (aC kI):=fD
def xr(F:eQ K "_law_walk" "_law_walk" kI f c)(B:Bl b)(l:Ht P w K b a)(k:oG P w K b a)(n:dw P w K b a):bC P w K b a dX 15 f c BK (eM #[K,b] 3 jU):=by
 let h:=ph.nd
 show bu F ph λe A d s H E g=>?_
 let m:=g.units0
 delta nT
 ac_rfl
 show CK<|xU (i:=3) (j:=4) L (by assumption) L L (!1) L L ?_ L
 ac_rfl
def k_:aJ ["world","scene","ahead","room","values","within","row","late","bells","hand"] gL (aC jf):=fD
def tx(F:eQ K "hands_ahead" "hands_ahead" jf f c)(B:Bl b):bC P w K b a dX 1 f c gL (eM #[K,b] 2 g8):=by
 let i:=k_.nd
 show E5 F k_ λe A d s H E g=>?_
 let h:=Cp g
 delta jS
 ac_rfl
def oU:aJ ["ahead","first","ring","hand","name","within"] CN (aC lu):=fD
def wB(F:eQ K "ring_from" "ring_from" lu f c)(B:Bl b):bC P w K b a dX 1 f c CN (eM #[K,b] 2 kh):=by
 let d:=oU.nd
 show bu F oU λh A g s H E i=>?_
 let e:=Cp i
 show(eT (v8 2 d (Jf (Fy iQ)))
  (eT (v8 3 d (v_ 1))
  (eT (Cn 5 PassesOwn.never (PW.pt (w_and (Na e (v_ 3) (v_ 0)) (w_and (uX Nb Ng (v_ 3) (v_ 1) (kZ _)) (Fj (uX JD Jc (se L B.len (NI (v_ 2))) (JV L B.len (v_ 0)) (kZ _)))))) (eT (JB (Lf e (v_ 0) (v_ 3) (λ_ _=>rfl)) (JH L (rL (EN 4 d) (rL (EN 5 d) FR))))
  (eT (vO (zS (v_ 2) (E8 (cQ (v_ 3) (cQ (v_ 4) iQ)))))
  (eT (MU (uX NN MH (v_ 5) (v_ 1) (kZ _)) (qG (BC (Hj L B.tuple (Ms (NI (v_ 2))) (ht:=yN)))) Jz)
  (qG (v8 3 d (v_ 5)))))))
  (qG (BC Jr)))))
def yi:aJ ["world","scene","ahead","found"] gL (aC vY):=fD
def FT(F:eQ K "rings" "rings" vY f c)(B:Bl b)(i:uQ P w K b a)(g:zW P w K b a):bC P w K b a dX 2 f c gL (eM #[K,b] 2 pE):=by
 injections yi A3
 show mq (n:=3) (N:= ["hand","ahead"]) (js:= [none,some 2]) (aM.gen L L L L L L) L ?_ (λ_ _ _ _=>?_) (λ_ _ _ _=>?_) (λ_ _ _ _=>?_) ?_
 ac_rfl
 exists ["ring"],[none]
def Fz:aJ ["_law_script","_law_k","_law_left","_law_world_here","_law_weaving","_law_scene","_law_told","_law_gone","_law_hands","_law_ring","_law_turn","_law_some","_law_hand","_law_event","_law_later"] Ey (aC oa):=fD
def La(F:eQ K "law" "law" oa f c)(B:Bl b)(h:AU P w K b a)(l:uC P w K b a)(j:zq P w K b a)(p:dw P w K b a)(i:LC P w K b a)(o:HF P w K b a)(n:oG P w K b a):bC P w K b a dX 16 f c Ey (eM #[K,b] 1 GQ):=by
 let k:=Fz.nd
 show bu F Fz λe A d s H E g=>?_
 let m:=g.units0
 delta JW
 ac_rfl
 exists ["_law_pair"],[none]
 exists ["_law_hand","_law_gone"],[none,some 7]
 exists ["_law_ring","_law_world_here","_law_scene"],[none,some 3,some 5]
 exists ["_law_hand","_law_later"],[none,some 14]
end
def all_mk{l:PySem.W.OpenLaw}{w:Xc}{K:X1}(X:K.In h)(G:h.Ns mainGlobals f)(g4:f "law"=some (.ref fa))
  (d1:bh K "_law_pot" ni f1)
  (d2:bh K "_law_pick" kT f2)
  (d3:bh K "_law_words" j3 f3)
  (d4:bh K "_law_ring_world" fM f4)
  (d5:bh K "_law_any_sum" iq f5)
  (d6:bh K "_law_hand_row" gF f6)
  (d7:bh K "_law_deed_row" gI f7)
  (d8:bh K "_law_world" kd f8)
  (d9:bh K "_law_either" jc f9)
  (v4:bh K "hands_at" m7 o0)
  (b2:bh K "hands_in_rows" gJ r1)
  (k3:bh K "last_frame" ka h2)
  (a8:bh K "program_of" ki g3)
  (s5:bh K "is_behind_all" gG s8)
  (v6:bh K "may_step" nP b8)
  (q9:bh K "names_of" nB q2)
  (g2:bh K "place_of" nR q7)
  (a9:bh K "with_part" lN k1)
  (h0:bh K "with_hand" kP e7)
  (n6:bh K "with_room" lA v3)
  (m0:bh K "put_thing" k9 a7)
  (i2:bh K "value_of_two" ir j1)
  (c1:bh K "value_of" m8 r5)
  (e5:bh K "reckoned" nH h5)
  (v2:bh K "by_put" sj a3)
  (m4:bh K "with_last_frame" fH j5)
  (b9:bh K "at_row" tU q4)
  (o1:bh K "by_unless" kO J)
  (k4:bh K "by_go" xG r)
  (h8:bh K "come_in" pZ s0)
  (e0:bh K "by_do" wG a5)
  (l4:bh K "bell_of" pD e8)
  (t3:bh K "with_line" lO p1)
  (j4:bh K "leave" wj s3)
  (h3:bh K "by_wait" qk Y)
  (b0:bh K "by_call" pB H)
  (s4:bh K "by_all" sA o)
  (s6:bh K "by_tell" qc S)
  (q3:bh K "with_pass" lE b3)
  (n0:bh K "taken" xD e9)
  (c6:bh K "by_take" pJ a4)
  (r2:bh K "given_back" j2 c2)
  (v1:bh K "by_give" pW a6)
  (n8:bh K "by_pass" pY U)
  (e1:bh K "by_say" sf Q)
  (h7:bh K "row_done" mZ e4)
  (m1:bh K "end_deed" ny c3)
  (o4:bh K "step_of" qg u2)
  (r0:bh K "come_to" pF l1)
  (n5:bh K "lost" Ah o3)
  (e2:bh K "values_of" kY l2)
  (c5:bh K "begun_room" jT l5)
  (g5:bh K "begun" wy k2)
  (c9:bh K "stepped" qh v0)
  (p2:bh K "_law_steps" kg h1)
  (n9:bh K "_law_walk" kI n2)
  (i0:bh K "hands_ahead" jf h4)
  (c4:bh K "ring_from" lu s7)
  (u8:bh K "rings" vY b6)
  {oc kV dc pm cd ct:Xd}  {sl:Array (Option Value)} (c0:PySem.W.nsIn K mainGlobals "law"=some (some<|.ref g)) (s2:K.lookup g=some #[oc,od,.func (PySem.W.fnOf "law" "law" (gR oa) (eW oa) (aC oa) .none kV dc pm an cd ct),sl]) (r4:PySem.W.codeIn K cd "law"=true) (k6:PySem.W.keepIn K (.ref g)=true)
   (N5:PySem.W.nsIn K mainGlobals "OWN"=some (some<|.int (-1) jj))
   (C3:PySem.W.nsIn K mainGlobals "HIGHEST"=some (some<|.int (9) jD))
   (FI:PySem.W.nsIn K mainGlobals "NOBODY"=some (some<|.int (-1) iD))
    (Dy:PySem.W.nsIn K mainGlobals "DONE_BY"=some (some<|.ref vd)) (AG:K.lookup vd=some #[.type "dict",none,.dict (List.toArray [#[PyData.keyHash w.params "put",.str "put" vX,.ref a3],#[PyData.keyHash w.params "unless",.str "unless" vN,.ref J],#[PyData.keyHash w.params "go",.str "go" we,.ref r],#[PyData.keyHash w.params "do",.str "do" xR,.ref a5],#[PyData.keyHash w.params "wait",.str "wait" xM,.ref Y],#[PyData.keyHash w.params "call",.str "call" vM,.ref H],#[PyData.keyHash w.params "all",.str "all" vL,.ref o],#[PyData.keyHash w.params "tell",.str "tell" vV,.ref S],#[PyData.keyHash w.params "take",.str "take" xu,.ref a4],#[PyData.keyHash w.params "give",.str "give" wJ,.ref a6],#[PyData.keyHash w.params "pass",.str "pass" uU,.ref U],#[PyData.keyHash w.params "say",.str "say" uT,.ref Q]]) Bn,(List.toArray [])])
  (NK:PySem.W.nsIn K mainGlobals "len"=some none) (G1:PySem.W.nsIn K mainGlobals "tuple"=some none) (K3:PySem.W.nsIn K mainGlobals "list"=some none) (Kj:PySem.W.nsIn K mainGlobals "dict"=some none) (MV:PySem.W.nsIn K mainGlobals "set"=some none) (MZ:PySem.W.nsIn K mainGlobals "int"=some none) (L7:PySem.W.nsIn K mainGlobals "str"=some none) (LK:PySem.W.nsIn K mainGlobals "bool"=some none) (N6:PySem.W.nsIn K mainGlobals "all"=some none) (NS:PySem.W.nsIn K mainGlobals "any"=some none) (G4:PySem.W.nsIn K mainGlobals "range"=some none) (M7:PySem.W.nsIn K mainGlobals "zip"=some none) (ET:PySem.W.nsIn K mainGlobals "sorted"=some none) (wC:PySem.W.nsIn K mainGlobals "isinstance"=some none) (MO:PySem.W.nsIn K mainGlobals "min"=some none) (Mb:PySem.W.nsIn K mainGlobals "max"=some none) (Mo:PySem.W.nsIn K mainGlobals "abs"=some none) (xY:PySem.W.nsIn K mainGlobals "enumerate"=some none) (Bo:PySem.W.nsIn K mainGlobals "reversed"=some none)
  (T:∀ns:List Int,ns.length<=63->∃S',GQ [.ref 0] [.frz (ns.map D.int)]=some (.d (.bl true),S')):
  ∃fd:FuncData,(∀(s:X4) (v:Xd),BindsTo s fd #[[v],[]] [("_law_script",v)])/\∀a:Heap,K.In a->a.Ns mainGlobals f->bC l.prog w K f a dX 16 fa fd Ey zC:=by
 let e:=g4.symm.trans (PySem.W.mg_of X G c0)
 cases e
 let b5:=AM (st:=oa) s2 r4 k6
 let O1:=d1.ok1 (ps:=Ci) X G
 let O2:=d2.ok1 (ps:=zt) X G
 let O3:=d3.ok1 (ps:=zt) X G
 let O4:=d4.ok1 (ps:=pq) X G
 let O5:=d5.ok1 (ps:=uZ) X G
 let O6:=d6.ok1 (ps:=BM) X G
 let O7:=d7.ok1 (ps:=BS) X G
 let O8:=d8.ok1 (ps:=BP) X G
 let O9:=d9.ok1 (ps:=pq) X G
 let q8:=v4.ok1 (ps:=yd) X G
 let b7:=b2.ok1 (ps:=BD) X G
 let k7:=k3.ok1 (ps:=yn) X G
 let t0:=a8.ok1 (ps:=CT) X G
 let f0:=s5.ok1 (ps:=eJ) X G
 let g0:=v6.ok1 (ps:=gL) X G
 let p3:=q9.ok1 (ps:=yu) X G
 let e3:=g2.ok1 (ps:=yh) X G
 let q6:=a9.ok1 (ps:=yz) X G
 let q1:=h0.ok1 (ps:=yI) X G
 let n3:=n6.ok1 (ps:=zF) X G
 let l0:=m0.ok1 (ps:=BA) X G
 let p4:=i2.ok1 (ps:=zd) X G
 let h6:=c1.ok1 (ps:=vt) X G
 let r7:=e5.ok1 (ps:=CB) X G
 let C:=v2.ok1 (ps:=bK) X G
 let m3:=m4.ok1 (ps:=CF) X G
 let k5:=b9.ok1 (ps:=B9) X G
 let t:=o1.ok1 (ps:=bK) X G
 let A:=k4.ok1 (ps:=bK) X G
 let r6:=h8.ok1 (ps:=CJ) X G
 let M:=e0.ok1 (ps:=bK) X G
 let b1:=l4.ok1 (ps:=CL) X G
 let i1:=t3.ok1 (ps:=BR) X G
 let n7:=j4.ok1 (ps:=Cd) X G
 let I:=h3.ok1 (ps:=bK) X G
 let a0:=b0.ok1 (ps:=bK) X G
 let P:=s4.ok1 (ps:=bK) X G
 let q:=s6.ok1 (ps:=bK) X G
 let s1:=q3.ok1 (ps:=yF) X G
 let n4:=n0.ok1 (ps:=Cs) X G
 let u:=c6.ok1 (ps:=bK) X G
 let g1:=r2.ok1 (ps:=xb) X G
 let a2:=v1.ok1 (ps:=bK) X G
 let N:=n8.ok1 (ps:=bK) X G
 let a1:=e1.ok1 (ps:=bK) X G
 let o2:=h7.ok1 (ps:=bK) X G
 let m2:=m1.ok1 (ps:=eJ) X G
 let h9:=o4.ok1 (ps:=eJ) X G
 let i5:=r0.ok1 (ps:=xh) X G
 let s9:=n5.ok1 (ps:=xI) X G
 let o5:=e2.ok1 (ps:=z3) X G
 let e6:=c5.ok1 (ps:=x8) X G
 let l3:=g5.ok1 (ps:=wF) X G
 let t1:=c9.ok1 (ps:=eJ) X G
 let b4:=p2.ok1 (ps:=BN) X G
 let t2:=n9.ok1 (ps:=BK) X G
 let u1:=i0.ok1 (ps:=gL) X G
 let n1:=c4.ok1 (ps:=CN) X G
 let r3:=u8.ok1 (ps:=gL) X G
 let n:=PySem.W.mg_of X G N5
 let lR:=PySem.W.mg_of X G C3
 let jn:=PySem.W.mg_of X G FI
 have pT:BO l.prog w K f "DONE_BY" mw:=EL (PySem.W.mg_of X G Dy) AG (.cons C.m (.cons t.m (.cons A.m (.cons M.m (.cons I.m (.cons a0.m (.cons P.m (.cons q.m (.cons u.m (.cons a2.m (.cons N.m (.cons a1.m .nil)))))))))))) (by decide +kernel)
 have B:Bl f:=#[QFq X G NK,QFq X G G1,QFq X G K3,QFq X G Kj,QFq X G MV,QFq X G MZ,QFq X G L7,QFq X G LK,QFq X G N6,QFq X G NS,QFq X G G4,QFq X G M7,QFq X G ET,QFq X G wC,QFq X G MO,QFq X G Mb,QFq X G Mo,QFq X G xY,QFq X G Bo]
 show#[PySem.W.fnOf "law" "law" (gR oa) (eW oa) (aC oa) .none kV dc pm an cd ct,λs v=>.of_eq L,λa _ _=>?_]
 have Z:Pk l.prog w a:=#[]
 let sJ:=O1.cal Z λ_ F _ _ _=>y_ F B
 let c:=O2.cal Z λ_ F _ _ _=>xH F B
 let gW:=O3.cal Z λ_ F _ _ _=>uK F B c
 let iO:=O4.cal Z λ_ F _ _ _=>nK F B gW c
 let eI:=O5.cal Z λ_ F b k m=>kB F B c b k m 3
 let kz:=O6.cal Z λ_ F _ _ _=>qd F B c eI
 let kD:=O7.cal Z λ_ F _ _ _=>pL F B c eI
 let oN:=O8.cal Z λ_ F _ _ _=>uO F B gW c kD kz
 let mF:=O9.cal Z λ_ F _ _ _=>t8 F B c oN iO
 let tW:=q8.cal Z λ_ F _ _ _=>zf F B
 let eU:=b7.cal Z λ_ F _ _ _=>pK F B tW
 let i:=k7.cal Z λ_ F _ _ _=>uM F B
 let eO:=t0.cal Z λ_ F _ _ _=>uH F B n
 let ko:=f0.cal Z λ_ F _ _ _=>qe F B i eO n
 let fh:=g0.cal Z λ_ F _ _ _=>zm F B eU ko
 let gc:=p3.cal Z λ_ F _ _ _=>yo F B
 let y:=e3.cal Z λ_ F _ _ _=>zE F B gc
 let z:=q6.cal Z λ_ F _ _ _=>xB F B
 let dJ:=q1.cal Z λ_ F _ _ _=>vR F B z
 let R:=n3.cal Z λ_ F _ _ _=>wW F B z
 let iI:=l0.cal Z λ_ F _ _ _=>w5 F B i y z R gc dJ n
 let ip:=p4.cal Z λ_ F _ _ _=>q0 F B lR
 let mV:=h6.cal Z λ_ F b k m=>qM F B ip b k m 6
 let j:=r7.cal Z λ_ F _ _ _=>yk F B i gc mV n
 let FM:=C.cal Z λ_ F _ _ _=>DV F B iI j
 let eg:=m3.cal Z λ_ F _ _ _=>m5 F B dJ
 let jG:=k5.cal Z λ_ F _ _ _=>De F B i eg
 let zx:=t.cal Z λ_ F _ _ _=>wm F B j jG
 let II:=A.cal Z λ_ F _ _ _=>EW F B jG
 let l9:=r6.cal Z λ_ F _ _ _=>AF F B R jn
 let IM:=M.cal Z λ_ F _ _ _=>FH F B y j l9 dJ
 let hU:=b1.cal Z λ_ F _ _ _=>Au F B i y
 let fA:=i1.cal Z λ_ F _ _ _=>vP F B R z
 let rP:=n7.cal Z λ_ F _ _ _=>ER F B R jn
 let C5:=I.cal Z λ_ F _ _ _=>Bu F B hU j fA rP
 let Dc:=a0.cal Z λ_ F _ _ _=>Bs F B hU fA R
 let Gm:=P.cal Z λ_ F _ _ _=>DX F B hU fA
 let D9:=q.cal Z λ_ F _ _ _=>Az F B j eg i
 let iK:=s1.cal Z λ_ F _ _ _=>xj F B z
 let rO:=n4.cal Z λ_ F _ _ _=>Ek F B y iK
 let Dx:=u.cal Z λ_ F _ _ _=>AN F B rO
 let gS:=g1.cal Z λ_ F _ _ _=>uL F B y iK lR
 let CY:=a2.cal Z λ_ F _ _ _=>Bg F B gS
 let D8:=N.cal Z λ_ F _ _ _=>A4 F B rO gS
 let Gg:=a1.cal Z λ_ F _ _ _=>D6 F B
 have tK:∀x F,tY.lookup x=some F->ft l.prog w K f a 10 x bK F:=by
  show EY λp hp=>?_
  erw[tY,Qsq,QXq,or_false] at hp
  rcases hp with rfl|rfl|rfl|rfl|rfl|rfl|rfl|rfl|rfl|rfl|rfl|rfl
  ·show FM.mono (!1)
  ·show zx.mono (!1)
  ·show II.mono (!1)
  ·show IM.mono (!1)
  ·show C5.mono (!1)
  ·show Dc.mono (!1)
  ·show Gm.mono (!1)
  ·show D9.mono (!1)
  ·show Dx.mono (!1)
  ·show CY.mono (!1)
  ·show D8.mono (!1)
  ·show Gg.mono (!1)
 let sR:=o2.cal Z λ_ F _ _ _=>zG F B tK pT
 let tV:=m2.cal Z λ_ F _ _ _=>zr F B dJ rP eO iI
 let jA:=h9.cal Z λ_ F _ _ _=>Bb F B i l9 eO tV j sR jG n
 let vc:=i5.cal Z λ_ F _ _ _=>A1 F B fh jA
 let EU:=s9.cal Z λ_ F _ _ _=>I_ F B vc eU
 let iR:=o5.cal Z λ_ F _ _ _=>wz F B
 let ox:=e6.cal Z λ_ F _ _ _=>uP F B iR jn
 let B_:=l3.cal Z λ_ F _ _ _=>F4 F B iR ox n
 let vI:=t1.cal Z λ_ F _ _ _=>Aw F B fh jA
 let gZ:=b4.cal Z λ_ F _ _ _=>uR F B fh vI
 let qR:=t2.cal Z λ_ F _ _ _=>xr F B B_ gZ c
 let mQ:=u1.cal Z λ_ F _ _ _=>tx F B
 let qV:=n1.cal Z λ_ F _ _ _=>wB F B
 let CS:=r3.cal Z λ_ F _ _ _=>FT F B mQ qV
 show Hs (La b5 B sJ mF qR c EU CS gZ) T
end W28
namespace DL
open L2
def fF{a:cv}{S:aE}{Q:Bool->aE->Prop}(q:Q true S):E bI a S Q:=#[_,_,L,q]
section
variable{S:aE}
def jB{i j:Int}{Q:D->Prop}(q:Q (.int (i+j))):Op (bS S (.int i) (.int j)) Q:=#[_,L,q]
def KG{i j:Str}{Q:D->Prop}(h:i.length+j.length<=sizeLine)(q:Q (.str (i++j))):Op (bS S (.str i) (.str j)) Q:=#[_,by erw[bS];rw[Qhq h],q]
def dN{i j:List D}{Q:D->Prop}(h:i.length+j.length<=sizeLine)(q:Q (.tup (i++j))):Op (bS S (.tup i) (.tup j)) Q:=#[_,by erw[bS];rw[Qhq h],q]
def p9{k:Int->Int->D}{i j:Int}{Q:D->Prop}(q:Q (k i j)):Op (intD (λ_ _=>True) k S (.int i) (.int j)) Q:=#[_,by erw[intD,if_true],q]
def kX{i j:Int}{Q:D->Prop}(h:0<j)(q:Q (.int (i%j))):Op (oD S (.int i) (.int j)) Q:=#[_,by erw[oD,intD];rw[Qhq h],q]
def Fq{i j:Int}{Q:D->Prop}(h:Ge i j)(q:Q (.int (i/j))):Op (yH S (.int i) (.int j)) Q:=#[_,by erw[yH,intD];rw[Qhq h],q]
def qH{i j:Int}{Q:D->Prop}(h:Hz i j)(q:Q (.int (i*j))):Op (tZ S (.int i) (.int j)) Q:=#[_,by erw[tZ,intD];rw[Qhq h.ok],q]
def aB{ds:List D}{i:Int}{d:D}{Q:D->Prop}(h:mi ds i=some d)(q:Q d):Op (kc S (.tup ds) (.int i)) Q:=#[_,h,q]
def cE{k:Nat}{ds:List D}{i:Int}{d:D}{Q:D->Prop}(a:S[k]?=some (.lst ds))(h:mi ds i=some d)(q:Q d):Op (kc S (.ref k) (.int i)) Q:=#[_,by erw[kc,a];exact h,q]
def df{ds:List D}{Q:List D×Tag->Prop}(q:Q (ds,.tu)):Op (uk S (.tup ds)) Q:=#[_,L,q]
def bF{k:Nat}{ds:List D}{Q:List D×Tag->Prop}(a:S[k]?=some (.lst ds))(q:Q (ds,.st k)):Op (uk S (.ref k)) Q:=#[_,by erw[uk,a],q]
end
def bD{b:Bool}{p q:Prop}(c:b=true->p)(a:b=false->q):if b=true then p else q:=by
 cases b with
 |true=>exact c L
 |false=>exact a L
end DL
local macro_rules|`(tactic|injection $n:num)=>do
 let k:=n.getNat
 if k<6 then `(tactic|injection $(Lean.Syntax.mkNumLit (toString (k+1)))) else Lean.Macro.throwError ""
local macro_rules|`(tactic|injection $n:num)=>do
 let k:=n.getNat
 if k=6 then `(tactic|first|((with_reducible refine DL.QL ?_); intro _)|((with_reducible refine DL.ax (d := ?_) ?_ ?_); rotate_left; rfl)|dsimp only [DL.bM, DL.bg, DL.bN, DL.cP, DL.c7, DL.hJ]) else
 let mut a:Array (Lean.TSyntax `Lean.Parser.Tactic.tacticSeq):= (List.toArray [])
 for s in ((["aG","QD","q5","QB","fE","dM","OV","bE","vQ","kE","dg","t_auS","b_","dI","aw","aI","cb","cR","cG","Mj","bQ","je","qF","eS","d_","wU","bO","j8","bZ","CA","A2","kL","Cf","Nu","fF","aR","QP","il","ja","jB","p9","df"]:List String).drop (7*k)).take 7 do a:=a.push (←`(tacticSeq|refine $(Lean.mkIdent (.str (.str .anonymous "DL") s)) ?_))
 `(tactic|with_reducible first $[| $a]*)
local macro_rules|`(tactic|symm)=>`(tactic|repeat injection 0)
local macro_rules|`(tactic|apply $e)=>`(tactic|(refine $e;symm))
namespace W28
open L2 DL
noncomputable def o8(a b c:Int):O:=.lst [.int a,.int b,.int c]
def Du{S:aE}{k:Nat}{a b l m:Int}{Q:Res->aE->Prop}(e:S[k]?=some (o8 a b l))(g:0<m)(w:m<1000000)
  (h:∀(d t r q:Int),0<=d->d<m->Q (.d (.int d)) (S.set k (o8 t r q))):Fn ay [.ref k,.int m] S Q:=by
 have s:k<S.length:=(gQs.mp e).1
 have n:∀(o:O),(S.set k o).take S.length=S.set k o:=λo=>by rw[List.take_of_length_le];simp
 refine cc ?_
 unfold nE
 symm
 refine cE e L ?_
 symm
 refine bD (λc=>?_) (λc=>?_)
 ·symm
  refine cE e L ?_
  symm
  refine kX g ?_
  symm
  refine cE e L ?_
  symm
  refine Fq #[g,by omega] ?_
  symm
  refine#[_,_,_,_,L,L,e,L,?_]
  symm
  refine h_ (vo (by rfl)) (n _) (λ_ z=>by cases z) L ?_
  exact h _ _ _ _ (Int.emod_nonneg _ (!0)) (Int.emod_lt_of_pos _ g)
 ·refine dg ?_
  symm
  refine cE e (d:=.int l) L ?_
  symm
  refine#[_,_,_,_,L,L,e,L,?_]
  have i:∀o:O,(S.set k o)[k]?=some o:=λo=>by rw[Qyq s]
  symm
  refine cE (i _) (d:=.int b) L ?_
  symm
  refine qH (.inr #[by decide,by decide]) ?_
  symm
  refine cE (i _) (d:=.int (l+1)) L ?_
  refine qH (.inl #[by decide,by decide]) ?_
  symm
  refine kX (!1) ?_
  generalize f:(b*69621+7919*_+1)%2147483629=mx
  have v:0<=mx:=by rw[<-f];exact Int.emod_nonneg _ (!1)
  have u:mx<2147483629:=by rw[<-f];exact Int.emod_lt_of_pos _ (!1)
  symm
  refine#[_,_,_,_,L,L,i _,L,?_]
  have p:∀o j:O,((S.set k o).set k j)[k]?=some j:=λo j=>by rw[List.set_set];exact i _
  symm
  refine cE (p _ _) (d:=.int mx) L ?_
  symm
  refine cE (p _ _) (d:=.int mx) L ?_
  symm
  refine kX (!1) ?_
  symm
  refine qH (.inl #[by omega,by omega]) ?_
  symm
  refine kX (!1) ?_
  symm
  refine Fq #[by decide,by decide] ?_
  symm
  refine kX g ?_
  symm
  rw[List.set_set]
  refine h_ (vo (by rfl)) (n _) (λ_ z=>by cases z) L ?_
  exact h _ _ _ _ (Int.emod_nonneg _ (!0)) (Int.emod_lt_of_pos _ g)
structure Ex(k:Nat)(S S':aE):Prop where
 len:S.length<=S'.length
 keep:∀(j:Nat) (o:O),j≠k->S[j]?=some o->S'[j]?=some o
 pot:∃a b c,S'[k]?=some (o8 a b c)
def Ex.refl{k:Nat}{S:aE}{a b c:Int}(h:S[k]?=some (o8 a b c)):Ex k S S:=#[Qmq _,λ_ _ _ h=>h,_,_,_,h]
def Ex.trans{k:Nat}{S a S2:aE}(x:Ex k S a)(y:Ex k a S2):Ex k S S2:=#[QAq x.len y.len,λj o n h=>y.keep j o n (x.keep j o n h),y.pot]
def Ex.set{k:Nat}{S d:aE}{a b c:Int}(x:Ex k S d):Ex k S (d.set k (o8 a b c)):=by
 let#[_,_,_,h]:=x.pot
 show#[by simpa using x.len,λj o n h=>?_,a,b,c,Qyq (gQs.mp h).1]
 rw[QKq (Ne.symm n)]
 show x.keep j o n h
def Ex.app{k:Nat}{S d G:aE}(x:Ex k S d):Ex k S (d++G):=by
 let#[a,b,c,h]:=x.pot
 show#[by rw[lQa];have:=x.len;omega,λj o n h=>?_,a,b,c,?_]
 ·have:=x.keep j o n h
  rw[QHq (gQs.mp this).1]
  show this
 ·rw[QHq (gQs.mp h).1]
  show h
def Ex.put{k r:Nat}{S d:aE}{o:O}(x:Ex k S d)(i:S.length<=r)(f:k<S.length):Ex k S (d.set r o):=by
 let#[a,b,c,h]:=x.pot
 show#[by simpa using x.len,λj e n h=>?_,a,b,c,?_]
 ·let g:=(gQs.mp h).1
  rw[QKq (!0)]
  show x.keep j e n h
 ·rw[QKq (!0)]
  show h
def Ex.lt{k:Nat}{S d:aE}(x:Ex k S d):k<d.length:=by
 let#[a,b,c,h]:=x.pot
 show(gQs.mp h).1
def aZ{S G:aE}{j:Nat}{o:O}(h:S[j]?=some o):(S++G)[j]?=some o:=by
 rw[QHq (gQs.mp h).1]
 show h
def aS{S:aE}{o:O}:(S++ [o])[S.length]?=some o:=by simp
def fJ{S:aE}{k j:Nat}{o o':O}(n:j≠k)(h:S[j]?=some o):(S.set k o')[j]?=some o:=by
 rw[QKq (Ne.symm n)]
 show h
def fc{S:aE}{j:Nat}{o o':O}(h:S[j]?=some o):(S.set j o')[j]?=some o':=Qyq (gQs.mp h).1
def Ex.clean{k:Nat}{S f:aE}(x:Ex k S f)(l:k<S.length):oS S f/\∃a b c,f.take S.length=S.set k (o8 a b c):=by
 let#[a,b,c,h]:=x.pot
 have g:∀j,j<S.length->f[j]?=(S.set k (o8 a b c))[j]? :=λj d=>by
  by_cases e:j=k
  ·subst e
   rw[h,Qyq d]
  ·rw[QKq (Ne.symm e),x.keep j _ e (gQe d),gQe d]
 show#[#[x.len,λj o d e=>?_],a,b,c,?_]
 ·by_cases i:j=k
  ·subst i
   rw[h] at e
   cases e
   show .inr L
  ·rw[x.keep j _ i (gQe d)] at e
   rw[gQe d]
   show .inl e
 ·apply List.ext_getElem?
  intro j
  by_cases d:j<S.length
  ·rw[List.getElem?_take_of_lt d]
   show g j d
  ·rw[List.getElem?_eq_none (by rw[Qxq];omega),List.getElem?_eq_none (by simp;omega)]
def qS{k:Nat}{S e:aE}{d:D}{Q:Res->aE->Prop}(x:Ex k S e)(g:k<S.length)(f:∀k,d≠.ref k)(hl:cn S.length d=true)(q:∀a b c,Q (.d d) (S.set k (o8 a b c))):Op (settle S d e) λp=>Q p.1 p.2:=by
 let#[i,a,b,c,h]:=x.clean g
 show h_ i h f hl (q a b c)
def MY{k:Nat}{S d:aE}{ds:List D}{Q:Res->aE->Prop}(x:Ex k S d)(e:k<S.length)(hl:bP S.length ds=true)(q:∀a b c,Q (.l ds) (S.set k (o8 a b c))):Op (fG S ds d) λp=>Q p.1 p.2:=by
 let#[g,a,b,c,f]:=x.clean e
 show m9 g f hl (q a b c)
def bH{S S0:aE}{k:Nat}{m:Int}{Q:Res->aE->Prop}(x:Ex k S0 S)(i:0<m)(j:m<1000000)
  (h:∀(d:Nat) (e:aE),(d:Int)<m->Ex k S0 e->Ex k S e->e.length=S.length->Q (.d (.int d)) e):Fn ay [.ref k,.int m] S Q:=by
 let#[a,b,c,f]:=x.pot
 show Du f i j λd q o l p g=>?_
 obtain⟨n,rfl⟩:∃n:Nat,d=n:=#[d.toNat,by omega]
 show h n _ g x.set (Ex.refl f).set (by simp)
def aQ{α:Type}{xs:List α}{j:Nat}{x:α}(h:xs[j]?=some x):mi xs (j:Int)=some x:=by
 let a:=(gQs.mp h).1
 unfold mi GL
 rw[Qhq (!0),Qhq (!0)]
 simpa using h
def jh{e:cv}{S S0:aE}{k i v:Nat}{xs:List D}{Q:D->aE->Prop}(m:e[0]?=some (some (.ref k)))(g:e[v]?=some (some (.ref i)))(x:Ex k S0 S)(hi:i≠k)(j:S[i]?=some (.lst xs))(o:0<xs.length)(p:xs.length<1000)
  (h:∀(d:D) (a:aE),d∈xs->Ex k S0 a->Ex k S a->a.length=S.length->Q d a):E (bf kc (au v) (aA ay (ar (au 0) (ar (et (aP (au v))) av)))) e S Q:=by
 show b_ (ax g (bO (aw (ax m (aw (qF (bQ (ax g (bF j (aI ?_))))))))))
 show bH x (by show(0:Int)<xs.length;omega) (by show(xs.length:Int)<1000000;omega) λd a l n f c=>?_
 have b:d<xs.length:=by have:(d:Int)<(xs.length:Int):=l;omega
 show cE (f.keep _ _ hi j) (aQ (gQe b)) ?_
 show h _ _ (List.getElem_mem b) n f c
def dR{m:cv}{S S0:aE}{k n:Nat}{xs:List D}{f:fT}{Q:D->aE->Prop}(p:m[0]?=some (some (.ref k)))(x:Ex k S0 S)(u:0<n)(w:n<1000)(hl:xs.length=n)
  (q:E f m S λds j=>ds=xs/\j=S)
  (h:∀(d:D) (e:aE),d∈xs->Ex k S0 e->Ex k S e->e.length=S.length+1->Q d e):E (bf kc (bA (bq f)) (aA ay (ar (au 0) (ar (cF (.int n)) av)))) m S Q:=by
 show b_ (cG (cR (q.mono λds j s=>?_)))
 let#[o,i]:=s
 subst o i
 show#[nQl (aL (!0)),?_]
 show bO (aw (ax p (aw (dI (aI ?_)))))
 let v:=x.lt
 show bH (x.app (G:= [O.lst ds])) (!0) (!0) λd e t o i l=>?_
 have g:d<ds.length:=by omega
 show cE (i.keep _ _ (!0) aS) (aQ (gQe g)) ?_
 have y:Ex k j j:=by let#[a,b,c,r]:=x.pot;show Ex.refl r
 show h _ _ (List.getElem_mem g) o (y.app.trans i) (by rw[l];simp)
end W28
namespace DL
open L2
mutual
theorem eL{m:Nat}:∀{d:D},cn 0 d=true->cn m d=true
 |.non,_=>rfl
 |.bl _,_=>rfl
 |.int _,_=>rfl
 |.str _,_=>rfl
 |.tup ds,h=>by erw[cn] at h|-;show jv h
 |.ref k,h=>by simp[cn] at h
 |.fn _,_=>rfl
theorem jv{m:Nat}:∀{ds:List D},bP 0 ds=true->bP m ds=true
 | [],_=>rfl
 | d::ds,h=>by
   erw[bP,QCq] at h|-
   show#[eL h.1,jv h.2]
end
theorem xE{m:Nat}:∀{ds:List D},(∀d∈ds,cn m d=true)->bP m ds=true
 | [],_=>rfl
 | d::ds,h=>by
   erw[bP,QCq]
   show#[h d (QBq ..),xE λe a=>h e (Qpq _ a)]
def a_{α:Type}{m:Nat}{f:α->D}{l:List α}(h:∀a∈l,cn m (f a)=true):bP m (l.map f)=true:=xE λd b=>by
 let#[a,c,rfl]:=Qkq.mp b
 show h a c
theorem u_:∀a:List Str,vj (a.map D.str)=some a
 | []=>rfl
 |s::a=>by erw[QDq,vj];rw[u_ a];rfl
def KQ{c:cv}{S:aE}{f:d0}{Q:List D->aE->Prop}(h:E f c S λp b=>p.2.isL=true/\∃a:List Str,p.1=a.map D.str/\a.length<64/\Q ((p6 a).map D.str) b):E (BG f) c S Q:=by
 let#[p,b,d,l,a,g,e,q]:=h
 show#[_,b,by unfold BG;rw[d];erw[Qbq];rw[Qhq l,g,u_];erw[Qbq];rw[Qhq e],q]
def j0{ds:List D}{y:D}{Q:List D×D->Prop}(h:ds.length<sizeLine)(q:Q (ds++ [y],.non)):Op (lg ds [y]) Q:=#[_,by erw[lg];rw[Qhq h],q]
def ee{b:cv}{S:aE}{n:Nat}{g:qZ}{ds:List D}{Q:cv->aE->Prop}(d:ds.length=n)(h:Oq g ds b S Q):Tg (iy (nG n g)) (.tup ds) b S Q:=by
 let#[a,c,e,q]:=h
 show#[a,c,by show nG n g ds b S=_;unfold nG;rw[Qhq d];show e,q]
def bo{a:cv}{S:aE}{Q:cv->aE->Prop}(q:Q a S):Oq di [] a S Q:=#[_,_,L,q]
def az{b:cv}{S:aE}{f:mv}{g:qZ}{d:D}{ds:List D}{Q:cv->aE->Prop}(h:Tg f d b S λa e=>Oq g ds a e Q):Oq (aH f g) (d::ds) b S Q:=by
 let#[a,e,j,c,i,k,q]:=h
 show#[c,i,by show(f d b S).bind _=_;rw[j];show k,q]
end DL
namespace W28
open L2 DL
def EA{c:cv}{S:aE}{i j:Nat}{f:fT}{Q:Out->Prop}(h:E f c S λds d=>∃a b,ds= [a,b]/\Q (.nx ((c.set i (some a)).set j (some b)) d)):T (vW i j f) c S Q:=by
 let#[ds,d,e,a,b,rfl,q]:=h
 show#[_,by unfold vW;rw[e];rfl,q]
def FQ{c:cv}{S:aE}{i j:Nat}{f:fT}{Q:Out->Prop}(h:E f c S λds d=>∃a b,ds= [a,b]/\Q (.nx ((c.set i (some a)).set j (some b)) d)):T (lT (aW f) (iy (nG 2 (aH (bB i) (aH (bB j) di))))) c S Q:=by
 show vQ (cb (h.mono λds d g=>?_))
 let#[a,b,e,q]:=g
 subst e
 show#[by show 2<=_;decide,ee L (az (aR (az (aR (bo q)))))]
noncomputable def lets:Str:="abcdefghijklmnopqrstuvwxyz"
noncomputable def let1(i:Nat):Str:=#[(List.toArray [lets.cps.toList.getD i 0])]
noncomputable def Ls:List Str:= ["","zz","x","qqqqqqq"]
noncomputable def Oi(j:Nat):Str:=Ls.getD j ""
noncomputable def nm(i j:Nat):Str:=let1 i++Oi j
def FP(x:Str):Prop:=∃i j,i<26/\j<4/\x=nm i j
noncomputable def FY(f s a:Nat):List Str:=(List.range a).map λk=>nm ((f+s*k)%26) ((f+k)%4)
def yA:∀i,i<26->∀j,j<4->PyData.strOk (nm i j)=true/\(nm i j).length<=8/\(let1 i).length=1:=by decide +kernel
def HV:∀i,i<26->∀a,a<26->∀j,j<4->∀b,b<4->nm i j=nm a b->i=a:=by decide +kernel
def EI:∀f,f<26->∀s∈([1,3,5,7,9,11]:List Nat),((List.range 24).map λk=>(f+s*k)%26).Nodup:=by decide +kernel
def Ew{f s m:Nat}(e:f<26)(g:s∈([1,3,5,7,9,11]:List Nat))(d:m<=24):(FY f s m).Nodup:=by
 let h:=EI f e s g
 rw[List.nodup_iff_pairwise_ne,List.pairwise_map] at h
 unfold FY
 rw[List.nodup_iff_pairwise_ne,List.pairwise_map]
 have c:(List.range m).Sublist (List.range 24):=List.range_sublist.mpr d
 show(h.sublist c).imp λ{a b} hne z=>hne ?_
 show HV _ (Nat.mod_lt _ (!1)) _ (Nat.mod_lt _ (!1)) _ (Nat.mod_lt _ (!1)) _ (Nat.mod_lt _ (!1)) z
def FP.ok{x:Str}(h:FP x):PyData.strOk x=true:=by let#[i,j,b,a,rfl]:=h;show(yA i b j a).1
def JR{f s m:Nat}:∀x∈FY f s m,FP x:=λx a=>by
 let#[k,_,rfl]:=Qkq.mp a
 show#[_,_,Nat.mod_lt _ (!1),Nat.mod_lt _ (!1),L]
def Ke:∀i:Nat,i<26->mi lets.cps.toList (i:Int)=some (lets.cps.toList.getD i 0):=by decide +kernel
def Ll:∀j:Nat,j<4->mi (([.str "",.str "zz",.str "x",.str "qqqqqqq"]:List D)) (j:Int)=some (.str (Oi j)):=by
 intro j a
 rcases j with _|_|_|_|j
 ·rfl
 ·rfl
 ·rfl
 ·rfl
 ·omega
def HG:∀j,(Oi j).length<=7:=by
 intro j
 rcases j with _|_|_|_|j
 ·decide
 ·decide
 ·decide
 ·decide
 ·show(Str.length (Ls.getD (j+4) ""))<=7
  simp[Ls]
  decide
def NM{S:aE}{z:Str}{i:Int}{c:Nat}{Q:D->Prop}(hl:z.length<=sizeLine)(h:mi z.cps.toList i=some c)(q:Q (.str #[(List.toArray [c])])):Op (kc S (.str z) (.int i)) Q:=#[_,by erw[kc];rw[Qhq hl,h];rfl,q]
def LA{d:D}(h:d∈([.int 1,.int 3,.int 5,.int 7,.int 9,.int 11]:List D)):∃s:Nat,s∈([1,3,5,7,9,11]:List Nat)/\d=.int s:=by
 erw[Qsq,QXq,or_false] at h
 rcases h with rfl|rfl|rfl|rfl|rfl|rfl
 ·show#[1,by decide,L]
 ·show#[3,by decide,L]
 ·show#[5,by decide,L]
 ·show#[7,by decide,L]
 ·show#[9,by decide,L]
 ·show#[11,by decide,L]
def zK{S S0:aE}{k e:Nat}{Q:Res->aE->Prop}(x:Ex k S0 S)(K:e<=24)
  (h:∀(ws:X6) (g:aE),ws.Nodup->ws.Pairwise qL->ws.length=e->(∀z∈ws,FP z)->Ex k S0 g->Ex k S g->g.length=S.length->Q (.l (ws.map D.str)) g):Fn eG [.ref k,.int e] S Q:=by
 have y:Ex k S S:=by let#[a,b,c,I]:=x.pot;show Ex.refl I
 let P:=x.lt
 show cc ?_
 unfold lJ
 show aG (bE (dI ?_))
 apply aG (FQ ?_)
 show bH y (!1) (!1) λf Y W M R X=>?_
 dsimp only[bM,bg,bN,cP,c7,hJ]
 show aw (dR (n:=6) (xs:= [.int 1,.int 3,.int 5,.int 7,.int 9,.int 11]) L M (!1) (!1) L (by symm;show#[L,L]) λd U q F w Z=>?_)
 let#[s,v,rfl]:=LA q
 have u:s<12:=by
  erw[Qsq,QXq,or_false] at v
  omega
 apply aI #[_,_,L,?_]
 apply gH (il ?_)
 show#[(e:Int),L,by omega,?_]
 show#[λi p g m=>(∃o:Option D,p= [o,some (.str "abcdefghijklmnopqrstuvwxyz"),some (.int f),some (.int s)])/\Ex k S g/\m=(FY f s i).map D.str,#[#[none,L],F,L],λ_ _ _ _ _=>trivial,?_,?_]
 ·rintro i d p g m q ⟨⟨o,rfl⟩,e4,rfl⟩
  let J:=(gQs.mp q).1
  erw[iG,lQm,QVq] at J
  obtain rfl:d=.int i:=by
   erw[iG,gQm] at q
   let#[j,N,rfl]:=oQm.mp q
   have:=(gQs.mp N).2
   simp at this
   subst this
   simp
  apply aR ?_
  rw[Qhq L]
  symm
  apply qH (.inl #[by omega,by omega]) ?_
  show kX (!1) ?_
  have C:((f:Int)+(s:Int)*(i:Int))%26=(((f+s*i)%26:Nat):Int):=by push_cast;rfl
  rw[C]
  have r:(f+s*i)%26<26:=Nat.mod_lt _ (!1)
  apply NM (!1) (Ke _ r) ?_
  apply#[by decide,?_]
  show kX (!1) ?_
  have H:((f:Int)+(i:Int))%4=(((f+i)%4:Nat):Int):=by push_cast;rfl
  rw[H]
  have B:(f+i)%4<4:=Nat.mod_lt _ (!1)
  show cE aS (Ll _ B) ?_
  show KG (QAq (show(let1 ((f+s*i)%26)).length+(Oi ((f+i)%4)).length<=8 by have:=(yA _ r 0 (!1)).2.2;have:=HG ((f+i)%4);omega) (!1)) ?_
  show#[Qqq (show _<64 by erw[FY,lQm,QVq];omega) (!1),#[_,L],e4.app,?_]
  erw[FY,List.range_succ,Qzq,QDq,List.map_nil]
  rfl
 ·rintro p g m ⟨-,e4,rfl⟩
  have A:(iG 0 (e:Int)).length=e:=by erw[iG,lQm,QVq];omega
  show T _ _ (g++ [O.lst ((FY f s (iG 0 (e:Int)).length).map D.str)]) _
  rw[A]
  symm
  apply KQ ?_
  show bF aS ?_
  show#[L,FY f s e,L,by erw[FY,lQm,QVq];omega,?_]
  let t:=kJ (FY f s e)
  show MY e4.app P (a_ λ_ _=>rfl) λa b c=>?_
  show h _ _ (t.symm.nodup (Ew (!0) v K)) (jg _) (by rw[t.length_eq];simp[FY]) (λz G=>JR z (t.mem_iff.mp G)) x.set y.set (by simp)
end W28
namespace DL
open L2
def GJ{a:cv}{S:aE}{f g:d0}{Q:List D->aE->Prop}(h:E f a S λp b=>E g a b λr S2=>(p.2.isM=true/\r.2.isM=true/\p.2.stays S2 p.1/\p.1.length+r.1.length<=sizeLine)/\Q (p.1++r.1) S2):E (w_ f g) a S Q:=by
 let#[p,b,c,r,S2,d,l,q]:=h
 show#[_,S2,by unfold w_;rw[c];erw[Qbq];rw[d];erw[Qbq];rw[Qhq l],q]
def fU{S:aE}{i j:Int}{Q:D->Prop}(q:Q (.bl (decide (i=j)))):Op (gq false S (.int i) (.int j)) Q:=#[_,by refine((if_pos (c:=Ai (.int i) (.int j)=true) (e:=none) rfl).trans ?_);simp,q]
def iZ{S:aE}{i j:Str}{Q:D->Prop}(q:Q (.bl (decide (i=j)))):Op (gq false S (.str i) (.str j)) Q:=#[_,by refine((if_pos (c:=Ai (.str i) (.str j)=true) (e:=none) rfl).trans ?_);simp,q]
section
variable{a:cv}{S:aE}
def AX{v i:Nat}{ds:List D}(d:a[v]?=some (some (.ref i)))(c:S[i]?=some (.lst ds)):E (aK (fO (aP (au v)))) a S λb e=>e=S/\b= !ds.isEmpty:=
 bZ (wU (bQ (ax d (bF c #[#[L,c],L,L]))))
def DN{v:Nat}{w m:Int}(c:a[v]?=some (some (.int w))):E (aK (bf Ea (au v) (cF (.int m)))) a S λb d=>d=S/\b=decide (w<m):=
 bZ (b_ (ax c (dI (p9 #[L,L]))))
def Aj{v:Nat}{w m:Int}(c:a[v]?=some (some (.int w))):E (aK (bf (gq false) (au v) (cF (.int m)))) a S λb d=>d=S/\b=decide (w=m):=
 bZ (b_ (ax c (dI (fU #[L,L]))))
def mO{i j:Int}{Q:D->Prop}(q:Q (.bl (!decide (i=j)))):Op (gq true S (.int i) (.int j)) Q:=#[_,by refine((if_pos (c:=Ai (.int i) (.int j)=true) (e:=none) rfl).trans ?_);simp,q]
def L6{v:Nat}{w m:Int}(c:a[v]?=some (some (.int w))):E (aK (bf (gq true) (au v) (cF (.int m)))) a S λb d=>d=S/\b= !decide (w=m):=
 bZ (b_ (ax c (dI (mO #[L,L]))))
def sL{f g:iE}{p q:Bool}(d:E f a S λb c=>c=S/\b=p)(i:E g a S λb c=>c=S/\b=q):E (gD f g) a S λb c=>c=S/\b=(p&&q):=
 kL (d.mono λb c h=>by
  let#[e,j]:=h
  subst e j
  cases b with
  |true=>rw[Qhq L];show i
  |false=>rw[Quq (!1)];show#[L,L])
def Pd{f g:iE}{p q:Bool}(d:E f a S λb c=>c=S/\b=p)(i:E g a S λb c=>c=S/\b=q):E (Fp f g) a S λb c=>c=S/\b=(p||q):=
 Cf (d.mono λb c h=>by
  let#[e,j]:=h
  subst e j
  cases b with
  |true=>rw[Qhq L];show#[L,L]
  |false=>rw[Quq (!1)];show i)
def iM{c:iE}{f:cH}{Q:Out->Prop}{b:Bool}(j:E c a S λx e=>e=S/\x=b)(i:b=true->T f a S Q)(d:b=false->Q (.nx a S)):T (fK c f fQ) a S Q:=
 fE (j.mono λx e h=>by
  let#[g,k]:=h
  subst g k
  show bD (λz=>i z) (λz=>dg (d z)))
end
def nj{α:Type}{f:α->D}{l:List α}(h:(!(l.map f).isEmpty)=true):0<l.length:=by
 cases l with
 |nil=>cases h
 |cons a r=>simp
end DL
namespace W28
open L2 DL
noncomputable def ops:List Str:= ["plus","minus","less","same","both"]
inductive Tr where
 |num (n:Nat)|word (x:Str)|waits (b:Str)|no (t:Tr)|two (o:Str) (a b:Tr)
noncomputable def Tr.d:Tr->D
 |.num n=>.int n
 |.word x=>.str x
 |.waits b=>.tup [.str "waits",.str b]
 |.no t=>.tup [.str "not",t.d]
 |.two o a b=>.tup [.str o,a.d,b.d]
def Tr.Ok(ws bs:X6):Tr->Prop
 |.num n=>n<=9
 |.word x=>x∈ws
 |.waits b=>b∈bs
 |.no t=>t.Ok ws bs
 |.two o a b=>o∈ops/\a.Ok ws bs/\b.Ok ws bs
noncomputable def Tr.dep:Tr->Nat
 |.num _=>1
 |.word _=>1
 |.waits _=>1
 |.no t=>t.dep+1
 |.two _ a b=>max a.dep b.dep+1
theorem Tr.low:∀t:Tr,cn 0 t.d=true
 |.num _=>rfl
 |.word _=>rfl
 |.waits _=>rfl
 |.no t=>by erw[Tr.d,cn,bP];rw[t.low];rfl
 |.two _ a b=>by erw[Tr.d,cn,bP];rw[a.low,b.low];rfl
def Tr.noref(t:Tr):∀k,t.d≠.ref k:=by
 intro k
 cases t <;>simp[Tr.d]
theorem AR:∀(n:Nat) {S S0:aE} {k i j:Nat} {ws bs:X6} {deep:Nat} {Q:Res->aE->Prop} (x:Ex k S0 S) (hi:i≠k) (B:j≠k) (U:S[i]?=some (.lst (ws.map D.str))) (J:S[j]?=some (.lst (bs.map D.str))) (M:ws.length<1000) (W:bs.length<1000) (X:deep<n)
  (h:∀(t:Tr) (f:aE),t.Ok ws bs->t.dep<=deep+1->Ex k S0 f->Ex k S f->f.length=S.length->Q (.d t.d) f),Fn (aY n) [.ref k,.ref i,.ref j,.int deep] S Q
 |0,_,_,_,_,_,_,_,_,_,_,_,_,_,_,_,_,X,_=>absurd X (Nat.not_lt_zero _)
 | n+1,S,S0,k,i,j,ws,bs,deep,Q,x,hi,B,U,J,M,W,X,h=>by
   have y:Ex k S S:=by let#[a,b,c,hh]:=x.pot;show Ex.refl hh
   have g:∀(t:Tr) (f:aE),t.Ok ws bs->t.dep<=deep+1->Ex k S f->Op (settle S t.d f) λp=>Q p.1 p.2:=λt f N h2 e=>qS e x.lt t.noref (eL t.low) λa b c=>h _ _ N h2 x.set y.set (by simp)
   have go:∀{R:Res->aE->Prop} {H:aE},Ex k S H->1<=deep->(∀(t:Tr) (f:aE),t.Ok ws bs->t.dep<=deep->Ex k S f->R (.d t.d) f)->Fn (aY n) [.ref k,.ref i,.ref j,.int ((deep:Int)-1)] H R:=by
     intro R H m hd hR
     have e:((deep:Int)-1)=((deep-1:Nat):Int):=by omega
     rw[e]
     show AR n m hi B (m.keep _ _ hi U) (m.keep _ _ B J) M W (!0) λt f N h2 h3 _ _=>hR t f N (!0) h3
   show cc ?_
   unfold i_
   symm
   show bH y (!1) (!1) λway S1 a0 q _ l1=>?_
   let A:=q.keep _ _ hi U
   let C:=q.keep _ _ B J
   show aG (iM (Pd (Aj (w:=(deep:Int)) L) (DN (w:=(way:Int)) L)) (λ_=>?_) λr=>?_)
   · show aG (iM (sL (AX L A) (L6 (w:=(way:Int)) L)) (λZ=>?_) λ_=>?_)
     · have l:=nj (QCq _ _▸Z).1
       show dM (jh L L q hi A (by rw[lQm];show l) (by rw[lQm];show M) λv S4 G F _ l4=>?_)
       let#[z,P,rfl]:=Qkq.mp G
       show g (.word z) _ P (by show 1<=deep+1;omega) F
     · symm
       show bH q (!1) (!1) λv S3 G Y _ l3=>?_
       show g (.num v) _ (by show v<=9;omega) (by show 1<=deep+1;omega) Y
   have s:1<=deep:=by
     rw[Bool.or_eq_false_iff] at r
     have:=QaQ r.1
     omega
   show aG (iM (sL (AX L C) (Aj (w:=(way:Int)) L)) (λZ=>?_) λ_=>?_)
   · have l:=nj (QCq _ _▸Z).1
     show dM (cb (aw (dI (aw (jh L L q B C (by rw[lQm];show l) (by rw[lQm];show W) λv S4 G F _ l4=>aI #[by show 2<=_;decide,?_])))))
     let#[z,P,rfl]:=Qkq.mp G
     show g (.waits z) _ P (by show 1<=deep+1;omega) F
   symm
   show go q s λI H u a1 m=>?_
   show aG (iM (Aj (w:=(way:Int)) L) (λ_=>?_) λ_=>?_)
   · symm
     show#[by show 2<=_;decide,?_]
     show g (.no I) _ u (by show I.dep+1<=deep+1;omega) m
   show aG (bE (dR (n:=5) (xs:=ops.map D.str) L m (!1) (!1) L (by symm;show#[L,L]) λd S3 hd Y _ l3=>?_))
   let#[o,ho,rfl]:=Qkq.mp hd
   symm
   apply go Y s λt2 S4 K a2 F=>?_
   show#[by show 3<=_;decide,?_]
   show g (.two o I t2) _ #[ho,u,K] (by show max I.dep t2.dep+1<=deep+1;omega) F
inductive Rw where
 |put (x:Str) (t:Tr)|unl (t:Tr) (n:Nat)|go (n:Nat)|do_ (g:Option Str) (r d:Str) (t:Tr)|wait (b:Str) (t:Tr)|call (b:Str)|all (b:Str)|tell (t:Tr)
 |take (p:Str)|give (p:Str)|pass (p q:Str)|say (t:Tr)
noncomputable def Fk:Option Str->D
 |none=>.non
 |some x=>.str x
noncomputable def Rw.d:Rw->D
 |.put x t=>.tup [.str "put",.str x,t.d]
 |.unl t n=>.tup [.str "unless",t.d,.int n]
 |.go n=>.tup [.str "go",.int n]
 |.do_ g r d t=>.tup [.str "do",Fk g,.str r,.str d,t.d]
 |.wait b t=>.tup [.str "wait",.str b,t.d]
 |.call b=>.tup [.str "call",.str b]
 |.all b=>.tup [.str "all",.str b]
 |.tell t=>.tup [.str "tell",t.d]
 |.take p=>.tup [.str "take",.str p]
 |.give p=>.tup [.str "give",.str p]
 |.pass p q=>.tup [.str "pass",.str p,.str q]
 |.say t=>.tup [.str "say",t.d]
structure Sc where
 own:Bool
 ws:List Str
 ps:List Str
 bs:List Str
 gs:List (Str×Str)
 ts:List Str
def Iv(a:Sc)(t:Tr):Prop:=t.Ok a.ws a.bs/\t.dep<=4
def Rw.Ok(a:Sc)(n:Nat):Rw->Prop
 |.put x t=>x∈a.ps/\Iv a t
 |.unl t m=>Iv a t/\m<=n
 |.go m=>m<=n
 |.do_ g r d t=>(∀x,g=some x->x∈a.ps)/\(r,d)∈a.gs/\Iv a t
 |.wait b t=>a.own=false/\b∈a.bs/\Iv a t
 |.call b=>a.own=false/\b∈a.bs
 |.all b=>a.own=false/\b∈a.bs
 |.tell t=>a.own=false/\Iv a t
 |.take p=>a.own=true/\p∈a.ts
 |.give p=>a.own=true/\p∈a.ts
 |.pass p q=>a.own=true/\p∈a.ts/\q∈a.ts
 |.say t=>a.own=true/\Iv a t
theorem Rw.low(r:Rw):cn 0 r.d=true:=by
 cases r with
 |do_ g r d t=>cases g <;>erw[Rw.d,cn,bP,Fk,t.low,Bool.and_true,Bool.true_and]
 |_=>erw[Rw.d,cn,bP,Tr.low,Bool.and_true,Bool.true_and]
def yR(a:Sc)(rs:List Rw):Prop:=∀r∈rs,r.Ok a rs.length
noncomputable def cu(g:Str×Str):D:=.tup [.str g.1,.str g.2]
theorem Fi:∀a:List Str,iz (a.map D.str)=some (a.map V.str)
 | []=>rfl
 |s::a=>by erw[QDq,iz];rw[Fi a];rfl
def L9{d:cv}{S:aE}{a:Bool}{f g:d0}{Q:D->aE->Prop}(h:E f d S λp e=>E g d e λr S2=>(p.2.isL=true/\r.2.isL=true/\p.2.stays S2 p.1)/\∃b vs,iz p.1=some b/\iz r.1=some vs/\Q (.bl (if a then !Eb b vs else Eb b vs)) S2):E (eqQ a f g) d S Q:=by
 let#[p,e,j,r,S2,i,c,b,vs,k,l,q]:=h
 show#[_,S2,by unfold eqQ;rw[j];erw[Qbq];rw[i];erw[Qbq];rw[Qhq c,k];erw[Qbq];rw[l];rfl,q]
def Jw{d:cv}{S:aE}{v i:Nat}{a:X6}(e:d[v]?=some (some (.ref i)))(c:S[i]?=some (.lst (a.map D.str))):E (aK (eqQ false (aP (au v)) (fg (bq av)))) d S λb f=>f=S/\b=a.isEmpty:=
 bZ (L9 (bQ (ax e (bF c (je (cR (aI #[by show 0<=_;decide,#[L,L,c],_,_,Fi a,L,L,by cases a <;>rfl])))))))
noncomputable def da:List Str:= ["given"]
def Et{n:cv}{S S0:aE}{k v i:Nat}{e:X6}{Q:D->aE->Prop}(t:n[0]?=some (some (.ref k)))(q:n[v]?=some (some (.ref i)))(x:Ex k S0 S)(hi:i≠k)(o:S[i]?=some (.lst (e.map D.str)))(C:e.length<900)
  (h:∀(g:Option Str) (f:aE),(∀z,g=some z->z∈e)->Ex k S0 f->Ex k S f->f.length=S.length+1->Q (Fk g) f):
  E (bf kc (bA (w_ (aP (au v)) (fg (bq (ar (cF .non) av))))) (aA ay (ar (au 0) (ar (bf bS (et (aP (au v))) (cF (.int 1))) av)))) n S Q:=by
 show b_ (cG (GJ (bQ (ax q (bF o (je (cR (aw (dI (aI #[by show 1<=_;decide,#[L,L,o,nQl (aL (by rw[lQm];show e.length+1<=1000;omega))],?_]))))))))))
 show bO (aw (ax t (aw (b_ (qF (bQ (ax q (bF (aZ o) (dI (jB (aI ?_)))))))))))
 let F:=x.lt
 show bH (x.app (G:= [O.lst (e.map D.str++ [.non])])) (by rw[lQm];omega) (by rw[lQm];omega) λd f s A p l=>?_
 rw[lQm] at s
 have y:Ex k S S:=by let#[a,b,c,w]:=x.pot;show Ex.refl w
 have j:∀g:Option Str,(∀z,g=some z->z∈e)->(e.map D.str++ [D.non])[d]?=some (Fk g)->Op (kc f (.ref S.length) (.int d)) λr=>Q r f:=λg u B=>
  cE (p.keep _ _ (!0) aS) (aQ B) (h g f u A (y.app.trans p) (by rw[l];simp))
 by_cases c:d<e.length
 ·show j (some e[d]) (λz m=>by cases m;show List.getElem_mem c) (by rw[QHq (by simpa using c),gQm,gQe c];rfl)
 ·have:d=e.length:=by omega
  show j none (λz m=>(nomatch m)) (by rw[QQq (by simp;omega),this];simp;rfl)
def yZ{S S0:aE}{k th bl M i f:Nat}{ths k8:X6}{gs:List (Str×Str)}{mn:Str}{Q:Res->aE->Prop}(x:Ex k S0 S)(h1:th≠k)(h2:bl≠k)(h3:M≠k)
  (ht:S[th]?=some (.lst (ths.map D.str))) (hb:S[bl]?=some (.lst (k8.map D.str))) (hg:S[M]?=some (.lst (gs.map cu))) (l1:ths.length<900) (l2:k8.length<900) (l3:gs.length<900) (hr:i<f) (hs:f<1000)
  (h:∀(r:Rw) (A:aE),r.Ok #[false,ths++da,ths,k8,gs,[]] f->Ex k S0 A->Ex k S A->A.length=S.length->Q (.d r.d) A):
  Fn eF [.ref k,.tup [.ref th,.ref bl,.str mn],.tup [.int i,.int f],.ref M] S Q:=by
 have y:Ex k S S:=by let#[a,b,c,hh]:=x.pot;show Ex.refl hh
 let kl:=x.lt
 have B:∀(r:Rw) (A:aE),r.Ok ⟨false,ths++da,ths,k8,gs,[]⟩ f->Ex k S A->Op (settle S r.d A) λp=>Q p.1 p.2:=λr A h1 e=>qS e kl (λk z=>by cases r <;>cases z) (eL r.low) λa b c=>h _ _ h1 x.set y.set (by simp)
 show cc ?_
 unfold iC
 symm
 show ee L (az (aR (az (aR (az (aR (bo ?_)))))))
 show aG (bE (cG (GJ (bQ (ax L (bF ht (je (cR (aw (dI (aI #[by show 1<=_;decide,#[L,L,ht,nQl (aL (by rw[lQm];show ths.length+1<=1000;omega))],?_])))))))))))
 have en:ths.map D.str++ [D.str "given"]=(ths++da).map D.str:=by rw[Qzq];rfl
 rw[en]
 have W:(S++ [O.lst ((ths++da).map D.str)])[S.length]?=some (.lst ((ths++da).map D.str)):=aS
 have a1:(S++ [O.lst ((ths++da).map D.str)])[th]?=some (.lst (ths.map D.str)):=aZ ht
 have a3:(S++ [O.lst ((ths++da).map D.str)])[bl]?=some (.lst (k8.map D.str)):=aZ hb
 have a0:(S++ [O.lst ((ths++da).map D.str)])[M]?=some (.lst (gs.map cu)):=aZ hg
 have e1:Ex k S (S++ [O.lst ((ths++da).map D.str)]):=y.app
 have nk:S.length≠k:=by omega
 generalize (S++ [O.lst ((ths++da).map D.str)])=S1 at W a1 a3 a0 e1|-
 generalize S.length=nl at W nk|-
 have ln:(ths++da).length<1000:=by rw[lQa];show ths.length+1<1000;omega
 symm
 show bH e1 (!1) (!1) λway S2 b0 N J b2=>?_
 let a9:=J.keep _ _ nk W
 let X:=J.keep _ _ h1 a1
 let F:=J.keep _ _ h2 a3
 let a2:=J.keep _ _ h3 a0
 have H:∀{deep:Nat} {R:Res->aE->Prop} {U:aE},deep<=2->Ex k S U->Ex k S2 U->(∀(t:Tr) (A:aE),Iv #[false,ths++da,ths,k8,gs,[]] t->Ex k S A->Ex k U A->R (.d t.d) A)->Fn (aY 3) [.ref k,.ref nl,.ref bl,.int deep] U R:=λ{deep R U} hd Z q hR=>
  AR 3 Z nk h2 (q.keep _ _ nk a9) (q.keep _ _ h2 F) ln (!0) (!0) λt A ok dp C o _=>hR t A #[ok,by omega] C o
 have y2:Ex k S2 S2:=by let#[a,b,c,hh]:=N.pot;show Ex.refl hh
 have Y:∀{Γ:cv} {R:D->aE->Prop},Γ[0]?=some (some (.ref k))->Γ[5]?=some (some (.ref bl))->0<k8.length->(∀(z:Str) (A:aE),z∈k8->Ex k S A->Ex k S2 A->R (.str z) A)->E (bf kc (au 5) (aA ay (ar (au 0) (ar (et (aP (au 5))) av)))) Γ S2 R:=λg0 g5 j hR=>
  jh g0 g5 N h2 F (by rw[lQm];show j) (by rw[lQm];omega) λv S4 P C o _=>by
   let#[z,K,rfl]:=Qkq.mp P
   show hR z S4 K C o
 show aG (iM (sL (DN (w:=(way:Int)) L) (AX L F)) (λI=>?_) λ_=>?_)
 ·let j:=nj (QCq _ _▸I).2
  apply dM (cb (aw (dI (aw (Y L L j λz U K Z q=>aw (bO ?_))))))
  apply H (deep:=1) (!1) Z q λt S4 s C _=>?_
  show⟨by show 3<=_;decide,?_⟩
  show B (.wait z t) _ ⟨rfl,K,s⟩ C
 show aG (iM (sL (DN (w:=(way:Int)) L) (AX L F)) (λI=>?_) λ_=>?_)
 ·let j:=nj (QCq _ _▸I).2
  symm
  show⟨by show 2<=_;decide,?_⟩
  symm
  apply iZ ?_
  obtain⟨z,K,c,a7,a6⟩:∃z:Str,(z="call" \/z="all")/\∃c:Int,intOfD [.bl (decide (mn="when free"))]=some (.int c)/\mi ([.str "call",.str "all"]:List D) c=some (.str z):=by
   by_cases c:mn="when free"
   ·show⟨"all",.inr L,1,by rw[Qeq c];rfl,L⟩
   ·show⟨"call",.inl L,0,by rw[Qdq c];rfl,L⟩
  show⟨_,a7,?_⟩
  apply cE aS a6 ?_
  show⟨by show 2<=_;decide,?_⟩
  symm
  let b1:=N.lt
  show bH ((N.app (G:= [O.lst [.str "call",.str "all"]])).app (G:= [O.lst [.str "call",.str z]])) (!1) (!1) λv U P Z q l3=>?_
  dsimp only[bM,bg,bN,cP,c7,hJ]
  obtain⟨u,hu,ha⟩:∃u:Str,(u="call" \/u="all")/\mi ([.str "call",.str z]:List D) (v:Int)=some (.str u):=by
   rcases(by omega:v=0\/v=1) with rfl|rfl
   ·show#["call",.inl L,L]
   ·show#[z,K,L]
  show cE (q.keep _ _ (by simp;omega) aS) ha ?_
  let a4:=q.keep _ _ h2 (aZ (aZ F))
  show dM (cb (aw (ax L (aw (jh L L Z h2 a4 (by rw[lQm];show j) (by rw[lQm];omega) λv S4 P C o _=>aI #[by show 2<=_;decide,?_])))))
  let#[b,hb,rfl]:=Qkq.mp P
  rcases hu with rfl|rfl
  ·show B (.call b) _ #[L,hb] C
  ·show B (.all b) _ #[L,hb] C
 show aG (iM (sL (DN (w:=(way:Int)) L) (AX L a2)) (λI=>?_) λ_=>?_)
 ·let j:=nj (QCq _ _▸I).2
  show aG (vQ (jh L L N h3 a2 (by rw[lQm];show j) (by rw[lQm];omega) λv S4 P C o _=>?_))
  let#[z,K,rfl]:=Qkq.mp P
  show ee L (az (aR (az (aR (bo ?_)))))
  apply aG (bE (Et L L C h1 (o.keep _ _ h1 X) l1 λg S5 a8 e5 a5 _=>?_))
  apply H (deep:=1) (!1) e5 (o.trans a5) λt S6 s e6 _=>?_
  show⟨by show 5<=_;decide,?_⟩
  show B (.do_ g z.1 z.2 t) _ ⟨a8,K,s⟩ e6
 show aG (iM (Aj (w:=(way:Int)) L) (λI=>?_) λ_=>?_)
 ·symm
  apply H (deep:=1) (!1) N y2 λt S6 s e6 _=>?_
  show⟨by show 2<=_;decide,?_⟩
  show B (.tell t) _ ⟨rfl,s⟩ e6
 show aG (iM (Aj (w:=(way:Int)) L) (λI=>?_) λ_=>?_)
 ·symm
  apply aB L ?_
  apply aB L ?_
  apply aB L ?_
  rw[show(f:Int)-(i:Int)=((f-i:Nat):Int) by omega]
  apply bH N (!0) (!0) λv U P Z q _=>?_
  rw[show(i:Int)+1+(v:Int)=((i+1+v:Nat):Int) by omega]
  show H (deep:=2) (!1) Z q λt S4 s C _=>?_
  show aw (dR (n:=3) (xs:= [.int (i+1+v:Nat),.int (i+1+v:Nat),.int 0]) L C (!1) (!1) L (by symm;show⟨rfl,L⟩) λd S5 hd e5 _ _=>?_)
  obtain⟨m,hm,rfl⟩:∃m:Nat,m<=f/\d=.int m:=by
   erw[Qsq,QXq,or_false] at hd
   rcases hd with rfl|rfl|rfl
   ·show#[i+1+v,by omega,L]
   ·show#[i+1+v,by omega,L]
   ·show#[0,by omega,L]
  symm
  show#[by show 3<=_;decide,?_]
  show B (.unl t m) _ #[s,hm] e5
 show aG (iM (Jw L X) (λI=>?_) λI=>?_)
 ·symm
  show#[by show 2<=_;decide,?_]
  show B (.tell (.word "given")) _ #[L,by show _∈ths++da;simp[da],by show 1<=4;decide] N
 have j:0<ths.length:=by
  cases ths with
  |nil=>cases I
  |cons a l=>simp
 show dM (cb (aw (dI (aw (jh L L N h1 X (by rw[lQm];show j) (by rw[lQm];omega) λv S4 P C o _=>aw (bO ?_))))))
 let#[z,K,rfl]:=Qkq.mp P
 symm
 apply H (deep:=2) (!1) C o λt S5 s e5 _=>?_
 show#[by show 3<=_;decide,?_]
 show B (.put z t) _ #[K,s] e5
def zN{S S0:aE}{k ow pa de i f:Nat}{s K:X6}{gs:List (Str×Str)}{Q:Res->aE->Prop}(x:Ex k S0 S)(M:ow≠k)(h2:pa≠k)(h3:de≠k)
  (ho:S[ow]?=some (.lst (s.map D.str))) (hp:S[pa]?=some (.lst (K.map D.str))) (hg:S[de]?=some (.lst (gs.map cu))) (l1:s.length<900) (l2:K.length<900) (l3:gs.length<900) (hr:i<f) (hs:f<1000)
  (h:∀(r:Rw) (u:aE),r.Ok #[true,s,s,[],gs,K] f->Ex k S0 u->Ex k S u->u.length=S.length->Q (.d r.d) u):
  Fn eK [.ref k,.ref ow,.ref pa,.tup [.int i,.int f],.ref de] S Q:=by
 have y:Ex k S S:=by let#[a,b,c,hh]:=x.pot;show Ex.refl hh
 let kl:=x.lt
 have B:∀(r:Rw) (u:aE),r.Ok ⟨true,s,s,[],gs,K⟩ f->Ex k S u->Op (settle S r.d u) λp=>Q p.1 p.2:=λr u M e=>qS e kl (λk z=>by cases r <;>cases z) (eL r.low) λa b c=>h _ _ M x.set y.set (by simp)
 show cc ?_
 unfold ix
 symm
 show bH y (!1) (!1) λway S2 b0 e2 a0 b3=>?_
 let U:=a0.keep _ _ M ho
 let a1:=a0.keep _ _ h2 hp
 let a2:=a0.keep _ _ h3 hg
 have y2:Ex k S2 S2:=by let#[a,b,c,hh]:=e2.pot;show Ex.refl hh
 have X:∀{deep:Nat} {R:Res->aE->Prop} {P:aE},deep<=2->Ex k S P->Ex k S2 P->(∀(t:Tr) (u:aE),Iv #[true,s,s,[],gs,K] t->Ex k S u->Ex k P u->R (.d t.d) u)->Fn (aY 3) [.ref k,.ref ow,.ref P.length,.int deep] (P++ [O.lst []]) R:=λ{deep R P} W Z C hR=>by
  have y3:Ex k P P:=by let#[a,b,c,hh]:=Z.pot;show Ex.refl hh
  let l3:=Z.lt
  show AR (bs:= []) 3 Z.app M (!0) (aZ (C.keep _ _ M U)) aS (!0) (!1) (!0) λt u ok dp I j _=>hR t u #[ok,by omega] I (y3.app.trans j)
 show aG (iM (sL (DN (w:=(way:Int)) L) (AX L a2)) (λY=>?_) λ_=>?_)
 ·let A:=nj (QCq _ _▸Y).2
  show aG (vQ (jh L L e2 h3 a2 (by rw[lQm];show A) (by rw[lQm];omega) λv J hv I j _=>?_))
  let#[z,hz,rfl]:=Qkq.mp hv
  show ee L (az (aR (az (aR (bo ?_)))))
  apply aG (bE (Et L L I M (j.keep _ _ M U) l1 λg S5 a7 H F _=>?_))
  show#[by show 0<=_;decide,?_]
  symm
  apply X (deep:=1) (!1) H (j.trans F) λt S6 G e6 _=>?_
  show#[by show 5<=_;decide,?_]
  show B (.do_ g z.1 z.2 t) _ #[a7,hz,G] e6
 show aG (iM (sL (DN (w:=(way:Int)) L) (AX L a1)) (λY=>?_) λ_=>?_)
 ·let A:=nj (QCq _ _▸Y).2
  show aG (EA (aw (jh L L e2 h2 a1 (by rw[lQm];show A) (by rw[lQm];omega) λv J hv I j _=>aw (jh L L I h2 (j.keep _ _ h2 a1) (by rw[lQm];show A) (by rw[lQm];omega) λv' S5 a6 H F _=>aI #[_,_,L,?_]))))
  let#[z,hz,rfl]:=Qkq.mp hv
  let#[z',a4,rfl]:=Qkq.mp a6
  show dM (dR (n:=3) (xs:= [(Rw.take z).d,(Rw.give z).d,(Rw.pass z z').d]) L H (!1) (!1) L ?_ λd S6 W e6 _ _=>?_)
  ·symm
   show⟨by show 2<=_;decide,?_⟩
   symm
   show⟨by show 2<=_;decide,?_⟩
   symm
   show⟨by show 3<=_;decide,?_⟩
   symm
   show⟨rfl,L⟩
  ·erw[Qsq,QXq,or_false] at W
   rcases W with rfl|rfl|rfl
   ·show B (.take z) _ ⟨rfl,hz⟩ e6
   ·show B (.give z) _ ⟨rfl,hz⟩ e6
   ·show B (.pass z z') _ ⟨rfl,hz,a4⟩ e6
 symm
 apply aB L ?_
 apply aB L ?_
 apply aB L ?_
 rw[show(f:Int)-(i:Int)=((f-i:Nat):Int) by omega]
 show bH e2 (!0) (!0) λv P hv Z C b1=>?_
 show jB ?_
 rw[show(i:Int)+1+(v:Int)=((i+1+v:Nat):Int) by omega]
 have a9:i+1+v<=f:=by omega
 let a5:=C.keep _ _ M U
 show aG (iM (Aj (w:=(way:Int)) L) (λY=>?_) λ_=>?_)
 ·symm
  show⟨by show 0<=_;decide,?_⟩
  symm
  show X (deep:=2) (!1) Z C λt J G I _=>?_
  show aw (dR (n:=3) (xs:= [.int (i+1+v:Nat),.int (i+1+v:Nat),.int 0]) L I (!1) (!1) L (by symm;show⟨rfl,L⟩) λd S5 W H _ _=>?_)
  obtain⟨m,hm,rfl⟩:∃m:Nat,m<=f/\d=.int m:=by
   erw[Qsq,QXq,or_false] at W
   rcases W with rfl|rfl|rfl
   ·show⟨i+1+v,by omega,L⟩
   ·show⟨i+1+v,by omega,L⟩
   ·show⟨0,by omega,L⟩
  symm
  show⟨by show 3<=_;decide,?_⟩
  show B (.unl t m) _ ⟨G,hm⟩ H
 show aG (iM (Aj (w:=(way:Int)) L) (λY=>?_) λ_=>?_)
 ·show dM (cb (aw (dI (aw (dR (n:=2) (xs:= [.int (i+1+v:Nat),.int 0]) L Z (!1) (!1) L (by symm;show⟨rfl,L⟩) λd S5 W H _ _=>aI ⟨by show 2<=_;decide,?_⟩)))))
  obtain⟨m,hm,rfl⟩:∃m:Nat,m<=f/\d=.int m:=by
   erw[Qsq,QXq,or_false] at W
   rcases W with rfl|rfl
   ·show#[i+1+v,by omega,L]
   ·show#[0,by omega,L]
  show B (.go m) _ hm H
 have a3:∀{J:aE} {N:cv},Ex k S J->Ex k S2 J->N[0]?=some (some (.ref k))->N[1]?=some (some (.ref ow))->T (cB (aW (ar (cF (.str "say")) (ar (aA (aY 3) (ar (au 0) (ar (au 1) (ar (bA (bq av)) (ar (cF (.int 1)) av))))) av)))) N J λo=>∃d u,o=.rt d u/\Op (settle S d u) λp=>Q p.1 p.2:=λ{J N} I j g0 g1=>by
  show dM (cb (aw (dI (aw (bO (aw (ax g0 (aw (ax g1 (aw (cG (cR (aI #[by show 0<=_;decide,aw (dI (aI ?_))])))))))))))))
  show X (deep:=1) (!1) I j λt S5 G H _=>?_
  show aI #[by show 2<=_;decide,_,_,L,?_]
  show B (.say t) _ #[L,G] H
 have a8:∀{J:aE} {N:cv},0<s.length->Ex k S J->Ex k S2 J->N[0]?=some (some (.ref k))->N[1]?=some (some (.ref ow))->T (cB (aW (ar (cF (.str "put")) (ar (bf kc (au 1) (aA ay (ar (au 0) (ar (et (aP (au 1))) av)))) (ar (aA (aY 3) (ar (au 0) (ar (au 1) (ar (bA (bq av)) (ar (cF (.int 2)) av))))) av))))) N J λo=>∃d u,o=.rt d u/\Op (settle S d u) λp=>Q p.1 p.2:=λ{J N} A I j g0 g1=>by
  show dM (cb (aw (dI (aw (jh g0 g1 I M (j.keep _ _ M U) (by rw[lQm];show A) (by rw[lQm];omega) λv S5 hv H F _=>aw (bO (aw (ax g0 (aw (ax g1 (aw (cG (cR (aI #[by show 0<=_;decide,aw (dI (aI ?_))]))))))))))))))
  let#[z,hz,rfl]:=Qkq.mp hv
  show X (deep:=2) (!1) H (j.trans F) λt S6 G e6 _=>?_
  show aI #[by show 3<=_;decide,_,_,L,?_]
  show B (.put z t) _ #[hz,G] e6
 show aG (fE (Cf ((Jw L a5).mono λb J qr=>?_)))
 let#[I,eb]:=qr
 subst I eb
 show bD (λY=>?_) (λY=>?_)
 ·rw[Qhq L]
  show(a3 Z C L L).mono λo ⟨d,u,e,q⟩=>by subst e;show q
 ·have A:0<s.length:=by
   cases s with
   |nil=>cases Y
   |cons a l=>simp
  symm
  apply bH Z (!1) (!1) λw S5 hw H F b2=>?_
  show fU ?_
  show bD (λ_=>?_) (λ_=>dg ?_)
  ·show(a3 H (C.trans F) L L).mono λo ⟨d,u,e,q⟩=>by subst e;show q
  ·show(a8 A H (C.trans F) L L).mono λo ⟨d,u,e,q⟩=>by subst e;show q
end W28
namespace DL
open L2
def Pl{a b:cv}{d:D}(h:a.set 0 none=b.set 0 none):a.set 0 (some d)=b.set 0 (some d):=by
 have:=congrArg (λc:cv=>c.set 0 (some d)) h
 simpa using this
def K5{g:cv}{S:aE}{js:List (Option Nat)}{f:d0}{e:bp}{Q:List D->aE->Prop}(F:D->D)(h:E f g S λp c=>p.2.stays c p.1/\p.1.length<=1000/\(∀d∈p.1,E e ((mE js g).set 0 (some d)) c λy S2=>y=F d/\S2=c)/\Q (p.1.map F) c):
  E (bx js (gQ f) (bB 0) bI e) g S Q:=by
 show gH (ja (h.mono λp c l=>?_))
 let#[m,hl,s,q]:=l
 show#[λn b i a=>i=c/\a=(p.1.take n).map F/\b.set 0 none=(mE js g).set 0 none,#[L,L,L],λn b i a h=>by rw[h.1];show m,λn d b i a j h=>?_,λb i a h=>?_]
 ·let#[rfl,rfl,h3]:=h
  show aR (fF ?_)
  rw[Qhq L,Pl h3]
  show(s d (mQg j)).mono λy S2 o=>?_
  let#[r,k]:=o
  subst r k
  let t:=(gQs.mp j).1
  show#[?_,L,?_,by simp]
  ·rw[lQm,Qxq]
   show aL (!0)
  ·rw[QYq,j]
   simp
 ·let#[rfl,rfl,_]:=h
  rw[QEq]
  show q
def MK{a:cv}{S:aE}{f:d0}{g:bp}{Q:List D->aE->Prop}(h:E f a S λp b=>E g a b λr S2=>∃n:Nat,r=.int n/\(p.2.isM=true/\p.2.stays S2 p.1/\p.1.length*n<=1000/\n<=1)/\Q ((List.replicate n p.1).flatten) S2):E (Eo f g) a S Q:=by
 let#[p,b,c,r,S2,d,n,rfl,#[h1,h2,h3,h4],q]:=h
 show#[_,S2,?_,q]
 unfold Eo
 rw[c]
 erw[Qbq]
 rw[d]
 erw[Qbq]
 rw[Qhq #[h1,h2,by omega,by omega,by simpa using QAq h3 (!1)]]
 simp
theorem MI{c:iE}{b:cH}{Q:Out->Prop}(I:Nat->cv->aE->Prop)(i:∀m a S,I m a S->E c a S λk f=>if k=true then∃e,m=e+1/\T b a f λo=>match o with|.nx d S2=>I e d S2|_=>False else Q (.nx a f)):
  ∀(n m:Nat) (a:cv) (S:aE),m<n->I m a S->T (Ay c b n) a S Q
 |0,_,_,_,h,_=>absurd h (Nat.not_lt_zero _)
 | n+1,m,a,S,h,hi=>by
   let#[k,f,g,q]:=i m a S hi
   cases k with
   |false=>show#[_,by erw[Ay];rw[g];rfl,q]
   | true=>
     let#[e,rfl,o,e2,q]:=(q:∃e,m=e+1/\T b a f _)
     cases o with
     | nx d S2=>
       let#[o,j,q]:=MI I i n e d S2 (!0) q
       show#[o,by erw[Ay];rw[g];erw[Qbq,if_true];rw[e2];show j,q]
     |_=>show q.elim
def cI{a:cv}{S:aE}{Q:Option Int->aE->Prop}(q:Q none S):E jP a S Q:=#[_,_,L,q]
def cJ{b:cv}{S:aE}{f:bp}{Q:Option Int->aE->Prop}(h:E f b S λd a=>∃i,d=.int i/\Q (some i) a):E (jJ f) b S Q:=by
 let#[d,a,c,i,rfl,q]:=h
 show#[_,a,by unfold jJ;rw[c];rfl,q]
def Ju{b:cv}{S:aE}{f:d0}{lo hi:Iu}{Q:List D->aE->Prop}(h:E f b S λp c=>E lo b c λl S2=>E hi b S2 λu a=>(p.2.isL=true/\p.2.stays a p.1)/\Q (fZ p.1 l u) a):E (uD f lo hi) b S Q:=by
 let#[p,c,d,l,S2,i,u,a,e,g,q]:=h
 show#[_,a,by unfold uD;rw[d];erw[Qbq];rw[i];erw[Qbq];rw[e];erw[Qbq];rw[Qhq g],q]
def KP{α:Type}{xs:List α}{i:Nat}(h:i<=xs.length):fZ xs (some (i:Int)) none=xs.drop i:=by
 unfold fZ
 have a:HT.dQ xs.length 0 (some (i:Int))=i:=by rw[HT.rJ];omega
 have b:HT.dQ xs.length xs.length none=xs.length:=rfl
 rw[a,b,List.take_of_length_le (by rw[List.length_drop];omega)]
def Lx{α:Type}{xs:List α}{i:Nat}:fZ xs none (some (i:Int))=xs.take i:=by
 unfold fZ
 have a:HT.dQ xs.length 0 none=0:=rfl
 have b:HT.dQ xs.length xs.length (some (i:Int))=min i xs.length:=HT.rJ ..
 rw[a,b,List.drop_zero,Nat.sub_zero]
 by_cases c:i<=xs.length
 ·rw[Nat.min_eq_left c]
 ·rw[Nat.min_eq_right (!0),QEq,List.take_of_length_le (!0)]
def yM{b:cv}{S:aE}{v i:Nat}{ws:X6}{f g:bp}{Q:List D->aE->Prop}(o:b[v]?=some (some (.ref i)))(r:S[i]?=some (.lst (ws.map D.str)))
  (h:E f b S λd e=>∃a:Nat,d=.int a/\a<=ws.length/\e[i]?=some (.lst (ws.map D.str))/\E g b e λj S2=>∃n:Nat,j=.int n/\Q (((ws.drop a).take n).map D.str) S2):
  E (uD (fg (uD (aP (au v)) (jJ f) jP)) jP (jJ g)) b S Q:=by
 show Ju (je (Ju (bQ (ax o (bF r (cJ (h.mono λd e ⟨a,m,p,c,k⟩=>#[a,m,cI #[#[L,c],?_]])))))))
 show cI (cJ (k.mono λj S2 ⟨n,l,q⟩=>#[n,l,#[L,trivial],?_]))
 show Q (fZ (fZ (ws.map D.str) (some (a:Int)) none) none (some (n:Int))) S2
 rw[KP (by simpa using p),Lx,<-List.map_drop,<-List.map_take]
 show q
end DL
namespace W28
open L2 DL
noncomputable def mH(p:Str×Nat):D:=.tup [.str p.1,.int p.2]
noncomputable def IK(p:Str×Str):D:=.tup [.str p.1,.str p.2]
noncomputable def iU(p:Str×List Rw):D:=.tup [.str p.1,.tup (p.2.map Rw.d)]
def Eh{q:cv}{S S0:aE}{k m:Nat}{it:uz}{Q:List D->aE->Prop}(P:List Str->Prop)(A:q.getD 0 none=some (.ref k))(J:0<m)(K:m<1000)
  (hi:E it q S λp l=>∃ws:List Str,P ws/\ws.length<=900/\p.1=ws.map D.str/\Ex k S0 l/\Ex k S l/\∀f,Ex k l f->p.2 f)
  (h:∀(ps:List (Str×Nat)) (f:aE),P (ps.map (·.1))->(∀p∈ps,p.2<m)->Ex k S0 f->Ex k S f->Q (ps.map mH) f):
  E (bx [none,some 0] it (bB 0) bI (aW (ar (au 0) (ar (aA ay (ar (au 1) (ar (cF (.int m)) av))) av)))) q S Q:=by
 show gH (hi.mono λp l F=>?_)
 let#[ws,H,hl,j,x,G,s]:=F
 have y:Ex k l l:=by let#[a,b,c,C]:=x.pot;show Ex.refl C
 show#[λn i f g=>∃(o:Option D) (ps:List (Str×Nat)),i= [o,some (.ref k)]/\Ex k S0 f/\Ex k l f/\ps.map (·.1)=ws.take n/\(∀p∈ps,p.2<m)/\g=ps.map mH,#[none,[],by show [none,q.getD 0 none]=_;rw[A],x,y,L,λ_ h=>(nomatch h),L],λn i f g ⟨_,_,_,_,e,_⟩=>s f e,?_,?_]
 ·rintro n d i f g t ⟨o,ps,rfl,e0,e1,h1,h2,rfl⟩
  rw[j,gQm] at t
  let#[z,w,rfl]:=oQm.mp t
  let M:=(gQs.mp w).1
  show aR (fF ?_)
  rw[Qhq L]
  symm
  apply bH e0 (!0) (!0) λv I N B r _=>?_
  show#[by show 2<=_;decide,?_]
  have u:ps.length=n:=by
   have:=congrArg List.length h1
   rw[lQm,Qxq] at this
   omega
  show#[by rw[lQm];show aL (!0),_,ps++ [(z,v)],L,B,e1.trans r,?_,λp j=>?_,by simp[mH]]
  ·rw[Qzq,h1,QYq,w]
   rfl
  ·rcases mQa.mp j with j|j
   ·show h2 p j
   ·rw[Qfq.mp j];show v<m;omega
 ·rintro i f g ⟨o,ps,rfl,e0,e1,h1,h2,rfl⟩
  rw[j,lQm,QEq] at h1
  show h ps f (by rw[h1];show H) h2 e0 (G.trans e1)
def Mt{r:cv}{S S0:aE}{k j l:Nat}{ws:X6}{Q:List D->aE->Prop}(x:Ex k S0 S)(A:r.getD 0 none=some (.ref k))(I:r[j]?=some (some (.ref l)))(hl:S[l]?=some (.lst (ws.map D.str)))(nl:l≠k)(u:ws.length<=900)
  (h:∀(ps:List (Str×Str)) (f:aE),ps.map (·.1)=ws->(∀p∈ps,p.2="row" \/p.2="turns")->Ex k S0 f->Ex k S f->Q (ps.map IK) f):
  E (bx [none,some 0] (gQ (aP (au j))) (bB 0) bI (aW (ar (au 0) (ar (bf kc (bA (bq (ar (cF (.str "row")) (ar (cF (.str "turns")) av)))) (aA ay (ar (au 1) (ar (cF (.int 2)) av)))) av)))) r S Q:=by
 have y:Ex k S S:=by let#[a,b,c,F]:=x.pot;show Ex.refl F
 show gH (ja (bQ (ax I (bF hl ?_))))
 show#[λn i f g=>∃(o:Option D) (ps:List (Str×Str)),i= [o,some (.ref k)]/\Ex k S0 f/\Ex k S f/\ps.map (·.1)=ws.take n/\(∀p∈ps,p.2="row" \/p.2="turns")/\g=ps.map IK,#[none,[],by show [none,r.getD 0 none]=_;rw[A],x,y,L,λ_ h=>(nomatch h),L],λn i f g ⟨_,_,_,_,e,_⟩=>e.keep _ _ nl hl,?_,?_]
 ·rintro n d i f g t ⟨o,ps,rfl,e0,e1,h1,h2,rfl⟩
  rw[gQm] at t
  let#[z,w,rfl]:=oQm.mp t
  let M:=(gQs.mp w).1
  show aR (fF ?_)
  rw[Qhq L]
  symm
  show⟨by show 2<=_;decide,?_⟩
  symm
  let P:=e0.lt
  show bH (e0.app (G:= [O.lst [.str "row",.str "turns"]])) (!1) (!1) λv K N B m _=>?_
  dsimp only[bM,bg,bN,cP,c7,hJ]
  obtain⟨s,H,J⟩:∃s:Str,(s="row" \/s="turns")/\mi ([.str "row",.str "turns"]:List D) (v:Int)=some (.str s):=by
   rcases(by omega:v=0\/v=1) with rfl|rfl
   ·show#["row",.inl L,L]
   ·show#["turns",.inr L,L]
  apply cE (m.keep _ _ (!0) aS) J ?_
  show#[by show 2<=_;decide,?_]
  have C:ps.length=n:=by
   have:=congrArg List.length h1
   rw[lQm,Qxq] at this
   omega
  show#[by rw[lQm];show aL (!0),_,ps++ [(z,s)],L,B,e1.app.trans m,?_,λp q=>?_,by simp[IK]]
  ·rw[Qzq,h1,QYq,w]
   rfl
  ·rcases mQa.mp q with q|q
   ·show h2 p q
   ·rw[Qfq.mp q];show H
 ·rintro i f g ⟨o,ps,rfl,e0,e1,h1,h2,rfl⟩
  show h ps f (by rw[h1];simp) h2 e0 e1
def Rw.Ok.sub{a:Bool}{ws ps bs ts:X6}{gs b:List (Str×Str)}{n:Nat}{r:Rw}(h:r.Ok #[a,ws,ps,bs,gs,ts] n)(c:∀g∈gs,g∈b):r.Ok #[a,ws,ps,bs,b,ts] n:=by
 cases r with
 |do_ g r d t=>show#[h.1,c _ h.2.1,h.2.2]
 |_=>show h
def yR.sub{a:Bool}{ws ps bs ts:X6}{gs b:List (Str×Str)}{rs:List Rw}(h:yR #[a,ws,ps,bs,gs,ts] rs)(d:∀g∈gs,g∈b):yR #[a,ws,ps,bs,b,ts] rs:=λr c=>(h r c).sub d
structure Rm where
 name:Str
 ah:Str
 ao:List (Str×Nat)
 aa:List (Str×Str)
 ae:List (Str×List Rw)
noncomputable def Rm.d(r:Rm):D:=.tup [.str r.name,.str r.ah,.tup (r.ao.map mH),.tup (r.aa.map IK),.tup (r.ae.map iU)]
structure AC(gs:List (Str×Str))(r:Rm):Prop where
 mn:r.ah="at once" \/r.ah="when free"
 tv:∀p∈r.ao,p.2<=9
 l1:r.ao.length<=6
 l2:r.aa.length<=6
 l3:r.ae.length<=6
 bv:∀p∈r.aa,p.2="row" \/p.2="turns"
 pr:∀p∈r.ae,yR #[false,r.ao.map (·.1)++da,r.ao.map (·.1),r.aa.map (·.1),gs,[]] p.2/\p.2.length<=12
def Gy(p:Str×List Rw):cn 0 (iU p)=true:=by
 erw[iU,cn,bP,Bool.and_true,Bool.true_and]
 show a_ λr _=>r.low
def Rm.low(r:Rm):cn 0 r.d=true:=by
 erw[Rm.d,cn,bP,Bool.and_true,Bool.true_and,QCq]
 show#[a_ λ_ _=>rfl,a_ λ_ _=>rfl,a_ λp _=>Gy p]
noncomputable def bG(rs:List Rm):List (Str×Str):=rs.flatMap λr=>r.ae.map λp=>(r.name,p.1)
def AC.sub{gs a:List (Str×Str)}{r:Rm}(h:AC gs r)(c:∀g∈gs,g∈a):AC a r:={h with pr:=λp b=>#[(h.pr p b).1.sub c,(h.pr p b).2]}
end W28
namespace DL
open L2
def B1{c:cv}{S:aE}{f:bp}{g:d0}{Q:D->aE->Prop}(h:E f c S λx b=>∃k a,x=.ref k/\b[k]?=some (.lst a)/\E g c b λp S2=>∃ds,S2[k]?=some (.lst ds)/\(p.2.isM=true/\ds.length+p.1.length<=sizeLine)/\Q .non (S2.set k (.lst (ds++p.1)))):E (wg f g) c S Q:=by
 let#[x,b,d,k,a,rfl,h1,p,S2,e2,ds,h2,h3,q]:=h
 show#[_,_,by unfold wg;rw[d];erw[Qbq,e2,h1,h2];rw[Qhq h3],q]
def rX{b:Bool}{Q:D->Prop}(q:Q (.int (if b then 1 else 0))):Op (intOfD [.bl b]) Q:=#[_,L,q]
def du{j:Nat}{n:Nat}{d:D}(h:(iG 0 (j:Int))[n]?=some d):d=.int n/\n<j:=by
 erw[iG,gQm] at h
 let#[i,c,rfl]:=oQm.mp h
 let#[b,a]:=gQs.mp c
 simp at b a
 subst a
 show#[by simp,by omega]
def dF{j:Nat}:(iG 0 (j:Int)).length=j:=by erw[iG,lQm,QVq];omega
end DL
namespace W28
open L2 DL
noncomputable def fV(p:List (Str×Nat)×List Rw):D:=.tup [.tup (p.1.map mH),.tup (p.2.map Rw.d)]
structure cx where
 aj:List Rm
 ai:List (Str×Nat)
 ak:List (Str×Nat)
 af:List (List (Str×Nat)×List Rw)
noncomputable def cx.d(w:cx):D:=.tup [.tup (w.aj.map Rm.d),.tup (w.ai.map mH),.tup (w.ak.map mH),.tup (w.af.map fV)]
structure xN(gs:List (Str×Str))(ak ai:X6)(h:List (Str×Nat)×List Rw):Prop where
 tv:∀p∈h.1,p.2<=9
 l1:h.1.length<=6
 l2:h.2.length<=9
 l0:0<h.2.length
 pr:yR #[true,h.1.map (·.1)++ak,h.1.map (·.1)++ak,[],gs,ai] h.2
structure cA(w:cx):Prop where
 nd:(w.aj.map (·.name)).Nodup
 l1:w.aj.length<=4
 l2:w.ai.length<=6
 l3:w.ak.length<=6
 l4:w.af.length<=4
 l0:0<w.af.length
 pv:∀p∈w.ai,p.2<=9
 sv:∀p∈w.ak,p.2<=9
 rm:∀r∈w.aj,AC (bG w.aj) r
 hd:∀h∈w.af,xN (bG w.aj) (w.ak.map (·.1)) (w.ai.map (·.1)) h
def Eg(p:List (Str×Nat)×List Rw):cn 0 (fV p)=true:=by
 erw[fV,cn,bP,Bool.and_true,Bool.true_and,QCq]
 show#[a_ λ_ _=>rfl,a_ λr _=>r.low]
def cx.low(w:cx):cn 0 w.d=true:=by
 erw[cx.d,cn,bP,Bool.and_true,Bool.true_and,QCq]
 show#[a_ λr _=>r.low,a_ λ_ _=>rfl,a_ λ_ _=>rfl,a_ λp _=>Eg p]
def u9{rs:List Rm}(b:∀r∈rs,r.ae.length<=6):(bG rs).length<=6*rs.length:=by
 induction rs with
 |nil=>simp[bG]
 | cons a l c=>
   have:=c λr d=>b r (Qpq _ d)
   have:=b a (QBq ..)
   erw[bG,QSq,lQa,lQm,Qnq] at *
   omega
structure Fr(L:List Nat)(S S':aE):Prop where
 len:S.length<=S'.length
 keep:∀j o,j∉L->S[j]?=some o->S'[j]?=some o
def Fr.trans{L:List Nat}{S c S2:aE}(a:Fr L S c)(b:Fr L c S2):Fr L S S2:=#[QAq a.len b.len,λj o h e=>b.keep j o h (a.keep j o h e)]
def Fr.mono{L M:List Nat}{S b:aE}(a:Fr L S b)(h:∀j∈L,j∈M):Fr M S b:=#[a.len,λj o c e=>a.keep j o (λz=>c (h j z)) e]
def Fr.ex{k:Nat}{L:List Nat}{S b:aE}(a:Ex k S b)(c:k∈L):Fr L S b:=#[a.len,λj o d e=>a.keep j o (λz=>d (z▸c)) e]
def Fr.set{L:List Nat}{S:aE}{r:Nat}{o:O}(h:r∈L):Fr L S (S.set r o):=#[by simp,λj b a e=>fJ (λz=>a (z▸h)) e]
def Fr.app{L:List Nat}{S G:aE}:Fr L S (S++G):=#[by simp,λ_ _ _ e=>aZ e]
def Fw:cH:=(aD (aV 14 (bf bS (cF (.int 1)) (aA ay (ar (au 0) (ar (cF (.int 3)) av))))) (aD (aV 15 (bA (Eo (aP (au 5)) (Cu intOfD (ar (bf (gq false) (au 13) (cF (.int 0))) av))))) (aD (aV 16 (bA (bx [none,some 0,some 9,some 10,some 11,some 14,some 15] (iH (au 14)) (bB 0) bI (aA eF (ar (au 1) (ar (aW (ar (au 2) (ar (au 3) (ar (au 4) av)))) (ar (aW (ar (au 0) (ar (au 5) av))) (ar (au 6) av)))))))) (rj (Ad lg (au 12) (ar (aW (ar (bf kc (au 2) (bf bS (cF (.int 8)) (au 13))) (ar (tupQ (dq (aP (au 16)))) av))) av))))))
def Jx:cH:=(aD (aV 9 (bA (uD (fg (uD (aP (au 2)) (jJ (cF (.int 12))) jP)) jP (jJ (aA ay (ar (au 0) (ar (cF (.int 3)) av))))))) (aD (aV 10 (bA (uD (fg (uD (aP (au 2)) (jJ (bf kc (bA (bq (ar (cF (.int 0)) (ar (cF (.int 16)) av)))) (aA ay (ar (au 0) (ar (cF (.int 2)) av))))) jP)) jP (jJ (bf kc (bA (bq (ar (cF (.int 1)) (ar (cF (.int 0)) (ar (cF (.int 1)) (ar (cF (.int 2)) av)))))) (aA ay (ar (au 0) (ar (cF (.int 4)) av)))))))) (aD (aV 11 (bf kc (bA (bq (ar (cF (.str "at once")) (ar (cF (.str "when free")) av)))) (aA ay (ar (au 0) (ar (cF (.int 2)) av))))) (aD (aV 12 (bA (bq av))) (aD (ie (iH (bf kc (au 4) (au 6))) (bB 13) Fw) (aD (rj (wg (au 8) (fg (bx [none,some 2,some 6] (gQ (aP (au 12))) (bB 0) bI (aW (ar (bf kc (au 1) (au 2)) (ar (bf kc (au 0) (cF (.int 0))) av))))))) (aD (aV 17 (tupQ (fg (bx [none,some 0] (gQ (aP (au 9))) (bB 0) bI (aW (ar (au 0) (ar (aA ay (ar (au 1) (ar (cF (.int 3)) av))) av))))))) (aD (aV 18 (tupQ (fg (bx [none,some 0] (gQ (aP (au 10))) (bB 0) bI (aW (ar (au 0) (ar (bf kc (bA (bq (ar (cF (.str "row")) (ar (cF (.str "turns")) av)))) (aA ay (ar (au 1) (ar (cF (.int 2)) av)))) av))))))) (rj (Ad lg (au 7) (ar (aW (ar (bf kc (au 2) (au 6)) (ar (au 11) (ar (au 17) (ar (au 18) (ar (tupQ (dq (aP (au 12)))) av)))))) av)))))))))))
def Jk:cH:=(aD (aV 22 (bA (uD (fg (uD (aP (au 2)) (jJ (cF (.int 22))) jP)) jP (jJ (aA ay (ar (au 0) (ar (cF (.int 2)) av))))))) (aD (aV 14 (bf bS (cF (.int 1)) (aA ay (ar (au 0) (ar (au 1) av))))) (aD (aV 23 (bA (w_ (aP (au 22)) (fg (bx [none,none] (gQ (aP (au 20))) (iy (nG 2 (aH (bB 0) (aH (bB 1) di)))) bI (au 0)))))) (aD (aV 16 (bA (bx [none,some 0,some 8,some 14,some 19,some 23] (iH (au 14)) (bB 0) bI (aA eK (ar (au 1) (ar (au 5) (ar (bA (bx [none,none] (gQ (aP (au 4))) (iy (nG 2 (aH (bB 0) (aH (bB 1) di)))) bI (au 0))) (ar (aW (ar (au 0) (ar (au 3) av))) (ar (au 2) av))))))))) (rj (Ad lg (au 21) (ar (aW (ar (tupQ (fg (bx [none] (gQ (aP (au 22))) (bB 0) bI (aW (ar (au 0) (ar (cF (.int 0)) av)))))) (ar (tupQ (dq (aP (au 16)))) av))) av)))))))
section
variable{S S0:aE}{k most j i K F M N le C t f e:Nat}{ws ths k8:X6}{gs:List (Str×Str)}{H:Str}{ds:List (Str×List Rw)}{I G J q l w B s A u:Option D}
def Hu{Q:Out->Prop}(x:Ex k S0 S)(hl:S0.length<=f)(hk:k<S0.length)(n1:j≠k)(n2:F≠k)(n3:C≠k)(n4:t≠k)(n5:j≠f)(hW:S[j]?=some (.lst (ws.map D.str)))(hI:S[F]?=some (.lst (gs.map cu)))(hT:S[C]?=some (.lst (ths.map D.str)))(hB:S[t]?=some (.lst (k8.map D.str)))(hD:S[f]?=some (.lst (ds.map iU)))
  (b7:ws.length=24) (l1:ths.length<900) (l2:k8.length<900) (l3:gs.length<900) (l4:ds.length<900) (ha:e<8)
  (h:∀(p:Str×List Rw) (W:aE) (b3 b1 b2:Option D),ws[8+e]?=some p.1->yR #[false,ths++da,ths,k8,gs,[]] p.2->p.2.length<=12->W[f]?=some (.lst ((ds++ [p]).map iU))->Ex k S0 W->Fr [k,f] S W->
   Q (.nx [some (.ref k),some (.int most),some (.ref j),some (.int i),some (.ref K),some (.ref F),some (.int M),some (.ref N),some (.ref le),some (.ref C),some (.ref t),some (.str H),some (.ref f),some (.int e),b3,b1,b2,q,l,w,B,s,A,u] W)):
  T Fw [some (.ref k),some (.int most),some (.ref j),some (.int i),some (.ref K),some (.ref F),some (.int M),some (.ref N),some (.ref le),some (.ref C),some (.ref t),some (.str H),some (.ref f),some (.int e),I,G,J,q,l,w,B,s,A,u] S Q:=by
 have y:Ex k S S:=by let#[a,b,c,hh]:=x.pot;show Ex.refl hh
 unfold Fw
 symm
 show bH x (!1) (!1) λv X hv e1 a3 _=>?_
 show jB ?_
 rw[show(1:Int)+(v:Int)=((1+v:Nat):Int) by omega]
 let a4:=a3.keep _ _ n2 hI
 show aG (bE (cG (MK (bQ (ax L (bF a4 (Mj (aw (b_ (ax L (dI (fU (aI (rX ?_))))))))))))))
 obtain⟨m,hm,b4⟩:∃m:Nat,m<=1/\(D.int (if decide ((e:Int)=0)=true then 1 else 0))=.int m:=by
  by_cases c:(e:Int)=0
  ·show⟨1,Qmq _,by rw[Qeq c];rfl⟩
  ·show⟨0,by decide,by rw[Qdq c];rfl⟩
 show⟨m,b4,⟨rfl,a4,by rw[lQm];have:gs.length*m<=gs.length*1:=Nat.mul_le_mul_left _ hm;omega,hm⟩,?_⟩
 obtain⟨R,a8,a6,a9⟩:∃R:List (Str×Str),(List.replicate m (gs.map cu)).flatten=R.map cu/\(∀g∈R,g∈gs)/\R.length<900:=by
  rcases(by omega:m=0\/m=1) with rfl|rfl
  ·show#[[],L,λ_ h=>(nomatch h),by decide]
  ·show#[gs,by simp,λ_ h=>h,l3]
 rw[a8]
 let b8:=e1.lt
 have e2:Ex k S0 (X++ [O.lst (R.map cu)]):=e1.app
 have U:Ex k S (X++ [O.lst (R.map cu)]):=a3.app
 have a0:(X++ [O.lst (R.map cu)])[X.length]?=some (.lst (R.map cu)):=aS
 have nh:X.length≠k:=by omega
 have lH:S.length<=X.length:=a3.len
 generalize (X++ [O.lst (R.map cu)])=S2 at e2 U a0|-
 generalize X.length=lh at a0 nh lH|-
 show aG (bE (cG (gH (il (ax L #[((1+v:Nat):Int),L,by omega,?_])))))
 have y2:Ex k S2 S2:=by let#[a,b,c,hh]:=e2.pot;show Ex.refl hh
 show#[λn Z W a1=>(∃o,Z= [o,some (.ref k),some (.ref C),some (.ref t),some (.str H),some (.int (1+v:Nat)),some (.ref lh)])/\∃P:List Rw,P.length=n/\(∀r∈P,r.Ok #[false,ths++da,ths,k8,R,[]] (1+v))/\a1=P.map Rw.d/\Ex k S0 W/\Ex k S2 W,#[#[none,L],[],L,λ_ h=>(nomatch h),L,e2,y2],λ_ _ _ _ _=>trivial,?_,?_]
 ·rintro n d Z W a1 hd ⟨⟨o,rfl⟩,P,hn,hok,rfl,e3,e3'⟩
  let#[rfl,hnv]:=du hd
  show aR (fF ?_)
  rw[Qhq L]
  symm
  show⟨by show 3<=_;decide,?_⟩
  symm
  show⟨by show 2<=_;decide,?_⟩
  symm
  show yZ e3 n3 n4 nh (e3'.keep _ _ n3 (U.keep _ _ n3 hT)) (e3'.keep _ _ n4 (U.keep _ _ n4 hB)) (e3'.keep _ _ nh a0) l1 l2 a9 hnv (!0) λr S4 b6 e4 a7 _=>?_
  show⟨by rw[lQm];show aL (!0),⟨_,L⟩,P++ [r],by simp[hn],λz hz=>?_,by simp,e4,e3'.trans a7⟩
  rcases mQa.mp hz with hz|hz
  ·show hok z hz
  ·rw[Qfq.mp hz];show b6
 rintro Z S3 a1 ⟨-,P,hn,hok,rfl,e3,e3'⟩
 rw[dF] at hn
 have Y:Ex k S S3:=U.trans e3'
 have a2:S3[f]?=some (.lst (ds.map iU)):=Y.keep _ _ (!0) hD
 have b5:S3[j]?=some (.lst (ws.map D.str)):=Y.keep _ _ n1 hW
 show kE (wN (ax L ⟨_,_,L,aZ a2,?_⟩))
 show aw (cb (aw (b_ (ax L (b_ (dI (ax L (jB ?_))))))))
 obtain⟨nm,a5⟩:∃nm,ws[8+e]?=some nm:=#[_,gQe (!0)]
 rw[show(8:Int)+(e:Int)=((8+e:Nat):Int) by omega]
 show cE (aZ b5) (aQ (by rw[gQm,a5];rfl)) ?_
 show aw (eS (d_ (bQ (ax L (bF aS #[L,aI #[by show 2<=_;decide,aI #[_,aZ a2,j0 (aL (by rw[lQm];omega)) ?_]]])))))
 have b0:Fr [k,f] S ((S3++ [O.lst (P.map Rw.d)]).set f (.lst (ds.map iU++ [iU (nm,P)]))):=(Fr.ex Y (by simp)).trans (Fr.app.trans (Fr.set (by simp)))
 show h (nm,P) _ _ _ _ a5 (λr hr=>?_) (by show P.length<=12;omega) (by rw[fc (aZ a2),Qzq];rfl) (e3.app.put hl hk) b0
 have:=hok r hr
 rw[show 1+v=P.length from hn.symm] at this
 show Rw.Ok.sub this a6
end
end W28
namespace DL
open L2
def wo{α:Type}{o:cv}{S:aE}{js:List (Option Nat)}{f:d0}{g:mv}{k:bp}{Q:List D->aE->Prop}(P:cv->Prop)(enc G:α->D)(t:P (mE js o)) (h:E f o S λp i=>∃xs:List α,p.1=xs.map enc/\p.2.stays i p.1/\xs.length<=1000∧
   (∀x∈xs,∀a,P a->Tg g (enc x) a i λc S2=>S2=i/\P c/\E k c i λy s=>y=G x/\s=i)/\Q (xs.map G) i):E (bx js (gQ f) g bI k) o S Q:=by
 show gH (ja (h.mono λp i v=>?_))
 let#[xs,r,w,hl,C,q]:=v
 show#[λn a m b=>m=i/\b=(xs.take n).map G/\P a,#[L,L,t],λn a m b h=>by rw[h.1];show w,λn d a m b l h=>?_,λa m b h=>?_]
 ·let#[rfl,rfl,h3]:=h
  have l:p.1[n]?=some d:=l
  rw[r,gQm] at l
  let#[x,j,rfl]:=oQm.mp l
  let#[c,S2,A,rfl,h4,h5]:=C x (mQg j) a h3
  show#[c,S2,A,fF ?_]
  rw[Qhq L]
  show h5.mono λy s z=>?_
  let#[u,B]:=z
  subst u B
  let F:=(gQs.mp j).1
  show#[?_,L,?_,h4]
  ·rw[lQm,Qxq]
   show aL (!0)
  ·rw[QYq,j]
   simp
 ·let#[rfl,rfl,_]:=h
  have e:p.1.length=xs.length:=by rw[r,lQm]
  show Q ((xs.take p.1.length).map G) _
  rw[e,QEq]
  show q
end DL
namespace W28
open L2 DL
def Fr.fresh{k r:Nat}{S d S2:aE}(a:Fr [k] S d)(b:Fr [k,r] d S2)(h:S.length<=r):Fr [k] S S2:=⟨QAq a.len b.len,λj o c e=>by
 let hl:=(gQs.mp e).1
 have f:j≠k:=by simpa using c
 show b.keep j o (by simp;omega) (a.keep j o c e)⟩
noncomputable def mW(s:Nat):D:=.int s
section
variable{S S0:aE}{k most l i F B o g le:Nat}{ws:X6}{G:List Nat}{gs f:List (Str×Str)}{rs:List Rm}{R P H M N J I K C A u w s v t:Option D}
def GV{Q:Out->Prop}{sz:Nat}(x:Ex k S0 S)(hk:k<S0.length)(h4:S0.length<=g)(f2:S0.length<=le)(f7:g≠le)(n1:l≠k)(n2:F≠k)(n3:B≠k)(l1:l≠g)(k7:l≠le)(hW:S[l]?=some (.lst (ws.map D.str)))(hZ:S[F]?=some (.lst (G.map mW)))(hI:S[B]?=some (.lst (gs.map cu)))
  (hR:S[g]?=some (.lst (rs.map Rm.d))) (hE:S[le]?=some (.lst (f.map cu))) (f3:ws.length=24) (hsz:G[o]?=some sz) (j1:sz<=2) (l3:gs.length<900) (l4:rs.length<900) (l5:f.length<900) (i2:o<4)
  (h:∀(r:Rm) (S':aE) (b9 g5 f8 i0 a2 Z W Y g1 g2:Option D),ws[o]?=some r.name->r.ae.map (·.1)=(ws.drop 8).take sz->AC gs r->S'[g]?=some (.lst ((rs++ [r]).map Rm.d))->S'[le]?=some (.lst ((f++r.ae.map λp=>(r.name,p.1)).map cu))->Ex k S0 S'->Fr [k,g,le] S S'->
   Q (.nx [some (.ref k),some (.int most),some (.ref l),some (.int i),some (.ref F),some (.ref B),some (.int o),some (.ref g),some (.ref le),b9,g5,f8,i0,a2,Z,W,Y,g1,g2,u,w,s,v,t] S')):
  T Jx [some (.ref k),some (.int most),some (.ref l),some (.int i),some (.ref F),some (.ref B),some (.int o),some (.ref g),some (.ref le),R,P,H,M,N,J,I,K,C,A,u,w,s,v,t] S Q:=by
 have y:Ex k S S:=by let#[a,b,c,hh]:=x.pot;show Ex.refl hh
 let kS:=x.lt
 let k3:=(gQs.mp hR).1
 let qL:=(gQs.mp hE).1
 let i5:=(gQs.mp hW).1
 let l2:=(gQs.mp hZ).1
 let k5:=(gQs.mp hI).1
 unfold Jx
 show aG (bE (cG (yM L hW (dI ⟨12,L,by omega,hW,bO (aw (ax L (aw (dI (aI ?_)))))⟩))))
 show bH x (!1) (!1) λv1 S1 j4 e1 f0 _=>⟨v1,L,?_⟩
 obtain⟨ths,a6⟩:∃ths:List Str,(ws.drop 12).take v1=ths:=⟨_,L⟩
 have l0:ths.length<=2:=by rw[<-a6,Qxq];omega
 rw[a6]
 have e2:Ex k S0 (S1++ [O.lst (ths.map D.str)]):=e1.app
 have a7:Ex k S (S1++ [O.lst (ths.map D.str)]):=f0.app
 have a4:(S1++ [O.lst (ths.map D.str)])[S1.length]?=some (.lst (ths.map D.str)):=aS
 have f1:S.length<=S1.length:=f0.len
 generalize (S1++ [O.lst (ths.map D.str)])=S2 at e2 a7 a4|-
 generalize S1.length=lt at a4 f1|-
 have nt:lt≠k:=by omega
 let i1:=(gQs.mp a4).1
 let d4:=a7.keep _ _ n1 hW
 show aG (bE (cG (yM L d4 ?_)))
 show dR (n:=2) (xs:= [.int 0,.int 16]) L e2 (!1) (!1) L (by symm;show⟨rfl,L⟩) λd S3 hd e3 b2 _=>?_
 obtain⟨b0,k2,rfl⟩:∃b0:Nat,b0<=16/\d=.int b0:=by
  erw[Qsq,QXq,or_false] at hd
  rcases hd with rfl|rfl
  ·show⟨0,by omega,L⟩
  ·show⟨16,by omega,L⟩
 show⟨b0,L,by omega,b2.keep _ _ n1 d4,?_⟩
 show dR (n:=4) (xs:= [.int 1,.int 0,.int 1,.int 2]) L e3 (!1) (!1) L (by symm;show⟨rfl,L⟩) λd S4 hd e4 c3 _=>?_
 obtain⟨b1,l9,rfl⟩:∃b1:Nat,b1<=2/\d=.int b1:=by
  erw[Qsq,QXq,or_false] at hd
  rcases hd with rfl|rfl|rfl|rfl
  ·show⟨1,by omega,L⟩
  ·show⟨0,by omega,L⟩
  ·show⟨1,by omega,L⟩
  ·show⟨2,by omega,L⟩
 show⟨b1,L,?_⟩
 obtain⟨k8,a5⟩:∃k8:List Str,(ws.drop b0).take b1=k8:=⟨_,L⟩
 have j5:k8.length<=2:=by rw[<-a5,Qxq];omega
 rw[a5]
 have e5:Ex k S0 (S4++ [O.lst (k8.map D.str)]):=e4.app
 have b4:Ex k S2 (S4++ [O.lst (k8.map D.str)]):=(b2.trans c3).app
 have b6:(S4++ [O.lst (k8.map D.str)])[S4.length]?=some (.lst (k8.map D.str)):=aS
 have h2:S2.length<=S4.length:=(b2.trans c3).len
 generalize (S4++ [O.lst (k8.map D.str)])=S5 at e5 b4 b6|-
 generalize S4.length=lb at b6 h2|-
 have nb:lb≠k:=by omega
 let h6:=b4.keep _ _ nt a4
 show aG (bE (dR (n:=2) (xs:= [.str "at once",.str "when free"]) L e5 (!1) (!1) L (by symm;show⟨rfl,L⟩) λd S6 hd e6 b7 _=>?_))
 obtain⟨mn,f9,rfl⟩:∃mn:Str,(mn="at once" \/mn="when free")/\d=.str mn:=by
  erw[Qsq,QXq,or_false] at hd
  rcases hd with rfl|rfl
  ·show#["at once",.inl L,L]
  ·show#["when free",.inr L,L]
 show aG (bE (cG (cR (aI #[by show 0<=_;decide,?_]))))
 have c4:Ex k S S6:=(a7.trans b4).trans b7
 let d3:=b7.keep _ _ nb b6
 let d1:=b7.keep _ _ nt h6
 let h9:=(gQs.mp d3).1
 let h3:=(gQs.mp d1).1
 let h1:=c4.len
 have b3:Fr [k] S (S6++ [O.lst []]):=(Fr.ex c4 (by simp)).trans Fr.app
 have e7:Ex k S0 (S6++ [O.lst []]):=e6.app
 have d8:(S6++ [O.lst []])[lb]?=some (.lst (k8.map D.str)):=aZ d3
 have d2:(S6++ [O.lst []])[lt]?=some (.lst (ths.map D.str)):=aZ d1
 have a8:(S6++ [O.lst []])[S6.length]?=some (.lst (([]:List (Str×List Rw)).map iU)):=aS
 let m0:=x.len
 generalize (S6++ [O.lst []])=S7 at b3 e7 d8 d2 a8|-
 generalize S6.length=ld at a8 h1 h9 h3|-
 have kn:∀{j:Nat},j≠k->j∉[k]:=λh z=>h (Qfq.mp z)
 let g3:=b3.keep _ _ (kn n2) hZ
 show aG (fP (il (b_ (ax L (ax L (cE g3 (aQ (by rw[gQm,hsz];rfl)) #[(sz:Int),L,by omega,?_]))))))
 show#[λj X S'=>(∃a2 Z W Y,X= [some (.ref k),some (.int most),some (.ref l),some (.int i),some (.ref F),some (.ref B),some (.int o),some (.ref g),some (.ref le),some (.ref lt),some (.ref lb),some (.str mn),some (.ref ld),a2,Z,W,Y,C,A,u,w,s,v,t])/\∃U:List (Str×List Rw),U.map (·.1)=(ws.drop 8).take j/\(∀p∈U,yR #[false,ths++da,ths,k8,gs,[]] p.2/\p.2.length<=12)/\S'[ld]?=some (.lst (U.map iU))/\S'[lb]?=some (.lst (k8.map D.str))/\S'[lt]?=some (.lst (ths.map D.str))/\Ex k S0 S'/\Fr [k] S S',#[#[_,_,_,_,L],[],L,λ_ h=>(nomatch h),a8,d8,d2,e7,b3],λ_ _ _ _=>trivial,?_,?_]
 ·rintro j d X S' hd ⟨⟨a2,Z,W,Y,rfl⟩,U,hnm,hpr,hD,hB,hT,ex,fr⟩
  let#[rfl,hj]:=du hd
  have g0:U.length=j:=by
   have:=congrArg List.length hnm
   rw[lQm,Qxq,List.length_drop] at this
   omega
  show aR ?_
  show Hu (gs:=gs) (ths:=ths) (k8:=k8) ex (!0) hk n1 n3 nt nb (!0) (fr.keep _ _ (kn n1) hW) (fr.keep _ _ (kn n3) hI) hT hB hD f3 (!0) (!0) l3 (!0) (!0) λp k6 Z W Y hp d9 g4 c9 c2 a0=>?_
  show⟨⟨_,_,_,_,L⟩,U++ [p],?_,λq hq=>?_,c9,a0.keep _ _ (by simp;omega) hB,a0.keep _ _ (by simp;omega) hT,c2,fr.fresh a0 (!0)⟩
  ·rw[Qzq,hnm,QYq,List.getElem?_drop,hp]
   rfl
  ·rcases mQa.mp hq with hq|hq
   ·show hpr q hq
   ·rw[Qfq.mp hq];show⟨d9,g4⟩
 rintro X S8 ⟨⟨a2,Z,W,Y,rfl⟩,U,hnm,hpr,hD,hB,hT,e8,fr8⟩
 rw[dF] at hnm
 have g0:U.length<=2:=by
  have:=congrArg List.length hnm
  rw[lQm,Qxq] at this
  omega
 obtain⟨nm,a3⟩:∃nm,ws[o]?=some nm:=#[_,gQe (!0)]
 let h7:=fr8.keep _ _ (kn n1) hW
 let a9:=fr8.keep _ _ (kn (!0)) hE
 show aG (kE (B1 (ax L #[_,_,L,a9,je ?_])))
 show wo (α:=Str×List Rw) (λX=>∃a,X= [a,some (.ref l),some (.int o)]) iU (λp=>cu (nm,p.1)) #[_,L] ?_
 show bQ (ax L (bF hD ?_))
 show#[U,L,hD,by omega,λp hp X h5=>?_,?_]
 ·let#[a,rfl]:=h5
  show aR #[L,#[_,L],?_]
  show cb (aw (b_ (ax L (ax L (cE h7 (aQ (by rw[gQm,a3];rfl)) ?_)))))
  show aw (b_ (ax L (dI (aB L (aI #[by show 2<=_;decide,L,L])))))
 have f4:f.map cu++U.map (λp=>cu (nm,p.1))=(f++U.map λp=>(nm,p.1)).map cu:=by rw[Qzq,QPq];rfl
 show#[_,a9,#[L,nQl (aL (by rw[lQm,lQm];omega))],?_]
 show T _ _ (S8.set le (.lst (f.map cu++U.map (λp=>cu (nm,p.1))))) _
 rw[f4]
 have e9:Ex k S0 (S8.set le (.lst ((f++U.map λp=>(nm,p.1)).map cu))):=e8.put f2 hk
 have c0:Fr [k,g,le] S (S8.set le (.lst ((f++U.map λp=>(nm,p.1)).map cu))):=(fr8.mono (by simp)).trans (Fr.set (by simp))
 let d6:=fc (o':=.lst ((f++U.map λp=>(nm,p.1)).map cu)) a9
 let c5:=fJ (k:=le) (o':=.lst ((f++U.map λp=>(nm,p.1)).map cu)) (show ld≠le by omega) hD
 let e0:=fJ (k:=le) (o':=.lst ((f++U.map λp=>(nm,p.1)).map cu)) (show lb≠le by omega) hB
 let b5:=fJ (k:=le) (o':=.lst ((f++U.map λp=>(nm,p.1)).map cu)) (show lt≠le by omega) hT
 let c6:=fJ (k:=le) (o':=.lst ((f++U.map λp=>(nm,p.1)).map cu)) f7 (fr8.keep _ _ (kn (!0)) hR)
 generalize (S8.set le (.lst ((f++U.map λp=>(nm,p.1)).map cu)))=S9 at e9 c0 d6 c5 e0 b5 c6|-
 have y9:Ex k S9 S9:=by let#[a,b,c,hh]:=e9.pot;show Ex.refl hh
 show aG (bE (eS (je (Eh (m:=3) (·=ths) L (!1) (!1) (ja (bQ (ax L (bF b5 #[ths,L,by omega,L,e9,y9,λS' e=>e.keep _ _ nt b5])))) λts SA d5 h8 eA d7=>?_))))
 show aG (bE (eS (je (Mt eA L L (d7.keep _ _ nb e0) nb (!0) λbs SB c1 h0 eB f5=>?_))))
 have a1:Ex k S9 SB:=d7.trans f5
 let b8:=a1.keep _ _ (show g≠k by omega) c6
 show kE (wN (ax L #[_,_,L,b8,?_]))
 have f6:SB[l]?=some (.lst (ws.map D.str)):=a1.keep _ _ n1 (c0.keep _ _ (by simp;omega) hW)
 show aw (cb (aw (b_ (ax L (ax L (cE f6 (aQ (by rw[gQm,a3];rfl)) ?_))))))
 show aw (ax L (aw (ax L (aw (ax L (aw (eS (d_ (bQ (ax L (bF (a1.keep _ _ (show ld≠k by omega) c5) #[L,?_])))))))))))
 show aI #[by show 5<=_;decide,aI #[_,b8,j0 (aL (by rw[lQm];omega)) ?_]]
 have k1:ts.length<=2:=by have:=congrArg List.length d5;rw[lQm] at this;omega
 have k4:bs.length<=2:=by have:=congrArg List.length c1;rw[lQm] at this;omega
 show h #[nm,mn,ts,bs,U] _ _ _ _ _ _ _ _ _ _ _ a3 hnm #[f9,λp hp=>by have:=h8 p hp;omega,by show ts.length<=6;omega,by show bs.length<=6;omega,by show U.length<=6;omega,h0,λp hp=>?_] (by rw[fc b8,Qzq];rfl) (fJ (!0) (a1.keep _ _ (show le≠k by omega) d6)) (eB.put h4 hk) ((c0.trans (Fr.ex a1 (by simp))).trans (Fr.set (by simp)))
 have:=hpr p hp
 rw[<-d5,<-c1] at this
 show this
end
def Gx{e:cv}{S:aE}{v:Nat}{ps:List (Str×Nat)}{Q:List D->aE->Prop}(f:e[v]?=some (some (.tup (ps.map mH))))(hl:ps.length<=900)(h:Q ((ps.map (·.1)).map D.str) S):
  E (bx [none,none] (gQ (aP (au v))) (iy (nG 2 (aH (bB 0) (aH (bB 1) di)))) bI (au 0)) e S Q:=by
 show wo (α:=Str×Nat) (λc=>∃a b,c= [a,b]) mH (λp=>.str p.1) #[_,_,L] ?_
 show bQ (ax f (df #[ps,L,trivial,by omega,λp g c d=>?_,?_]))
 ·let#[a,b,rfl]:=d
  show ee L (az (aR (az (aR (bo #[L,#[_,_,L],ax L #[L,L]])))))
 ·rw[QPq] at h
  show h
section
variable{S S0:aE}{k most s e le:Nat}{ws:X6}{q:List (Str×Str)}{ps f:List (Str×Nat)}{g:List (List (Str×Nat)×List Rw)}{J F K I G H v j t u A l C m i B w:Option D}
def Ha{Q:Out->Prop}(x:Ex k S0 S)(hk:k<S0.length)(b4:S0.length<=e)(n1:s≠k)(n2:le≠k)(d4:s≠e)(hW:S[s]?=some (.lst (ws.map D.str)))(hE:S[le]?=some (.lst (q.map cu)))(hH:S[e]?=some (.lst (g.map fV)))
  (c3:ws.length=24) (l1:ps.length<=4) (l2:f.length<=4) (l3:q.length<900) (l4:g.length<900) (m1:1<=most) (m4:most<=4)
  (h:∀(p:List (Str×Nat)×List Rw) (W:aE) (b6 b5 b2 c1:Option D),xN q (f.map (·.1)) (ps.map (·.1)) p->W[e]?=some (.lst ((g++ [p]).map fV))->Ex k S0 W->Fr [k,e] S W->
   Q (.nx [some (.ref k),some (.int most),some (.ref s),J,F,K,I,G,some (.ref le),H,v,j,t,u,b6,l,b5,m,i,some (.tup (ps.map mH)),some (.tup (f.map mH)),some (.ref e),b2,c1] W)):
  T Jk [some (.ref k),some (.int most),some (.ref s),J,F,K,I,G,some (.ref le),H,v,j,t,u,A,l,C,m,i,some (.tup (ps.map mH)),some (.tup (f.map mH)),some (.ref e),B,w] S Q:=by
 have y:Ex k S S:=by let#[a,b,c,hh]:=x.pot;show Ex.refl hh
 let kS:=x.lt
 let c4:=(gQs.mp hW).1
 let qL:=(gQs.mp hE).1
 let d2:=(gQs.mp hH).1
 unfold Jk
 show aG (bE (cG (yM L hW (dI ⟨22,L,by omega,hW,bO (aw (ax L (aw (dI (aI ?_)))))⟩))))
 show bH x (!1) (!1) λv1 S1 c5 e1 b1 _=>⟨v1,L,?_⟩
 obtain⟨M,Y⟩:∃M:List Str,(ws.drop 22).take v1=M:=⟨_,L⟩
 have d3:M.length<=1:=by rw[<-Y,Qxq];omega
 rw[Y]
 have e2:Ex k S0 (S1++ [O.lst (M.map D.str)]):=e1.app
 have a5:Ex k S (S1++ [O.lst (M.map D.str)]):=b1.app
 have Z:(S1++ [O.lst (M.map D.str)])[S1.length]?=some (.lst (M.map D.str)):=aS
 have b7:S.length<=S1.length:=b1.len
 generalize (S1++ [O.lst (M.map D.str)])=S2 at e2 a5 Z|-
 generalize S1.length=lo at Z b7|-
 have no:lo≠k:=by omega
 show aG (bE (b_ (dI (bO (aw (ax L (aw (ax L (aI ?_)))))))))
 show bH e2 (!0) (!0) λv2 X d1 e3 a7 _=>?_
 show jB ?_
 rw[show(1:Int)+(v2:Int)=((1+v2:Nat):Int) by omega]
 let a2:=a7.keep _ _ no Z
 show aG (bE (cG (GJ (bQ (ax L (bF a2 (je (Gx L (!0) ⟨⟨rfl,L,a2,nQl (aL (by simp;omega))⟩,?_⟩))))))))
 rw[<-Qzq]
 obtain⟨N,U⟩:∃N:List Str,M++f.map (·.1)=N:=#[_,L]
 have c9:N.length<=5:=by rw[<-U,lQa,lQm];omega
 rw[U]
 have a8:Ex k S X:=a5.trans a7
 have e4:Ex k S0 (X++ [O.lst (N.map D.str)]):=e3.app
 have a1:Ex k S (X++ [O.lst (N.map D.str)]):=a8.app
 have a9:(X++ [O.lst (N.map D.str)])[lo]?=some (.lst (M.map D.str)):=aZ a2
 have a0:(X++ [O.lst (N.map D.str)])[X.length]?=some (.lst (N.map D.str)):=aS
 have b3:S.length<=X.length:=a8.len
 generalize (X++ [O.lst (N.map D.str)])=S4 at e4 a1 a9 a0|-
 generalize X.length=ln at a0 b3|-
 have nn:ln≠k:=by omega
 have y4:Ex k S4 S4:=by let#[a,b,c,hh]:=e4.pot;show Ex.refl hh
 let c0:=a1.keep _ _ n2 hE
 show aG (bE (cG (gH (il (ax L #[((1+v2:Nat):Int),L,by omega,?_])))))
 show#[λn R W a3=>(∃o,R= [o,some (.ref k),some (.ref le),some (.int (1+v2:Nat)),some (.tup (ps.map mH)),some (.ref ln)])/\∃P:List Rw,P.length=n/\(∀r∈P,r.Ok #[true,N,N,[],q,ps.map (·.1)] (1+v2))/\a3=P.map Rw.d/\Ex k S0 W/\Ex k S4 W,#[#[none,L],[],L,λ_ h=>(nomatch h),L,e4,y4],λ_ _ _ _ _=>trivial,?_,?_]
 ·rintro n d R W a3 hd ⟨⟨o,rfl⟩,P,hn,hok,rfl,e5,e5'⟩
  let#[rfl,hnv]:=du hd
  show aR (fF ?_)
  rw[Qhq L]
  apply bO (aw (ax L (aw (ax L (aw (cG (Gx L (!0) ?_)))))))
  show#[by show 2<=_;decide,?_]
  symm
  let c6:=e5.lt
  show zN e5.app nn (!0) n2 (aZ (e5'.keep _ _ nn a0)) aS (aZ (e5'.keep _ _ n2 c0)) (!0) (by rw[lQm];omega) l3 hnv (!0) λr S6 c2 e6 b8 _=>?_
  have y5:Ex k W W:=by let#[a,b,c,hh]:=e5.pot;show Ex.refl hh
  show#[by rw[lQm];show aL (!0),#[_,L],P++ [r],by simp[hn],λz hz=>?_,by simp,e6,e5'.trans (y5.app.trans b8)]
  rcases mQa.mp hz with hz|hz
  ·show hok z hz
  ·rw[Qfq.mp hz];show c2
 rintro R S5 a3 ⟨-,P,hn,hok,rfl,e5,e5'⟩
 rw[dF] at hn
 have b0:Ex k S S5:=a1.trans e5'
 have a4:S5[e]?=some (.lst (g.map fV)):=b0.keep _ _ (!0) hH
 have a6:S5[lo]?=some (.lst (M.map D.str)):=e5'.keep _ _ no a9
 show kE (wN (ax L #[_,_,L,aZ a4,?_]))
 show aw (cb (aw (eS (je ?_))))
 show wo (α:=Str) (λR=>∃a,R= [a]) D.str (λz=>mH (z,0)) #[_,L] ?_
 show bQ (ax L (bF (aZ a6) #[M,L,aZ a6,by omega,λz hz R b9=>?_,?_]))
 ·let#[a,rfl]:=b9
  show aR #[L,#[_,L],?_]
  show cb (aw (ax L (aw (dI (aI #[by show 2<=_;decide,L,L])))))
 show aw (eS (d_ (bQ (ax L (bF aS #[L,aI #[by show 2<=_;decide,aI #[_,aZ a4,j0 (aL (by rw[lQm];omega)) ?_]]])))))
 have eo:(M.map λz=>((z,0):Str×Nat)).map (·.1)=M:=by rw[QPq];show List.map_id M
 show h (M.map λz=>(z,0),P) _ _ _ _ _ #[λp hp=>?_,by show(M.map _).length<=6;rw[lQm];omega,by show P.length<=9;omega,by show 0<P.length;omega,λr hr=>?_] ?_ (e5.app.put b4 hk) ((Fr.ex b0 (by simp)).trans (Fr.app.trans (Fr.set (by simp))))
 ·let#[z,_,rfl]:=Qkq.mp hp
  show 0<=9
  decide
 ·have:=hok r hr
  rw[show 1+v2=P.length from hn.symm] at this
  show r.Ok #[true,(M.map λz=>((z,0):Str×Nat)).map (·.1)++f.map (·.1),(M.map λz=>((z,0):Str×Nat)).map (·.1)++f.map (·.1),[],q,ps.map (·.1)] P.length
  rw[eo,U]
  show this
 ·rw[fc (aZ a4),Qzq]
  show some (O.lst (g.map fV++ [.tup [.tup (M.map λz=>mH (z,0)),.tup (P.map Rw.d)]]))=some (O.lst (g.map fV++ [.tup [.tup ((M.map λz=>(z,0)).map mH),.tup (P.map Rw.d)]]))
  rw[QPq]
  rfl
end
end W28
namespace DL
open L2
def J2{a:cv}{S:aE}{f g:bp}{Q:(List D×(aE->Prop))->aE->Prop}(h:E f a S λd c=>E g a c λb S2=>∃i j,d=.int i/\b=.int j/\(-(2^62)<=i/\i<2^62/\ -(2^62)<=j/\j<2^62)/\Q (iG i j,λ_=>True) S2):E (IS f g) a S Q:=by
 let#[d,c,e,b,S2,k,i,j,rfl,rfl,hb,q]:=h
 show#[_,S2,by unfold IS;rw[e];erw[Qbq];rw[k];erw[Qbq];rw[Qhq hb],q]
def D3{j n:Nat}{d:D}(h:(iG 1 (j:Int))[n]?=some d):d=.int (1+n:Nat)/\1+n<j:=by
 erw[iG,gQm] at h
 let#[i,c,rfl]:=oQm.mp h
 let#[b,a]:=gQs.mp c
 simp at b a
 subst a
 show#[by simp,by omega]
def Dw{j:Nat}:(iG 1 (j:Int)).length=j-1:=by erw[iG,lQm,QVq];omega
end DL
namespace W28
open L2 DL
section
variable{S S0:aE}{k:Nat}{Q:Res->aE->Prop}
def DJ{rs:List Rm}{i j:Nat}{r:Rm}{x:Str}(c:rs[i]?=some r)(a:(r.ae.map (·.1))[j]?=some x):(r.name,x)∈bG rs:=by
 rw[gQm] at a
 let#[p,b,rfl]:=oQm.mp a
 show QOq.mpr #[r,mQg c,Qkq.mpr #[p,mQg b,L]]
def ye{rs:List Rm}{r:Rm}:bG (rs++ [r])=bG rs++r.ae.map λp=>(r.name,p.1):=by
 unfold bG
 rw[List.flatMap_append]
 simp
def uj{rs:List Rm}{ws:X6}(h:∀(i:Nat) (r:Rm),rs[i]?=some r->ws[i]?=some r.name):rs.map (·.name)=ws.take rs.length:=by
 apply List.ext_getElem?
 intro i
 rw[gQm,List.getElem?_take]
 cases a:rs[i]? with
 | none=>
   have:=List.getElem?_eq_none_iff.mp a
   rw[Quq (!0)]
   rfl
 | some r=>
   have:=(gQs.mp a).1
   rw[Qhq this,h i r a]
   rfl
def vA{rs:List Rm}{ws:X6}(a:ws.Pairwise qL)(ok:∀z∈ws,FP z)(h:∀(i:Nat) (r:Rm),rs[i]?=some r->ws[i]?=some r.name):(rs.map (·.name)).Pairwise qL/\∀x∈rs.map (·.name),PyData.strOk x=true:=by
 rw[uj h]
 show#[a.sublist (List.take_sublist ..),λx b=>(ok x (List.mem_of_mem_take b)).ok]
def Jm(w:cx):Prop:=(w.aj.map (·.name)).Pairwise qL/\∀x∈w.aj.map (·.name),PyData.strOk x=true
def names_nodup{rs:List Rm}{ws:X6}(a:ws.Nodup)(h:∀(i:Nat) (r:Rm),rs[i]?=some r->ws[i]?=some r.name):(rs.map (·.name)).Nodup:=by
 rw[uj h]
 show a.sublist (List.take_sublist ..)
def Fh{most:Nat}(x:Ex k S0 S)(m1:1<=most)(m4:most<=4)(h:∀(w:cx) (t:aE),cA w->Jm w->Ex k S0 t->Ex k S t->t.length=S.length->Q (.d w.d) t):Fn iS [.ref k,.int most] S Q:=by
 have y:Ex k S S:=by let#[a,b,c,hh]:=x.pot;show Ex.refl hh
 let kl:=x.lt
 show cc ?_
 unfold lL
 symm
 show Fn eG [.ref k,.int ((24:Nat):Int)] S _
 show zK y (!1) λG S1 f2 h7 b7 h8 e1 j5 l1=>?_
 dsimp only[bM,bg,bN,cP,c7,hJ]
 have e2:Ex k S (S1++ [O.lst (G.map D.str)]):=e1.app
 have b2:(S1++ [O.lst (G.map D.str)])[S1.length]?=some (.lst (G.map D.str)):=aS
 have e0:S.length<=S1.length:=by omega
 generalize (S1++ [O.lst (G.map D.str)])=S2 at e2 b2|-
 generalize S1.length=lw at b2 e0|-
 have nw:lw≠k:=by omega
 show aG (bE (dR (n:=6) (xs:= [.int 1,.int 2,.int 1,.int 2,.int 3,.int 0]) L e2 (!1) (!1) L (by symm;show⟨rfl,L⟩) λd S3 C e3 f6 _=>?_))
 obtain⟨A,f4,rfl⟩:∃n:Nat,n<=3/\d=.int n:=by
  erw[Qsq,QXq,or_false] at C
  rcases C with rfl|rfl|rfl|rfl|rfl|rfl
  ·show#[1,by omega,L]
  ·show#[2,by omega,L]
  ·show#[1,by omega,L]
  ·show#[2,by omega,L]
  ·show#[3,by omega,L]
  ·show#[0,by omega,L]
 let h9:=f6.keep _ _ nw b2
 show aG (bE (cG (gH (il (ax L #[(A:Int),L,by omega,?_])))))
 show#[λn f t Z=>(∃o,f= [o,some (.ref k)])/\∃e:List Nat,e.length=n/\(∀s∈e,s<=2)/\Z=e.map mW/\Ex k S t/\Ex k S3 t,#[#[none,L],[],L,λ_ h=>(nomatch h),L,e3,by let#[a,b,c,hh]:=e3.pot;show Ex.refl hh],λ_ _ _ _ _=>trivial,?_,?_]
 ·rintro n d f t Z C ⟨⟨o,rfl⟩,e,hn,h2,rfl,e4,e4'⟩
  let#[rfl,a2]:=du C
  show aR (fF ?_)
  rw[Qhq L]
  symm
  show bH e4 (!1) (!1) λv S5 hv e5 h0 _=>?_
  show jB ?_
  rw[show(1:Int)+(v:Int)=((1+v:Nat):Int) by omega]
  show#[by rw[lQm];show aL (!0),#[_,L],e++ [1+v],by simp[hn],λs M=>?_,by simp[mW],e5,e4'.trans h0]
  rcases mQa.mp M with M|M
  ·show h2 s M
  ·rw[Qfq.mp M];omega
 rintro f S4 Z ⟨-,e,hszl,hsz2,rfl,e4,e4'⟩
 rw[dF] at hszl
 let c9:=e4'.keep _ _ nw h9
 let d2:=(gQs.mp c9).1
 show aG (bE (cG (cR (aI #[by show 0<=_;decide,?_]))))
 have e5:Ex k S (S4++ [O.lst (e.map mW)]++ [O.lst []]):=e4.app.app
 have d5:(S4++ [O.lst (e.map mW)]++ [O.lst []])[lw]?=some (.lst (G.map D.str)):=aZ (aZ c9)
 have b4:(S4++ [O.lst (e.map mW)]++ [O.lst []])[S4.length]?=some (.lst (e.map mW)):=aZ aS
 have b0:(S4++ [O.lst (e.map mW)]++ [O.lst []])[S4.length+1]?=some (.lst (([]:List (Str×Str)).map cu)):=by have:=aS (S:=S4++ [O.lst (e.map mW)]) (o:=O.lst []);simpa using this
 let g5:=e4.lt
 let i0:=e4.len
 show T _ [some (.ref k),some (.int most),some (.ref lw),some (.int A),some (.ref S4.length),some (.ref (S4++ [O.lst (e.map mW)]).length),none,none,none,none,none,none,none,none,none,none,none,none,none,none,none,none,none,none] _ _
 rw[show(S4++ [O.lst (e.map mW)]).length=S4.length+1 by simp]
 generalize (S4++ [O.lst (e.map mW)]++ [O.lst []])=S5 at e5 d5 b4 b0|-
 generalize S4.length=lz at b4 b0 g5 d2 i0|-
 show aG (fP (il (ax L #[(A:Int),L,by omega,?_])))
 show#[λj f t=>(∃b6,f= [some (.ref k),some (.int most),some (.ref lw),some (.int A),some (.ref lz),some (.ref (lz+1)),b6,none,none,none,none,none,none,none,none,none,none,none,none,none,none,none,none,none])/\∃gs:List (Str×Str),gs.length<=j/\(∀g∈gs,∃i F a,i<j/\e[i]?=some F/\a<F/\G[i]?=some g.1/\G[8+a]?=some g.2)/\t[lw]?=some (.lst (G.map D.str))/\t[lz]?=some (.lst (e.map mW))/\t[lz+1]?=some (.lst (gs.map cu))/\Ex k S t,#[#[_,L],[],by simp,λ_ h=>(nomatch h),d5,b4,b0,e5],λ_ _ _ _=>trivial,?_,?_]
 ·rintro j d f t C ⟨⟨b6,rfl⟩,gs,hgl,hgs,hW,hZ,hI,ex⟩
  let#[rfl,hj]:=du C
  obtain⟨F,Y⟩:∃F,e[j]?=some F:=⟨_,gQe (!0)⟩
  let c0:=hsz2 F (mQg Y)
  obtain⟨nm,a2⟩:∃nm,G[j]?=some nm:=#[_,gQe (!0)]
  show aR ?_
  show kE (B1 (ax L #[_,_,L,hI,je (gH (J2 (dI (b_ (ax L (ax L (cE hZ (aQ (by rw[gQm,Y];rfl)) #[1,(F:Int),L,L,by omega,?_])))))))]))
  show#[λn f a3 Z=>(∃o,f= [o,some (.ref lw),some (.int j)])/\a3=t/\∃fs:List (Str×Str),fs.length=n/\(∀g∈fs,g.1=nm/\∃a,a<F/\G[8+a]?=some g.2)/\Z=fs.map cu,#[#[none,L],L,[],L,λ_ h=>(nomatch h),L],λ_ _ _ _ _=>trivial,?_,?_]
  ·rintro n d f a3 Z C ⟨⟨o,rfl⟩,rfl,fs,hfl,hfs,rfl⟩
   let#[rfl,hn]:=D3 C
   obtain⟨n8,d4⟩:∃n8,G[8+(1+n)]?=some n8:=#[_,gQe (!0)]
   show aR (fF ?_)
   rw[Qhq L]
   show cb (aw (b_ (ax L (ax L (cE hW (aQ (by rw[gQm,a2];rfl)) ?_)))))
   show aw (b_ (ax L (b_ (dI (ax L (jB ?_))))))
   rw[show(8:Int)+((1+n:Nat):Int)=((8+(1+n):Nat):Int) by omega]
   show cE hW (aQ (by rw[gQm,d4];rfl)) ?_
   show aI #[by show 2<=_;decide,by rw[lQm];show aL (!0),#[_,L],L,fs++ [(nm,n8)],by simp[hfl],λg hg=>?_,by simp[cu]]
   rcases mQa.mp hg with hg|hg
   ·show hfs g hg
   ·rw[Qfq.mp hg];show#[L,1+n,hn,d4]
  rintro f a3 Z ⟨-,rfl,fs,hfl,hfs,rfl⟩
  rw[Dw] at hfl
  show#[_,hI,#[L,nQl (aL (by rw[lQm,lQm];omega))],#[_,L],gs++fs,by rw[lQa];omega,λg hg=>?_,fJ (!0) hW,fJ (!0) hZ,by rw[fc hI,Qzq],ex.put (!0) kl]
  rcases mQa.mp hg with hg|hg
  ·let#[i,F,a,h1,h2,h3,h4]:=hgs g hg
   show#[i,F,a,by omega,h2,h3,h4]
  ·let#[h1,a,h2,h3]:=hfs g hg
   show#[j,F,a,by omega,Y,h2,by rw[h1];show a2,h3]
 rintro f J ⟨⟨b6,rfl⟩,gs,hgl,hgs,hW6,hZ6,hI6,e6⟩
 rw[dF] at hgl hgs
 let f1:=(gQs.mp hI6).1
 show aG (FQ (aw (cG (cR (aI #[by show 0<=_;decide,aw (cG (cR (aI #[by show 0<=_;decide,aI #[_,_,L,?_]])))])))))
 have e7:Ex k S (J++ [O.lst []]++ [O.lst []]):=e6.app.app
 have d1:(J++ [O.lst []]++ [O.lst []])[lw]?=some (.lst (G.map D.str)):=aZ (aZ hW6)
 have d3:(J++ [O.lst []]++ [O.lst []])[lz]?=some (.lst (e.map mW)):=aZ (aZ hZ6)
 have c6:(J++ [O.lst []]++ [O.lst []])[lz+1]?=some (.lst (gs.map cu)):=aZ (aZ hI6)
 have b5:(J++ [O.lst []]++ [O.lst []])[J.length]?=some (.lst (([]:List Rm).map Rm.d)):=aZ aS
 have a8:(J++ [O.lst []]++ [O.lst []])[J.length+1]?=some (.lst ((bG []).map cu)):=by have:=aS (S:=J++ [O.lst []]) (o:=O.lst []);rw[show(J++ [O.lst []]).length=J.length+1 by simp] at this;show this
 show T _ [some (.ref k),some (.int most),some (.ref lw),some (.int A),some (.ref lz),some (.ref (lz+1)),b6,some (.ref J.length),some (.ref (J++ [O.lst []]).length),none,none,none,none,none,none,none,none,none,none,none,none,none,none,none] _ _
 rw[show(J++ [O.lst []]).length=J.length+1 by simp]
 let h6:=e6.len
 generalize (J++ [O.lst []]++ [O.lst []])=S7 at e7 d1 d3 c6 b5 a8|-
 generalize J.length=lr at b5 a8 f1 h6|-
 show aG (fP (il (ax L #[(A:Int),L,by omega,?_])))
 show#[λj f t=>(∃x5:Nat->Option D,f= [some (.ref k),some (.int most),some (.ref lw),some (.int A),some (.ref lz),some (.ref (lz+1)),x5 0,some (.ref lr),some (.ref (lr+1)),x5 1,x5 2,x5 3,x5 4,x5 5,x5 6,x5 7,x5 8,x5 9,x5 10,none,none,none,none,none])/\∃u:List Rm,u.length=j/\(∀(i:Nat) (r:Rm),u[i]?=some r->G[i]?=some r.name/\AC gs r/\∃F,e[i]?=some F/\r.ae.map (·.1)=(G.drop 8).take F)/\t[lr]?=some (.lst (u.map Rm.d))/\t[lr+1]?=some (.lst ((bG u).map cu))/\t[lw]?=some (.lst (G.map D.str))/\t[lz]?=some (.lst (e.map mW))/\t[lz+1]?=some (.lst (gs.map cu))/\Ex k S t,#[#[λi=>[_,_,_,_,_,_,_,_,_,_,_].getD i none,L],[],L,λi r hr=>by simp at hr,b5,a8,d1,d3,c6,e7],λ_ _ _ _=>trivial,?_,?_]
 ·rintro j d f t C ⟨⟨x5,rfl⟩,u,hrl,hrs,hR,hE,hW,hZ,hI,ex⟩
  let#[rfl,hj]:=du C
  obtain⟨F,Y⟩:∃F,e[j]?=some F:=#[_,gQe (!0)]
  let c0:=hsz2 F (mQg Y)
  have f3:(bG u).length<=6*u.length:=u9 λr hr=>by
   let#[i,hi]:=List.getElem?_of_mem hr
   show(hrs i r hi).2.1.l3
  show aR ?_
  show GV (gs:=gs) ex kl (!0) (!0) (!0) nw (!0) (!0) (!0) (!0) hW hZ hI hR hE b7 Y c0 (!0) (!0) (!0) (!0) λr a3 b9 U K X W I P H N R a2 f5 a9 c2 d7 a1 B=>?_
  show#[#[λi=>[_,_,_,_,_,_,_,_,_,_,_].getD i none,L],u++ [r],by simp[hrl],λi r' a0=>?_,c2,by rw[ye];show d7,B.keep _ _ (by simp;omega) hW,B.keep _ _ (by simp;omega) hZ,B.keep _ _ (by simp;omega) hI,a1]
  by_cases c:i<u.length
  ·rw[QHq c] at a0
   show hrs i r' a0
  ·rw[QQq (!0)] at a0
   have hi:i-u.length=0:=by
    have:=(gQs.mp a0).1
    simp at this
    omega
   rw[hi] at a0
   cases a0
   have:i=u.length:=by omega
   rw[this,hrl]
   show#[a2,a9,F,Y,f5]
 rintro f S8 ⟨⟨x5,rfl⟩,u,hrl,hrs,hR8,hE8,hW8,hZ8,hI8,e8⟩
 rw[dF] at hrl
 have f3:(bG u).length<=6*u.length:=u9 λr hr=>by
  let#[i,hi]:=List.getElem?_of_mem hr
  show(hrs i r hi).2.1.l3
 have y8:Ex k S8 S8:=by let#[a,b,c,hh]:=e8.pot;show Ex.refl hh
 show aG (bE (eS (je (Eh (S0:=S) (m:=2) (λl=>l.length<=2) L (!1) (!1) (ja (je (yM L hW8 (dI ⟨4,L,by omega,hW8,dR (n:=4) (xs:= [.int 0,.int 1,.int 2,.int 1]) L e8 (!1) (!1) L (by symm;show⟨rfl,L⟩) λd S9 C e9 b3 _=>?_⟩)))) λps SA g0 i1 eA d8=>?_))))
 ·obtain⟨n,hn,rfl⟩:∃n:Nat,n<=2/\d=.int n:=by
   erw[Qsq,QXq,or_false] at C
   rcases C with rfl|rfl|rfl|rfl
   ·show⟨0,by omega,L⟩
   ·show⟨1,by omega,L⟩
   ·show⟨2,by omega,L⟩
   ·show⟨1,by omega,L⟩
  show⟨n,L,(G.drop 4).take n,by rw[Qxq];omega,by rw[Qxq];omega,L,e9,b3,λ_ _=>trivial⟩
 rw[lQm] at g0
 let d9:=d8.keep _ _ nw hW8
 show aG (bE (eS (je (Eh (S0:=S) (m:=2) (λl=>l.length<=1) L (!1) (!1) (ja (je (yM L d9 (dI ⟨20,L,by omega,d9,dR (n:=3) (xs:= [.int 0,.int 0,.int 1]) L eA (!1) (!1) L (by symm;show⟨rfl,L⟩) λd S9 C e9 b3 _=>?_⟩)))) λos SB g4 f8 eB f0=>?_))))
 ·obtain⟨n,hn,rfl⟩:∃n:Nat,n<=1/\d=.int n:=by
   erw[Qsq,QXq,or_false] at C
   rcases C with rfl|rfl|rfl
   ·show⟨0,by omega,L⟩
   ·show⟨0,by omega,L⟩
   ·show⟨1,by omega,L⟩
  show⟨n,L,(G.drop 20).take n,by rw[Qxq];omega,by rw[Qxq];omega,L,e9,b3,λ_ _=>trivial⟩
 rw[lQm] at g4
 have a5:Ex k S8 SB:=d8.trans f0
 show aG (bE (cG (cR (aI ⟨by show 0<=_;decide,?_⟩))))
 let f7:=a5.len
 let j4:=(gQs.mp hE8).1
 have eC:Ex k S (SB++ [O.lst []]):=eB.app
 have d6:(SB++ [O.lst []])[lw]?=some (.lst (G.map D.str)):=aZ (a5.keep _ _ nw hW8)
 have c4:(SB++ [O.lst []])[lr+1]?=some (.lst ((bG u).map cu)):=aZ (a5.keep _ _ (!0) hE8)
 have c5:(SB++ [O.lst []])[lr]?=some (.lst (u.map Rm.d)):=aZ (a5.keep _ _ (!0) hR8)
 have b1:(SB++ [O.lst []])[SB.length]?=some (.lst (([]:List (List (Str×Nat)×List Rw)).map fV)):=aS
 generalize (SB++ [O.lst []])=SC at eC d6 c4 c5 b1|-
 generalize SB.length=lh at b1 f7|-
 show aG (fP (il (dR (n:=6) (xs:= [.int 2,.int 2,.int 3,.int 1,.int 2,.int 4]) L eC (!1) (!1) L (by symm;show⟨rfl,L⟩) λd SD C eD a6 _=>?_)))
 obtain⟨nh,i2,i5,rfl⟩:∃n:Nat,1<=n/\n<=4/\d=.int n:=by
  erw[Qsq,QXq,or_false] at C
  rcases C with rfl|rfl|rfl|rfl|rfl|rfl
  ·show#[2,by omega,by omega,L]
  ·show#[2,by omega,by omega,L]
  ·show#[3,by omega,by omega,L]
  ·show#[1,by omega,by omega,L]
  ·show#[2,by omega,by omega,L]
  ·show#[4,by omega,by omega,L]
 show#[(nh:Int),L,by omega,?_]
 show#[λj f t=>(∃xS:Nat->Option D,f= [some (.ref k),some (.int most),some (.ref lw),some (.int A),some (.ref lz),some (.ref (lz+1)),xS 0,some (.ref lr),some (.ref (lr+1)),xS 1,xS 2,xS 3,xS 4,xS 5,xS 6,xS 7,xS 8,xS 9,xS 10,some (.tup (ps.map mH)),some (.tup (os.map mH)),some (.ref lh),xS 11,xS 12])/\∃M:List (List (Str×Nat)×List Rw),M.length=j/\(∀p∈M,xN (bG u) (os.map (·.1)) (ps.map (·.1)) p)/\t[lh]?=some (.lst (M.map fV))/\t[lr]?=some (.lst (u.map Rm.d))/\t[lr+1]?=some (.lst ((bG u).map cu))/\t[lw]?=some (.lst (G.map D.str))/\Ex k S t,#[#[λi=>[_,_,_,_,_,_,_,_,_,_,_,_,_].getD i none,L],[],L,λ_ h=>(nomatch h),a6.keep _ _ (!0) b1,a6.keep _ _ (!0) c5,a6.keep _ _ (!0) c4,a6.keep _ _ nw d6,eD],λ_ _ _ _=>trivial,?_,?_]
 ·rintro j d f t C ⟨⟨xS,rfl⟩,M,hhl,hhs,hH,hR,hE,hW,ex⟩
  let#[rfl,hj]:=du C
  show aR ?_
  show Ha ex kl (!0) nw (!0) (!0) hW hE hH b7 (!0) (!0) (!0) (!0) m1 m4 λp a3 I H a4 a7 a9 c1 a1 B=>?_
  show#[#[λi=>[_,_,_,_,_,_,_,_,_,_,_,_,_].getD i none,L],M++ [p],by simp[hhl],λq hq=>?_,c1,B.keep _ _ (by simp;omega) hR,B.keep _ _ (by simp;omega) hE,B.keep _ _ (by simp;omega) hW,a1]
  rcases mQa.mp hq with hq|hq
  ·show hhs q hq
  ·rw[Qfq.mp hq];show a9
 rintro f SE ⟨⟨xS,rfl⟩,M,hhl,hhs,hH,hR,hE,hW,eE⟩
 rw[dF] at hhl
 have f9:∀g∈gs,g∈bG u:=λg hg=>by
  let#[i,F,a,h1,h2,h3,h4,h5]:=hgs g hg
  let c3:=gQe (l:=u) (i:=i) (!0)
  let#[g1,_,j1,g2,g3]:=hrs i _ c3
  rw[h2] at g2
  cases g2
  have:(u[i].name,g.2)∈bG u:=DJ (j:=a) c3 (by rw[g3,List.getElem?_take,Qhq h3,List.getElem?_drop];show h5)
  rw[h4] at g1
  rw[<-QdQ g1] at this
  show this
 have b8:cA ⟨u,ps,os,M⟩:=by
  show#[names_nodup f2 λi r hr=>(hrs i r hr).1,by show u.length<=4;omega,by show ps.length<=6;omega,by show os.length<=6;omega,by show M.length<=4;omega,by show 0<M.length;omega,λp hp=>by have:=i1 p hp;omega,λp hp=>by have:=f8 p hp;omega,λr hr=>?_,hhs]
  let#[i,hi]:=List.getElem?_of_mem hr
  show(hrs i r hi).2.1.sub f9
 show dM (cb (aw (eS (d_ (bQ (ax L (bF hR #[L,?_])))))))
 show aw (ax L (aw (ax L (aw (eS (d_ (bQ (ax L (bF hH #[L,?_])))))))))
 show aI #[by show 4<=_;decide,?_]
 show qS eE kl (λk z=>(nomatch z)) (eL (cx.low #[u,ps,os,M])) λa b c=>?_
 show h #[u,ps,os,M] _ b8 (vA h7 h8 λi r hr=>(hrs i r hr).1) x.set y.set (by simp)
end
end W28
namespace DL
open L2
def Ly{l:cv}{S:aE}{js:List (Option Nat)}{f:d0}{g:mv}{i:bp}{Q:List D->aE->Prop}(P:cv->Prop)(F:D->D)(o:P (mE js l)) (h:E f l S λp e=>p.2.stays e p.1/\p.1.length<=1000∧
   (∀d∈p.1,∀a,P a->Tg g d a e λc S2=>S2=e/\P c/\E i c e λy m=>y=F d/\m=e)/\Q (p.1.map F) e):E (bx js (gQ f) g bI i) l S Q:=by
 show gH (ja (h.mono λp e s=>?_))
 let#[t,hl,x,q]:=s
 show#[λn a j b=>j=e/\b=(p.1.take n).map F/\P a,#[L,L,o],λn a j b h=>by rw[h.1];show t,λn d a j b k h=>?_,λa j b h=>?_]
 ·let#[rfl,rfl,h3]:=h
  let#[c,S2,v,rfl,h4,h5]:=x d (mQg k) a h3
  show#[c,S2,v,fF ?_]
  rw[Qhq L]
  show h5.mono λy m u=>?_
  let#[r,w]:=u
  subst r w
  let z:=(gQs.mp k).1
  show#[?_,L,?_,h4]
  ·rw[lQm,Qxq]
   show aL (!0)
  ·rw[QYq,k]
   simp
 ·let#[rfl,rfl,_]:=h
  rw[QEq]
  show q
def tM{α:Type}{o:cv}{S:aE}{js:List (Option Nat)}{f:d0}{g:mv}{k:bp}{Q:List D->aE->Prop}(P:cv->Prop)(enc G:α->D)(t:P (mE js o)) (h:E f o S λp i=>∃xs:List α,p.1=xs.map enc/\p.2.stays i p.1/\xs.length<=1000∧
   (∀x∈xs,∀a,P a->Tg g (enc x) a i λc S2=>S2=i/\P c/\E k c i λy s=>y=G x/\s=i)/\Q (xs.map G) i):E (bx js (gQ f) g bI k) o S Q:=by
 show gH (ja (h.mono λp i v=>?_))
 let#[xs,r,w,hl,C,q]:=v
 show#[λn a m b=>m=i/\b=(xs.take n).map G/\P a,#[L,L,t],λn a m b h=>by rw[h.1];show w,λn d a m b l h=>?_,λa m b h=>?_]
 ·let#[rfl,rfl,h3]:=h
  have l:p.1[n]?=some d:=l
  rw[r,gQm] at l
  let#[x,j,rfl]:=oQm.mp l
  let#[c,S2,A,rfl,h4,h5]:=C x (mQg j) a h3
  show#[c,S2,A,fF ?_]
  rw[Qhq L]
  show h5.mono λy s z=>?_
  let#[u,B]:=z
  subst u B
  let F:=(gQs.mp j).1
  show#[?_,L,?_,h4]
  ·rw[lQm,Qxq]
   show aL (!0)
  ·rw[QYq,j]
   simp
 ·let#[rfl,rfl,_]:=h
  have e:p.1.length=xs.length:=by rw[r,lQm]
  show Q ((xs.take p.1.length).map G) _
  rw[e,QEq]
  show q
def cZ{S:aE}{d:D}{Q:Res->aE->Prop}(a:∀k,d≠.ref k)(hl:cn 0 d=true)(q:Q (.d d) S):Op (settle S d S) λp=>Q p.1 p.2:=h_ tw (QEq) a (eL hl) q
def Fu{S:aE}{ds:List D}{Q:Res->aE->Prop}(hl:bP 0 ds=true)(q:Q (.l ds) S):Op (fG S ds S) λp=>Q p.1 p.2:=m9 tw (QEq) (jv hl) q
end DL
namespace W28
open L2 DL
structure cj where
 room:Int
 deed:Int
 row:Int
 given:Int
 told:Int
structure cC where
 vals:List Int
 within:Int
 row:List Int
 ag:List Int
 aa:List (List (Int×Int))
structure aU where
 aj:List cC
 ai:List (Int×List Int)
 ak:List Int
 af:List (List Int×List cj)
noncomputable def cy(l:List Int):D:=.tup (l.map D.int)
noncomputable def cj.d(f:cj):D:=.tup [.int f.room,.int f.deed,.int f.row,.int f.given,.int f.told]
noncomputable def pairD(p:Int×Int):D:=.tup [.int p.1,.int p.2]
noncomputable def dW(l:List (Int×Int)):D:=.tup (l.map pairD)
noncomputable def cC.d(r:cC):D:=.tup [cy r.vals,.int r.within,cy r.row,cy r.ag,.tup (r.aa.map dW)]
noncomputable def Aa(p:Int×List Int):D:=.tup [.int p.1,cy p.2]
noncomputable def Ac(h:List Int×List cj):D:=.tup [cy h.1,.tup (h.2.map cj.d)]
noncomputable def aU.d(s:aU):D:=.tup [.tup (s.aj.map cC.d),.tup (s.ai.map Aa),cy s.ak,.tup (s.af.map Ac)]
def ji(l:List Int):cn 0 (cy l)=true:=by erw[cy,cn];show a_ λ_ _=>rfl
def tJ(l:List (Int×Int)):cn 0 (dW l)=true:=by erw[dW,cn];show a_ λ_ _=>rfl
def cC.low(r:cC):cn 0 r.d=true:=by
 erw[cC.d,cn,bP,ji,Bool.and_true,Bool.true_and]
 show a_ λl _=>tJ l
def Bd(p:Int×List Int):cn 0 (Aa p)=true:=by erw[Aa,cn,bP,ji,Bool.and_true]
def Bm(h:List Int×List cj):cn 0 (Ac h)=true:=by
 erw[Ac,cn,bP,ji,Bool.and_true,Bool.true_and]
 show a_ λ_ _=>rfl
def aU.low(s:aU):cn 0 s.d=true:=by
 erw[aU.d,cn,bP,ji,Bool.and_true,Bool.true_and,QCq]
 show#[a_ λr _=>r.low,a_ λp _=>Bd p,a_ λh _=>Bm h]
noncomputable def fe(ts:List (Str×Nat)):List Int:=ts.map λp=>(p.2:Int)
noncomputable def dh(r:Rm):cC:=#[fe r.ao,-1,[],[],r.aa.map λ_=> []]
noncomputable def GH:cj:=#[-1,-1,0,0,0]
noncomputable def bU(w:cx):aU:=#[w.aj.map dh,w.ai.map λp=>((p.2:Int),[]),fe w.ak,w.af.map λh=>(fe h.1,[GH])]
section
variable{S:aE}{Q:Res->aE->Prop}
def j9{ts:List (Str×Nat)}(l:ts.length<=1000)(h:Q (.d (cy (fe ts))) S):Fn gg [.tup (ts.map mH)] S Q:=by
 show cc ?_
 unfold mU
 symm
 apply Ly (λc=>∃a b,c= [a,b]) (λd=>match d with|.tup [_,v]=>v|d=>d) #[none,none,L] ?_
 show#[trivial,by simpa using l,λd g c f=>?_,?_]
 ·let#[p,_,rfl]:=Qkq.mp g
  let#[a,b,rfl]:=f
  show ee L (az (aR (az (aR (bo ?_)))))
  apply#[L,#[_,_,L],?_]
  show#[L,L]
 ·have e:(ts.map mH).map (λd=>match d with|.tup [_,v]=>v|d=>d)=(fe ts).map D.int:=by
   erw[fe,QPq]
   rfl
  rw[e]
  show cZ (d:=cy (fe ts)) (λk z=>(nomatch z)) (ji _) h
def uV{r:Rm}(b:r.ao.length<=6)(c:r.aa.length<=6)(h:Q (.d (dh r).d) S):Fn i3 [r.d] S Q:=by
 show cc ?_
 unfold kW
 symm
 apply ee L (az (aR (az (aR (az (aR (az (aR (az (aR (bo ?_)))))))))))
 apply j9 (!0) ?_
 apply#[by decide,?_]
 apply#[by decide,?_]
 apply K5 (λ_=>.tup []) ?_
 show#[trivial,by simp;omega,λd a=>?_,?_]
 ·symm
  show#[by decide,L,L]
 ·symm
  show#[by show 5<=_;decide,?_]
  have e:D.tup ((r.aa.map IK).map λ_=>D.tup [])=D.tup ((dh r).aa.map dW):=by
   erw[dh,QPq]
   rfl
  rw[e]
  show cZ (d:=(dh r).d) (λk z=>(nomatch z)) (cC.low _) h
def Eu{w:cx}(o:cA w)(h:Q (.d (bU w).d) S):Fn xQ [w.d] S Q:=by
 show cc ?_
 unfold A5
 symm
 apply ee L (az (aR (az (aR (az (aR (az (aR (bo ?_)))))))))
 apply#[by decide,?_]
 let n:=o.l1
 let q:=o.l2
 let l:=o.l3
 let m:=o.l4
 apply tM (α:=Rm) (λc=>∃a,c= [a]) Rm.d (λr=>(dh r).d) #[none,L] ?_
 show#[w.aj,L,trivial,by omega,λr f c e=>?_,?_]
 ·let#[a,rfl]:=e
  apply aR #[L,#[_,L],?_]
  show uV (o.rm r f).l1 (o.rm r f).l2 #[L,L]
 symm
 apply tM (α:=Str×Nat) (λc=>∃a b,c= [a,b]) mH (λp=>Aa ((p.2:Int),[])) #[none,none,L] ?_
 show#[w.ai,L,trivial,by omega,λr f c e=>?_,?_]
 ·let#[a,b,rfl]:=e
  show ee L (az (aR (az (aR (bo ?_)))))
  apply#[L,#[_,_,L],?_]
  apply#[by decide,?_]
  show#[by show 2<=_;decide,L,L]
 symm
 apply j9 (!0) ?_
 apply tM (α:=List (Str×Nat)×List Rw) (λc=>∃a b,c= [a,b,some GH.d]) fV (λh=>Ac (fe h.1,[GH])) #[none,none,L] ?_
 show#[w.af,L,trivial,by omega,λr f c e=>?_,?_]
 ·let#[a,b,rfl]:=e
  show ee L (az (aR (az (aR (bo ?_)))))
  apply#[L,#[_,_,L],?_]
  show j9 (by have:=(o.hd r f).l1;omega) ?_
  symm
  show#[by show 1<=_;decide,?_]
  symm
  show#[by show 2<=_;decide,L,L]
 symm
 show#[by show 4<=_;decide,?_]
 have i:w.aj.map (λr=>(dh r).d)=(bU w).aj.map cC.d:=by erw[bU,QPq];rfl
 have g:w.ai.map (λp=>Aa ((p.2:Int),[]))=(bU w).ai.map Aa:=by erw[bU,QPq];rfl
 have j:w.af.map (λh=>Ac (fe h.1,[GH]))=(bU w).af.map Ac:=by erw[bU,QPq];rfl
 rw[i,g,j]
 show cZ (d:=(bU w).d) (λk z=>(nomatch z)) (aU.low _) h
end
end W28
namespace DL
open L2
section
variable{c:cv}{S:aE}
def qB{f:bp}{Q:D->aE->Prop}(h:E f c S λd a=>∃i,d=.int i/\Q (.int (-i)) a):E (tX f) c S Q:=by
 let#[d,a,b,i,rfl,q]:=h
 show#[_,a,by unfold tX;rw[b];rfl,q]
def kF{f:bp}{lo hi:Iu}{Q:D->aE->Prop}(h:E f c S λd b=>E lo c b λl S2=>E hi c S2 λu a=>∃ds,d=.tup ds/\Q (.tup (fZ ds l u)) a):E (tH f lo hi) c S Q:=by
 let#[d,b,e,l,S2,i,u,a,g,ds,rfl,q]:=h
 show#[_,a,by unfold tH;rw[e];erw[Qbq];rw[i];erw[Qbq];rw[g];rfl,q]
def N2{i j:Nat}{f:fT}{Q:Out->Prop}(h:E f c S λds d=>∃a b,ds= [a,b]/\Q (.nx ((c.set i (some a)).set j (some b)) d)):T (vW i j f) c S Q:=by
 let#[ds,d,e,a,b,rfl,q]:=h
 show⟨_,by unfold vW;rw[e];rfl,q⟩
end
def GF{α:Type}{xs:List α}{i:Nat}(h:i<=xs.length):fZ xs none (some (i:Int))=xs.take i:=by
 unfold fZ
 rw[HT.ud,HT.rJ,Nat.min_eq_left h]
 simp
def jo{α:Type}{xs:List α}{i:Nat}(h:i<=xs.length):fZ xs (some (i:Int)) none=xs.drop i:=by
 unfold fZ
 rw[HT.ud,HT.rJ,Nat.min_eq_left h]
 rw[List.take_of_length_le]
 simp
def yf{α:Type}{xs:List α}(h:0<xs.length):fZ xs none (some (-1))=xs.dropLast:=by
 unfold fZ
 rw[HT.ud]
 show(xs.drop 0).take (HT.dQ xs.length xs.length (some (-1))-0)=_
 rw[show HT.dQ xs.length xs.length (some (-1))=xs.length-1 by erw[HT.dQ];rw[Qhq (!0)];omega]
 simp[List.dropLast_eq_take]
def z4{α:Type}{xs:List α}{x:α}(h:xs.getLast? =some x):mi xs (-1)=some x:=by
 have c:0<xs.length:=by
  cases xs with
  |nil=>cases h
  |cons a b=>simp
 unfold mi GL
 rw[Quq (!0),Qhq (!0)]
 rw[List.getLast?_eq_getElem?] at h
 erw[Qbq]
 rw[show((-1:Int)+(xs.length:Int)).toNat=xs.length-1 by omega]
 show h
end DL
namespace W28
open L2 DL
section
variable{S:aE}{Q:Res->aE->Prop}
def bV{s:aU}{h:Nat}{vs:List Int}{fs:List cj}{f:cj}(b:s.af[h]?=some (vs,fs))(a:fs.getLast? =some f)(q:Q (.d f.d) S):Fn cX [s.d,.int h] S Q:=by
 show cc ?_
 unfold lG
 symm
 apply aB L ?_
 show aB (d:=Ac (vs,fs)) (aQ (by rw[gQm,b];rfl)) ?_
 symm
 show aB L ?_
 apply qB ?_
 show⟨1,L,?_⟩
 show aB (d:=f.d) (z4 (by rw[QfQ,a];rfl)) ?_
 show cZ (λk z=>(nomatch z)) L q
noncomputable def progOf(w:cx)(h:Nat)(f:cj):Option (List Rw):=
 if f.room= -1 then(w.af[h]?).map (·.2) else if 0<=f.room/\0<=f.deed then(w.aj[f.room.toNat]?).bind λr=>(r.ae[f.deed.toNat]?).map (·.2) else none
def lY{α:Type}{xs:List α}{i:Int}{x:α}(a:0<=i)(h:xs[i.toNat]?=some x):mi xs i=some x:=by
 obtain⟨n,rfl⟩:∃n:Nat,i=n:=#[i.toNat,by omega]
 show aQ (by simpa using h)
def zw(rs:List Rw):cn 0 (.tup (rs.map Rw.d))=true:=by erw[cn];show a_ λr _=>r.low
def gn{w:cx}{h:Nat}{f:cj}{pr:List Rw}(a:progOf w h f=some pr)(q:Q (.d (.tup (pr.map Rw.d))) S):Fn fw [w.d,.int h,f.d] S Q:=by
 show cc ?_
 unfold lj
 apply aG (N2 ?_)
 apply aB L ?_
 apply aB L ?_
 apply#[_,_,L,?_]
 show fU ?_
 dsimp only[bM,bg,bN,cP,c7,hJ]
 unfold progOf at a
 by_cases c:f.room= -1
 ·rw[Qhq c] at a
  let#[j,b,rfl]:=oQm.mp a
  rw[Qeq c,Qhq L]
  symm
  apply aB L ?_
  show aB (d:=fV j) (aQ (by rw[gQm,b];rfl)) ?_
  symm
  show aB L ?_
  show cZ (λk z=>(nomatch z)) (zw _) q
 ·rw[Quq c] at a
  split at a
  ·rename_i e
   let#[r,b,a]:=aq a
   let#[g,i,rfl]:=oQm.mp a
   rw[Qdq c,Quq (!1)]
   symm
   apply aB L ?_
   show aB (d:=r.d) (lY e.1 (by rw[gQm,b];rfl)) ?_
   symm
   apply aB L ?_
   show aB (d:=iU g) (lY e.2 (by rw[gQm,i];rfl)) ?_
   symm
   show aB L ?_
   show cZ (λk z=>(nomatch z)) (zw _) q
  ·cases a
def dS{xs:List D}{i:Nat}{d:D}(hi:i<xs.length)(hl:xs.length<=900)(j:bP 0 xs=true)(g:cn 0 d=true)(q:Q (.d (.tup (xs.set i d))) S):Fn dB [.tup xs,.int i,d] S Q:=by
 show cc ?_
 unfold ng
 symm
 apply kF ?_
 apply cI (cJ ?_)
 apply#[_,L,_,L,?_]
 show#[by show 1<=_;decide,?_]
 rw[GF (!0)]
 show dN (by erw[Qxq,Qnq,QGq];show nQl (aL (!0))) ?_
 apply kF ?_
 apply cJ ?_
 show#[_,L,cI #[_,L,?_]]
 rw[show((i:Int)+1)=((i+1:Nat):Int) by omega,jo (!0)]
 show dN (by erw[lQa,Qxq,List.length_drop,Qnq,QGq];show nQl (aL (!0))) ?_
 have e:xs.take i++ [d]++xs.drop (i+1)=xs.set i d:=by
  rw[List.set_eq_take_append_cons_drop,Qhq hi]
  simp
 rw[e]
 show cZ (λk z=>(nomatch z)) ?_ q
 erw[cn]
 show xE λz b=>?_
 rcases QTq b with b|rfl
 ·have c:∀l:List D,bP 0 l=true->∀z∈l,cn 0 z=true:=by
   intro l
   induction l with
   |nil=>intro _ z b;cases b
   | cons a l f=>
     intro h z b
     erw[bP,QCq] at h
     rcases Qsq.mp b with rfl|b
     · show h.1
     · show f h.2 z b
  show c xs j z b
 ·show g
end
section
variable{S:aE}{Q:Res->aE->Prop}
def map_set{α b:Type}(f:α->b)(l:List α)(i:Nat)(a:α):(l.set i a).map f=(l.map f).set i (f a):=by
 rw[List.map_set]
def aX(s:aU):∀k,s.d≠.ref k:=λk z=>(nomatch z)
def dr{s:aU}{i:Nat}{r:cC}(hi:i<s.aj.length)(hl:s.aj.length<=900)(q:Q (.d ({s with aj:=s.aj.set i r}:aU).d) S):Fn c_ [s.d,.int i,r.d] S Q:=by
 show cc ?_
 unfold nL
 symm
 apply aB L ?_
 apply dS (by simpa using hi) (by simpa using hl) (a_ λr _=>r.low) r.low ?_
 show#[by show 1<=_;decide,?_]
 apply kF ?_
 apply cJ ?_
 show#[_,L,cI #[_,L,?_]]
 show dN (by show 4<=_;decide) ?_
 show cZ (d:=({s with aj:=s.aj.set i r}:aU).d) (aX _) (aU.low _) q|>λz=>?_
 rw[<-map_set]
 show z
def gU{s:aU}{i:Nat}{p:Int×List Int}(hi:i<s.ai.length)(hl:s.ai.length<=900)(q:Q (.d ({s with ai:=s.ai.set i p}:aU).d) S):Fn ff [s.d,.int i,Aa p] S Q:=by
 show cc ?_
 unfold nO
 symm
 apply aB L ?_
 apply aB L ?_
 apply dS (by simpa using hi) (by simpa using hl) (a_ λr _=>Bd r) (Bd p) ?_
 show#[by show 2<=_;decide,?_]
 apply kF ?_
 apply cJ ?_
 show#[_,L,cI #[_,L,?_]]
 show dN (by show 4<=_;decide) ?_
 show cZ (d:=({s with ai:=s.ai.set i p}:aU).d) (aX _) (aU.low _) q|>λz=>?_
 rw[<-map_set]
 show z
def g6{s:aU}{i:Nat}{vs:List Int}{fs:List cj}(hi:i<s.af.length)(hl:s.af.length<=900)(q:Q (.d ({s with af:=s.af.set i (vs,fs)}:aU).d) S):Fn eX [s.d,.int i,cy vs,.tup (fs.map cj.d)] S Q:=by
 show cc ?_
 unfold nq
 apply dM (b_ (kF ?_))
 apply cI (cJ ?_)
 apply#[_,L,_,L,?_]
 apply aB L ?_
 show#[by show 2<=_;decide,?_]
 symm
 apply dS (d:=Ac (vs,fs)) (by simpa using hi) (by simpa using hl) (a_ λr _=>Bm r) (Bm (vs,fs)) ?_
 show#[by show 1<=_;decide,?_]
 show dN (by show 4<=_;decide) ?_
 show cZ (d:=({s with af:=s.af.set i (vs,fs)}:aU).d) (aX _) (aU.low _) q|>λz=>?_
 rw[<-map_set]
 show z
def iB{s:aU}{h:Nat}{vs:List Int}{fs:List cj}{f:cj}(a:s.af[h]?=some (vs,fs))(b:0<fs.length)(c:fs.length<=900)(hl:s.af.length<=900)(q:Q (.d ({s with af:=s.af.set h (vs,fs.dropLast++ [f])}:aU).d) S):Fn dG [s.d,.int h,f.d] S Q:=by
 show cc ?_
 unfold f_
 symm
 apply aB L ?_
 show aB (d:=Ac (vs,fs)) (aQ (by rw[gQm,a];rfl)) ?_
 apply ee L (az (aR (az (aR (bo ?_)))))
 apply kF ?_
 apply cI (cJ (qB ?_))
 apply#[1,L,_,L,_,L,?_]
 show#[by show 1<=_;decide,?_]
 rw[yf (by simpa using b)]
 show dN (by erw[List.length_dropLast,lQm,Qnq,QGq];show nQl (aL (!0))) ?_
 symm
 have e:(fs.map cj.d).dropLast++ [f.d]=(fs.dropLast++ [f]).map cj.d:=by rw[Qzq,List.map_dropLast];rfl
 rw[e]
 show g6 (gQs.mp a).1 hl ?_
 show cZ (aX _) (aU.low _) q
def qp{s:aU}{h:Nat}{vs:List Int}{fs:List cj}{f:cj}{n:Int}(e:s.af[h]?=some (vs,fs))(c:fs.getLast? =some f)(g:fs.length<=900)(hl:s.af.length<=900)(q:Q (.d ({s with af:=s.af.set h (vs,fs.dropLast++ [{f with row:=n}])}:aU).d) S):Fn kb [s.d,.int h,.int n] S Q:=by
 show cc ?_
 unfold xt
 symm
 apply bV e c ?_
 apply kF ?_
 apply cI (cJ ?_)
 apply#[_,L,_,L,?_]
 show#[by show 1<=_;decide,?_]
 show dN (by show 3<=_;decide) ?_
 apply kF ?_
 apply cJ ?_
 show#[_,L,cI #[_,L,?_]]
 show dN (by show 5<=_;decide) ?_
 symm
 have i:0<fs.length:=by
  cases fs with
  |nil=>cases c
  |cons a b=>simp
 show iB (f:={f with row:=n}) e i g hl ?_
 show cZ (aX _) (aU.low _) q
noncomputable def gM(r:cC)(h:Int):cC:=if r.within= -1 then{r with within:=h} else{r with row:=r.row++ [h]}
noncomputable def cg(r:cC):cC:=match r.ag,r.row with
 |a::l,_=>{r with within:=a,ag:=l}
 | [],a::l=>{r with within:=a,row:=l}
 | [],[]=>{r with within:= -1}
def ua{s:aU}{i:Nat}{h:Int}{r:cC}(a:s.aj[i]?=some r)(hl:s.aj.length<=900)(f:r.row.length<=900)(q:Q (.d ({s with aj:=s.aj.set i (gM r h)}:aU).d) S):Fn lF [s.d,.int i,.int h] S Q:=by
 let b:=(gQs.mp a).1
 show cc ?_
 unfold sZ
 symm
 apply aB L ?_
 show aB (d:=r.d) (aQ (by rw[gQm,a];rfl)) ?_
 apply ee L (az (aR (az (aR (az (aR (az (aR (az (aR (bo ?_)))))))))))
 show fU ?_
 dsimp only[bM,bg,bN,cP,c7,hJ]
 unfold gM at q
 by_cases c:r.within= -1
 ·rw[Qhq c] at q
  rw[Qeq c,Qhq L]
  symm
  show#[by show 5<=_;decide,?_]
  symm
  show dr (r:={r with within:=h}) b hl ?_
  show cZ (aX _) (aU.low _) q
 ·rw[Quq c] at q
  rw[Qdq c,Quq (!1)]
  symm
  show#[by show 1<=_;decide,?_]
  show dN (by erw[lQm,Qnq,QGq];show nQl (aL (!0))) ?_
  symm
  show#[by show 5<=_;decide,?_]
  symm
  have e:D.tup (r.row.map D.int++ [D.int h])=cy (r.row++ [h]):=by simp[cy]
  rw[e]
  show dr (r:={r with row:=r.row++ [h]}) b hl ?_
  show cZ (aX _) (aU.low _) q
end
section
variable{S:aE}{Q:Res->aE->Prop}
def FJ{α:Type}{a:α}{l:List α}:mi (a::l) 0=some a:=aQ (j:=0) L
def vU{S:aE}{ds:List D}{Q:Bool->Prop}(q:Q (!ds.isEmpty)):Op (AE S (.tup ds)) Q:=#[_,L,q]
def zU{s:aU}{i:Nat}{r:cC}(k:s.aj[i]?=some r)(hl:s.aj.length<=900)(q:Q (.d ({s with aj:=s.aj.set i (cg r)}:aU).d) S):Fn qm [s.d,.int i] S Q:=by
 let h:=(gQs.mp k).1
 show cc ?_
 unfold Aq
 symm
 apply aB L ?_
 show aB (d:=r.d) (aQ (by rw[gQm,k];rfl)) ?_
 show ee L (az (aR (az (aR (az (aR (az (aR (az (aR (bo ?_)))))))))))
 let#[b,g,f,m,j]:=r
 symm
 show vU ?_
 cases m with
 | cons a l=>
   apply bD (λ_=>?_) (λc=>by cases c)
   apply aB (d:=.int a) FJ ?_
   apply kF ?_
   apply cJ ?_
   apply#[_,L,cI #[_,L,?_]]
   show#[by show 5<=_;decide,?_]
   symm
   have e:D.tup (fZ ((a::l).map D.int) (some 1) none)=cy l:=by
     rw[show(some (1:Int))=some ((1:Nat):Int) from L,jo (by simp)]
     rfl
   rw[e]
   show dr (r:=#[b,a,f,l,j]) h hl ?_
   show cZ (aX _) (aU.low _) q
 | nil=>
   show bD (λc=>by cases c) (λ_=>?_)
   apply dg ?_
   show vU ?_
   cases f with
   | cons a l=>
     apply bD (λ_=>?_) (λc=>by cases c)
     apply aB (d:=.int a) FJ ?_
     apply kF ?_
     apply cJ ?_
     apply#[_,L,cI #[_,L,?_]]
     show#[by show 5<=_;decide,?_]
     symm
     have e:D.tup (fZ ((a::l).map D.int) (some 1) none)=cy l:=by
       rw[show(some (1:Int))=some ((1:Nat):Int) from L,jo (by simp)]
       rfl
     rw[e]
     show dr (r:=#[b,a,l,[],j]) h hl ?_
     show cZ (aX _) (aU.low _) q
   | nil=>
     show bD (λc=>by cases c) (λ_=>?_)
     apply dg ?_
     show#[by show 5<=_;decide,?_]
     symm
     show dr (r:=#[b,-1,[],[],j]) h hl ?_
     show cZ (aX _) (aU.low _) q
def fu{α:Type}{enc:α->D}{nm:α->Str}{xs:List α}(he:∀a,∃r,enc a=.tup (.str (nm a)::r))(hl:xs.length<=1000)(q:Q (.l ((xs.map nm).map D.str)) S):Fn ed [.tup (xs.map enc)] S Q:=by
 show cc ?_
 unfold pR
 symm
 apply tM (α:=α) (λb=>∃a,b= [a]) enc (λa=>.str (nm a)) #[none,L] ?_
 show#[xs,L,trivial,hl,λr d b c=>?_,?_]
 ·let#[a,rfl]:=c
  show aR #[L,#[_,L],?_]
  let#[f,e]:=he r
  rw[e]
  symm
  show aB FJ #[L,L]
 ·have e:xs.map (λa=>D.str (nm a))=(xs.map nm).map D.str:=by rw[QPq];rfl
  rw[e]
  show Fu (a_ λ_ _=>rfl) q
theorem nJ:∀a:List Str,iz (a.map D.str)=some (a.map V.str)
 | []=>rfl
 |s::a=>by erw[QDq,iz,wL,Qbq];rw[nJ a];rfl
theorem wV{x:Str}:∀{ns:X6},x∈ns->∃j,oE (.str x) (ns.map V.str)=some j/\ns[j]?=some x
 | [],h=>by cases h
 | n::ns,h=>by
   by_cases c:n=x
   · subst c
     show#[0,by simp[oE,qX],L]
   · let#[j,b,a]:=wV (ns:=ns) ((Qsq.mp h).resolve_left (Ne.symm c))
     show#[j+1,by erw[QDq,oE];rw[b];simp[qX,c],by simpa using a]
end
end W28
namespace DL
open L2
section
variable{a:cv}{S:aE}
def MF{T:String}{f:bp}{Q:D->aE->Prop}(h:E f a S λd b=>Op (Hc b T d) λk=>Q (.bl k) b):E (Ds T f) a S Q:=by
 let#[d,b,c,k,e,q]:=h
 show#[_,b,by unfold Ds;rw[c];erw[Qbq];rw[e];rfl,q]
def um{b:Bool}{Q:Bool->Prop}(q:Q b):Op (AE S (.bl b)) Q:=#[_,L,q]
def Mm{f g:bp}{Q:D->aE->Prop}(h:E f a S λx b=>E g a b λy S2=>∃k kvs z v,x=.ref k/\y=.str z/\S2[k]?=some (.dct kvs)/\jk kvs (.inr z)=some v/\Q v S2):E (Jh f g) a S Q:=by
 let#[x,b,c,y,S2,d,k,kvs,z,v,rfl,rfl,h1,h2,q]:=h
 show#[v,S2,by unfold Jh;rw[c];erw[Qbq];rw[d];erw[Qbq,h1,pd,h2],q]
def FK{i j:Int}{Q:D->Prop}(q:Q (.int (if j<i then j else i))):Op (minD [.int i,.int j]) Q:=#[_,L,q]
def M1{i j:Int}{Q:D->Prop}(q:Q (.int (if j>i then j else i))):Op (maxD [.int i,.int j]) Q:=#[_,L,q]
end
end DL
namespace W28
open L2 DL
noncomputable def L5(o:Str)(a b:Int):Int:=
 if o="plus" then(if 9<a+b then 9 else a+b) else if o="minus" then(if 0>a-b then 0 else a-b) else if o="less" then(if a<b then 1 else 0)
 else if o="same" then(if a=b then 1 else 0) else(if a≠0/\b≠0 then 1 else 0)
noncomputable def z9(th wt:Str->Int):Tr->Int
 |.num n=>n
 |.word x=>th x
 |.waits b=>if 0<wt b then 1 else 0
 |.no t=>if z9 th wt t=0 then 1 else 0
 |.two o a b=>L5 o (z9 th wt a) (z9 th wt b)
def D5{o:Str}{a b:Int}(c:0<=a/\a<=9)(d:0<=b/\b<=9):0<=L5 o a b/\L5 o a b<=9:=by
 unfold L5
 repeat' split
 all_goals omega
theorem lQ{th wt:Str->Int}{ws bs:X6}(h:∀x∈ws,0<=th x/\th x<=9):∀{t:Tr},t.Ok ws bs->0<=z9 th wt t/\z9 th wt t<=9
 |.num n,ho=>by have:n<=9:=ho;erw[z9];omega
 |.word x,ho=>h x ho
 |.waits b,_=>by erw[z9];split <;>omega
 |.no t,_=>by erw[z9];split <;>omega
 |.two o a b,ho=>D5 (lQ h ho.2.1) (lQ h ho.2.2)
section
variable{S:aE}{Q:Res->aE->Prop}
def dC{S:aE}{i:Int}{Q:Res->aE->Prop}(q:Q (.d (.int i)) S):Op (settle S (.int i) S) λp=>Q p.1 p.2:=cZ (λk z=>(nomatch z)) L q
def qY{o:Str}{a b:Int}(q:Q (.d (.int (L5 o a b))) S):Fn gk [.str o,.int a,.int b] S Q:=by
 show cc ?_
 unfold i8
 unfold L5 at q
 symm
 show iZ ?_
 dsimp only[bM,bg,bN,cP,c7,hJ]
 by_cases j:o="plus"
 ·rw[Qhq j] at q
  rw[Qeq j,Qhq L]
  symm
  show FK ?_
  show dC q
 rw[Quq j] at q
 rw[Qdq j,Quq (!1)]
 apply dg ?_
 show iZ ?_
 dsimp only[bM,bg,bN,cP,c7,hJ]
 by_cases e:o="minus"
 ·rw[Qhq e] at q
  rw[Qeq e,Qhq L]
  symm
  show M1 ?_
  show dC q
 rw[Quq e] at q
 rw[Qdq e,Quq (!1)]
 apply dg ?_
 show iZ ?_
 dsimp only[bM,bg,bN,cP,c7,hJ]
 by_cases f:o="less"
 ·rw[Qhq f] at q
  rw[Qeq f,Qhq L]
  symm
  by_cases c:a<b
  ·rw[Qhq c] at q
   rw[Qeq c,Qhq L]
   symm
   show dC q
  ·rw[Quq c] at q
   rw[Qdq c,Quq (!1)]
   symm
   show dC q
 rw[Quq f] at q
 rw[Qdq f,Quq (!1)]
 apply dg ?_
 show iZ ?_
 dsimp only[bM,bg,bN,cP,c7,hJ]
 by_cases i:o="same"
 ·rw[Qhq i] at q
  rw[Qeq i,Qhq L]
  symm
  show fU ?_
  dsimp only[bM,bg,bN,cP,c7,hJ]
  by_cases c:a=b
  ·rw[Qhq c] at q
   rw[Qeq c,Qhq L]
   symm
   show dC q
  ·rw[Quq c] at q
   rw[Qdq c,Quq (!1)]
   symm
   show dC q
 rw[Quq i] at q
 rw[Qdq i,Quq (!1)]
 apply dg ?_
 show mO ?_
 dsimp only[bM,bg,bN,cP,c7,hJ]
 by_cases g:a=0
 ·rw[Quq (λz=>z.1 g)] at q
  rw[Qeq g]
  show if (false=true) then _ else _
  rw[Quq (!1)]
  show if (false=true) then _ else _
  rw[Quq (!1)]
  symm
  show dC q
 ·rw[Qdq g]
  show if (true=true) then _ else _
  rw[Qhq L]
  symm
  show mO ?_
  dsimp only[bM,bg,bN,cP,c7,hJ]
  by_cases h:b=0
  ·rw[Quq (λz=>z.2 h)] at q
   rw[Qeq h]
   show if (false=true) then _ else _
   rw[Quq (!1)]
   symm
   show dC q
  ·rw[Qhq #[g,h]] at q
   rw[Qdq h]
   show if (true=true) then _ else _
   rw[Qhq L]
   symm
   show dC q
end
def gX{c:cv}{S:aE}{T:String}{f:bp}{d:D}{b:Bool}{Q:Bool->aE->Prop}(h:E f c S λx a=>x=d/\a=S)(e:Hc S T d=some b)(q:Q b S):E (lC (Ds T f)) c S Q:=by
 show CA (MF (h.mono λx a i=>?_))
 let#[g,j]:=i
 subst g j
 show#[b,e,um q]
def Im{o:Str}(h:o∈ops):o≠"waits" /\o≠"not":=by
 erw[ops,Qsq,QXq,or_false] at h
 rcases h with rfl|rfl|rfl|rfl|rfl <;>show#[by decide +kernel,by decide +kernel]
theorem gw{th wt:Str->Int}{ws bs:X6}{i j:Nat}{kvs kws:List (Key×D)}{S:aE}(hi:S[i]?=some (.dct kvs))(g:S[j]?=some (.dct kws))(f:∀x∈ws,jk kvs (.inr x)=some (.int (th x)))(e:∀b∈bs,jk kws (.inr b)=some (.int (wt b))):
  ∀(n:Nat) (t:Tr) {Q:Res->aE->Prop},t.Ok ws bs->t.dep<=n->Q (.d (.int (z9 th wt t))) S->Fn (gf n) [t.d,.ref i,.ref j] S Q
 |0,t,Q,_,hd,_=>by cases t <;>simp[Tr.dep] at hd
 | n+1,t,Q,ho,hd,q=>by
   show cc ?_
   unfold pU
   cases t with
   | num v=>
     show aG (fE (gX (d:=.int v) (ax L #[L,L]) L ?_))
     apply bD (λ_=>?_) (λc=>by cases c)
     show dC q
   | word x=>
     show aG (fE (gX (d:=.str x) (ax L #[L,L]) L ?_))
     show bD (λc=>by cases c) (λ_=>dg ?_)
     show aG (fE (gX (d:=.str x) (ax L #[L,L]) L ?_))
     show bD (λ_=>?_) (λc=>by cases c)
     apply dM (Mm ?_)
     show#[_,_,_,_,L,L,hi,f x ho,?_]
     show dC q
   | waits b=>
     show aG (fE (gX (d:=.tup [.str "waits",.str b]) (ax L #[L,L]) L ?_))
     show bD (λc=>by cases c) (λ_=>dg ?_)
     show aG (fE (gX (d:=.tup [.str "waits",.str b]) (ax L #[L,L]) L ?_))
     apply bD (λc=>by cases c) (λ_=>dg ?_)
     apply aB L ?_
     show iZ ?_
     dsimp only[bM,bg,bN,cP,c7,hJ]
     rw[Qeq L,Qhq L]
     symm
     apply Mm ?_
     show aB L ?_
     apply#[_,_,_,_,L,L,g,e b ho,?_]
     erw[z9] at q
     by_cases c:0<wt b
     · rw[Qhq c] at q
       rw[Qeq c,Qhq L]
       symm
       show dC q
     · rw[Quq c] at q
       rw[Qdq c,Quq (!1)]
       symm
       show dC q
   | no t=>
     have k:t.dep<=n:=by erw[Tr.dep] at hd;omega
     show aG (fE (gX (d:=.tup [.str "not",t.d]) (ax L #[L,L]) L ?_))
     show bD (λc=>by cases c) (λ_=>dg ?_)
     show aG (fE (gX (d:=.tup [.str "not",t.d]) (ax L #[L,L]) L ?_))
     apply bD (λc=>by cases c) (λ_=>dg ?_)
     apply aB L ?_
     show iZ ?_
     dsimp only[bM,bg,bN,cP,c7,hJ]
     rw[Qdq (show¬(("not":Str)="waits") by decide +kernel),Quq (!1)]
     apply dg ?_
     apply aB L ?_
     apply gw hi g f e n t ho k ?_
     apply aB L ?_
     show iZ ?_
     dsimp only[bM,bg,bN,cP,c7,hJ]
     rw[Qeq L,Qhq L]
     symm
     show fU ?_
     dsimp only[bM,bg,bN,cP,c7,hJ]
     erw[z9] at q
     by_cases c:z9 th wt t=0
     · rw[Qhq c] at q
       rw[Qeq c,Qhq L]
       symm
       show dC q
     · rw[Quq c] at q
       rw[Qdq c,Quq (!1)]
       symm
       show dC q
   | two o a b=>
     have h:a.dep<=n:=by erw[Tr.dep] at hd;omega
     have l:b.dep<=n:=by erw[Tr.dep] at hd;omega
     let#[m,p]:=Im ho.1
     show aG (fE (gX (d:=.tup [.str o,a.d,b.d]) (ax L #[L,L]) L ?_))
     show bD (λc=>by cases c) (λ_=>dg ?_)
     show aG (fE (gX (d:=.tup [.str o,a.d,b.d]) (ax L #[L,L]) L ?_))
     apply bD (λc=>by cases c) (λ_=>dg ?_)
     apply aB L ?_
     show iZ ?_
     dsimp only[bM,bg,bN,cP,c7,hJ]
     rw[Qdq m,Quq (!1)]
     apply dg ?_
     apply aB L ?_
     apply gw hi g f e n a ho.2.1 h ?_
     apply aB L ?_
     show iZ ?_
     dsimp only[bM,bg,bN,cP,c7,hJ]
     rw[Qdq p,Quq (!1)]
     apply dg ?_
     apply aB L ?_
     apply aB L ?_
     apply gw hi g f e n b ho.2.2 l ?_
     show qY ?_
     show dC q
end W28
namespace DL
open L2
def vG{l:List (Key×D)}{k:Key}(h:k∈l.map (·.1)):∃d,jk l k=some d/\(k,d)∈l:=by
 unfold jk
 cases e:l.find? λb=>decide (b.1=k) with
 | none=>
   let#[p,a,rfl]:=Qkq.mp h
   have:=List.find?_eq_none.mp e p a
   simp at this
 | some p=>
   let f:=List.find?_some e
   let c:=List.mem_of_find?_eq_some e
   have g:p.1=k:=by simpa using f
   show#[p.2,L,by rw[<-g];show c]
def yw{l:List (Key×D)}{k:Key}{v:D}{p:Key×D}(h:p∈putD l k v):p∈l\/p=(k,v):=by
 unfold putD at h
 split at h
 ·let#[q,a,e]:=Qkq.mp h
  split at e
  ·rename_i c
   rw[<-e,c]
   show .inr L
  ·rw[<-e]
   show .inl a
 ·rcases mQa.mp h with h|h
  ·show .inl h
  ·show .inr (Qfq.mp h)
def lS{l:List (Key×D)}{k x:Key}{v:D}(h:x=k\/x∈l.map (·.1)):x∈(putD l k v).map (·.1):=by
 unfold putD
 split
 ·rename_i c
  have a:∀p∈l,(if p.1=k then(p.1,v) else p).1=p.1:=λp _=>by split <;>rfl
  have e:(l.map λp=>if p.1=k then(p.1,v) else p).map (·.1)=l.map (·.1):=by
   rw[QPq]
   show List.map_congr_left a
  rw[e]
  rcases h with rfl|h
  ·let#[p,b,d]:=List.any_eq_true.mp c
   show Qkq.mpr #[p,b,by simpa using d]
  ·show h
 ·rw[Qzq]
  rcases h with rfl|h
  ·show Qoq _ (by simp)
  ·show List.mem_append_left _ h
theorem nz:∀{more l:List (Key×D)} {p:Key×D},p∈c8 l more->p∈l\/p∈more
 | [],l,p,h=>.inl h
 | q::more,l,p,h=>by
   rcases nz (more:=more) (l:=putD l q.1 q.2) h with h|h
   · rcases yw h with h|rfl
     · show .inl h
     · show .inr (QBq ..)
   · show .inr (Qpq _ h)
theorem gA:∀{more l:List (Key×D)} {x:Key},x∈l.map (·.1)\/x∈more.map (·.1)->x∈(c8 l more).map (·.1)
 | [],l,x,h=>h.elim id λz=>by cases z
 | q::more,l,x,h=>by
   show gA (more:=more) (l:=putD l q.1 q.2) ?_
   rcases h with h|h
   · show .inl (lS (.inr h))
   · rcases Qsq.mp h with rfl|h
     · show .inl (lS (.inl L))
     · show .inr h
theorem tR:∀a:List Str,zA (a.map D.str)=some (a.map Sum.inr)
 | []=>rfl
 |s::a=>by erw[QDq,zA,pd,Qbq];rw[tR a];rfl
section
variable{b:cv}{S:aE}
def NY{Q:D->aE->Prop}(q:Q (.ref S.length) (S++ [.dct []])):E Oo b S Q:=#[_,_,L,q]
def Kq{f g:d0}{Q:D->aE->Prop}(h:E f b S λp c=>E g b c λr S2=>∃a:List Str,p.1=a.map D.str/\(p.2.stays S2 p.1/\p.1.length=r.1.length)/\Q (.ref S2.length) (S2++ [.dct (c8 [] ((a.map Sum.inr).zip r.1))])):E (L0 f g) b S Q:=by
 let#[p,c,d,r,S2,j,a,i,e,q]:=h
 show#[_,_,?_,q]
 unfold L0
 rw[d]
 erw[Qbq]
 rw[j]
 erw[Qbq]
 rw[Qhq e,i,tR]
 rfl
def MC{f g:bp}{Q:D->aE->Prop}(h:E f b S λx a=>E g b a λy S2=>∃k j c l m,x=.ref k/\y=.ref j/\k≠j/\a[k]?=some (.dct c)/\S2[k]?=some (.dct l)/\S2[j]?=some (.dct m)/\l.length+m.length<=sizeLine/\Q .non (S2.set k (.dct (c8 l m)))):E (H_ f g) b S Q:=by
 let#[x,a,d,y,S2,e,k,j,c,l,m,rfl,rfl,hn,h0,h1,h2,h3,q]:=h
 show#[_,_,by unfold H_;rw[d];erw[Qbq];rw[e];erw[Qbq];rw[Qhq hn];erw[h0,h1,h2];rw[Qhq h3],q]
def Pp{f g h:bp}{Q:Out->Prop}(w:E h b S λd c=>E f b c λx S2=>E g b S2 λy a=>∃k l z,x=.ref k/\y=.str z/\a[k]?=some (.dct l)/\l.length<sizeLine/\Q (.nx b (a.set k (.dct (putD l (.inr z) d))))):T (Kh f g h) b S Q:=by
 let#[d,c,e,x,S2,j,y,a,i,k,l,z,rfl,rfl,h1,h2,q]:=w
 show#[_,by unfold Kh;rw[e];erw[Qbq];rw[j];erw[Qbq];rw[i];erw[Qbq,h1,pd];rw[Qhq h2],q]
def Pz{α:Type}{n:Nat}{js:List (Option Nat)}{i:uz}{g:mv}{t w:bp}{Q:Out->Prop}(P:cv->Prop)(enc:α->D)(j:α->Str)(f:α->D)(H:P (mE js b)) (h:E i b S λp e=>∃xs:List α,p.1=xs.map enc/\p.2 e/\xs.length<=1000∧
   (∀x∈xs,∀d,P d->Tg g (enc x) d e λm S2=>S2=e/\P m/\E t m e λy C=>y=.str (j x)/\C=e/\E w m e λz F=>z=f x/\F=e)∧
   Q (.nx (b.set n (some (.ref e.length))) (e++ [.dct (c8 [] (xs.map λx=>(Sum.inr (j x),f x)))]))):T (MR n (p_ js i g bI t w)) b S Q:=by
 let#[#[X,W],e,N,xs,rfl,hW,hl,hs,q]:=h
 have I:∀(l:List (Key×D)) (k:Key) (v:D),(putD l k v).length<=l.length+1:=λl k v=>by
  unfold putD
  split <;>simp
 have U:∀(o:List α) (d:cv) (c:List (Key×D)),(∀y∈o,y∈xs)->P d->c.length+o.length<=1000->∃r,i9 g bI t w W (o.map enc) d e c=some (r,e)/\r=c8 c (o.map λx=>(Sum.inr (j x),f x)):=by
  intro o
  induction o with
  |nil=>intro d c _ _ _;show#[c,by erw[List.map_nil,i9];rw[Qhq hW],L]
  | cons a o R=>
    intro d c B J s
    let#[m,S2,u,rfl,hp1,y,C,e3,rfl,rfl,z,F,e4,rfl,rfl]:=hs a (B a (QBq ..)) d J
    let A:=I c (Sum.inr (j a)) (f a)
    erw[Qnq] at s
    let#[r,G,M]:=R m (putD c (Sum.inr (j a)) (f a)) (λy K=>B y (Qpq _ K)) hp1 (!0)
    show#[r,?_,M]
    erw[QDq,i9]
    rw[Qhq hW,u]
    erw[Qbq,bI,if_true]
    rw[e3]
    erw[Qbq]
    rw[e4]
    erw[Qbq,pd]
    rw[Qhq (aL (!0))]
    show G
 let#[r,u,rfl]:=U xs _ [] (λ_ h=>h) H (by simpa using hl)
 show#[_,by unfold MR p_;rw[N];erw[Qbq];rw[u];rfl,q]
end
def ED{a:cv}{S:aE}{f g:d0}{Q:(List D×(aE->Prop))->aE->Prop}(h:E f a S λp b=>E g a b λr S2=>(p.2.stays S2 p.1/\p.1.length<=r.1.length)/\Q (yW p.1 r.1,λS=>p.2.stays S p.1/\r.2.stays S r.1) S2):E (Gz f g) a S Q:=by
 let#[p,b,c,r,S2,e,d,q]:=h
 show#[_,S2,by unfold Gz;rw[c];erw[Qbq];rw[e];erw[Qbq];rw[Qhq d],q]
def kU(l:List (Key×D)):Prop:=∀p∈l,∃v:Int,p.2=.int v/\0<=v/\v<=9
def kU.merge{l m:List (Key×D)}(c:kU l)(b:kU m):kU (c8 l m):=λp a=>(nz a).elim (c p) (b p)
def kU.put{l:List (Key×D)}{k:Key}{v:Int}(h:kU l)(c:0<=v)(b:v<=9):kU (putD l k (.int v)):=λp a=>by
 rcases yw a with a|rfl
 ·show h p a
 ·show#[v,L,c,b]
noncomputable def numAt(l:List (Key×D))(x:Str):Int:=match jk l (.inr x) with|some (.int v)=>v|_=>0
def oB{l:List (Key×D)}(h:kU l){x:Str}(i:(Sum.inr x:Key)∈l.map (·.1)):jk l (.inr x)=some (.int (numAt l x))/\0<=numAt l x/\numAt l x<=9:=by
 let#[d,b,c]:=vG i
 let#[v,a,f,g]:=h _ c
 have a:d=.int v:=a
 subst a
 have e:numAt l x=v:=by unfold numAt;rw[b]
 rw[e]
 show#[b,f,g]
def FA{d:X6}{vs:List Int}(h:∀v∈vs,0<=v/\v<=9):kU ((d.map (Sum.inr:Str->Key)).zip (vs.map D.int)):=λp a=>by
 have c:p.2∈vs.map D.int:=(QeQ (show(p.1,p.2)∈_ from a)).2
 let#[v,b,e]:=Qkq.mp c
 show#[v,e.symm,h v b]
def EK{a:X6}{ds:List D}(h:a.length=ds.length):((a.map (Sum.inr:Str->Key)).zip ds).map (·.1)=a.map Sum.inr:=by
 rw[List.map_fst_zip]
 simpa using Nat.le_of_eq h
end DL
namespace W28
open L2 DL
noncomputable def dY(ts:List (Str×Nat))(vs:List Int):List (Key×D):=c8 [] (((ts.map (·.1)).map Sum.inr).zip (vs.map D.int))
noncomputable def CW(w:cx)(s:aU)(ts:List (Str×Nat))(vs:List Int):List (Key×D):=c8 (dY w.ak s.ak) (dY ts vs)
noncomputable def vp(r:Rm)(rs:cC)(a:Int):List (Key×D):=putD (dY r.ao rs.vals) (.inr "given") (.int a)
noncomputable def B5(r:Rm)(rs:cC):List (Key×D):=c8 [] ((r.aa.zip rs.aa).map λp=>(Sum.inr p.1.1,D.int (p.2.length:Nat)))
def hG{ts:List (Str×Nat)}{vs:List Int}(h:∀v∈vs,0<=v/\v<=9):kU (dY ts vs):=kU.merge (λp a=>by cases a) (FA h)
def g_{ts:List (Str×Nat)}{vs:List Int}(hl:ts.length=vs.length){x:Str}(h:x∈ts.map (·.1)):(Sum.inr x:Key)∈(dY ts vs).map (·.1):=by
 show gA (.inr ?_)
 rw[EK (by simpa using hl)]
 show Qkq.mpr #[x,h,L]
structure l6(S S':aE):Prop where
 len:S.length<=S'.length
 eq:∀j,j<S.length->S'[j]?=S[j]?
def l6.refl{S:aE}:l6 S S:=#[Qmq _,λ_ _=>rfl]
def l6.app{S a G:aE}(x:l6 S a):l6 S (a++G):=#[by rw[lQa];have:=x.len;omega,λj b=>by rw[QHq (by have:=x.len;omega)];show x.eq j b]
def l6.put{S a:aE}{r:Nat}{o:O}(x:l6 S a)(c:S.length<=r):l6 S (a.set r o):=#[by simpa using x.len,λj b=>by rw[QKq (!0)];show x.eq j b]
def tT{S a:aE}{d:D}{Q:Res->aE->Prop}(x:l6 S a)(c:∀k,d≠.ref k)(hl:cn 0 d=true)(q:Q (.d d) S):Op (settle S d a) λp=>Q p.1 p.2:=by
 show h_ #[x.len,λk o f e=>.inl (by rw[<-x.eq k f];show e)] ?_ c (eL hl) q
 apply List.ext_getElem?
 intro j
 by_cases b:j<S.length
 ·rw[List.getElem?_take_of_lt b]
  show x.eq j b
 ·rw[List.getElem?_eq_none (by rw[Qxq];omega),List.getElem?_eq_none (!0)]
def g7:∀a:Str×Nat,∃r,mH a=.tup (.str a.1::r):=λa=>#[_,L]
def B4:∀a:Str×Str,∃r,IK a=.tup (.str a.1::r):=λa=>#[_,L]
section
variable{S:aE}{Q:Res->aE->Prop}
theorem ui:∀{m l:List (Key×D)},(c8 l m).length<=l.length+m.length
 | [],l=>Qmq _
 | q::m,l=>by
   have a:(c8 (putD l q.1 q.2) m).length<=(putD l q.1 q.2).length+m.length:=ui
   have b:(putD l q.1 q.2).length<=l.length+1:=by unfold putD;split <;>simp
   show(c8 (putD l q.1 q.2) m).length<=_
   erw[Qnq]
   omega
def su{ts:List (Str×Nat)}{vs:List Int}:(dY ts vs).length<=ts.length:=by
 show QAq ui ?_
 erw[QGq,List.length_zip,lQm]
 omega
def xp{w:cx}{s:aU}{h:Nat}{ts:List (Str×Nat)}{pr:List Rw}{vs:List Int}{fs:List cj}{f:cj}{t:Tr}(B:w.af[h]?=some (ts,pr))(n:s.af[h]?=some (vs,fs))(C:fs.getLast? =some f)(H:f.room= -1)
  (p:w.ak.length=s.ak.length) (r:ts.length=vs.length) (K:w.ak.length<=100) (P:ts.length<=100) (A:∀v∈s.ak,0<=v/\v<=9) (I:∀v∈vs,0<=v/\v<=9)
  (F:t.Ok (ts.map (·.1)++w.ak.map (·.1)) []) (u:t.dep<=6) (q:Q (.d (.int (z9 (numAt (CW w s ts vs)) (λ_=>0) t))) S):Fn dH [w.d,s.d,.int h,t.d] S Q:=by
 have c:kU (CW w s ts vs):=kU.merge (hG A) (hG I)
 show cc ?_
 unfold lW
 symm
 apply bV n C ?_
 apply aB (d:=.int f.room) L ?_
 show fU ?_
 dsimp only[bM,bg,bN,cP,c7,hJ]
 rw[Qeq H,Qhq L]
 symm
 apply Kq ?_
 apply aB L ?_
 apply fu (enc:=mH) (nm:=(·.1)) g7 (!0) ?_
 show aB L ?_
 show df (ds:=s.ak.map D.int) ?_
 show#[_,L,#[trivial,by erw[lQm];show p],?_]
 dsimp only[bM,bg,bN,cP,c7,hJ]
 rw[show c8 [] (((w.ak.map (·.1)).map (Sum.inr:Str->Key)).zip (s.ak.map D.int))=dY w.ak s.ak from L]
 apply aG (kE (MC ?_))
 apply Kq ?_
 apply aB L ?_
 show aB (d:=fV (ts,pr)) (aQ (by rw[gQm,B];rfl)) ?_
 symm
 apply aB L ?_
 apply fu (enc:=mH) (nm:=(·.1)) g7 (!0) ?_
 apply aB L ?_
 show aB (d:=Ac (vs,fs)) (aQ (by rw[gQm,n];rfl)) ?_
 symm
 show aB L ?_
 show df (ds:=vs.map D.int) ?_
 show#[_,L,#[trivial,by erw[lQm];show r],?_]
 dsimp only[bM,bg,bN,cP,c7,hJ]
 rw[show c8 [] (((ts.map (·.1)).map (Sum.inr:Str->Key)).zip (vs.map D.int))=dY ts vs from L]
 have e:(S++ [O.dct (dY w.ak s.ak)])[S.length]?=some (.dct (dY w.ak s.ak)):=aS
 have i:(S++ [O.dct (dY w.ak s.ak)]).length=S.length+1:=by simp
 have J:l6 S (S++ [O.dct (dY w.ak s.ak)]):=l6.refl.app
 show∃k j G l m,D.ref S.length=.ref k/\D.ref (S++ [O.dct (dY w.ak s.ak)]).length=.ref j/\k≠j/\(S++ [O.dct (dY w.ak s.ak)])[k]?=some (.dct G)/\(S++ [O.dct (dY w.ak s.ak)]++ [O.dct (dY ts vs)])[k]?=some (.dct l)/\(S++ [O.dct (dY w.ak s.ak)]++ [O.dct (dY ts vs)])[j]?=some (.dct m)/\_
 show#[_,_,_,_,_,L,L,by omega,e,aZ e,aS,?_,?_]
 ·let N:=su (ts:=w.ak) (vs:=s.ak)
  let M:=su (ts:=ts) (vs:=vs)
  show nQl (aL (!0))
 have g:((S++ [O.dct (dY w.ak s.ak)]++ [O.dct (dY ts vs)]).set S.length (.dct (c8 (dY w.ak s.ak) (dY ts vs))))[S.length]?=some (.dct (CW w s ts vs)):=fc (aZ e)
 have o:l6 S ((S++ [O.dct (dY w.ak s.ak)]++ [O.dct (dY ts vs)]).set S.length (.dct (c8 (dY w.ak s.ak) (dY ts vs)))):=J.app.put (Qmq _)
 generalize ((S++ [O.dct (dY w.ak s.ak)]++ [O.dct (dY ts vs)]).set S.length (.dct (c8 (dY w.ak s.ak) (dY ts vs))))=S2 at g o|-
 symm
 apply NY ?_
 show gw (th:=numAt (CW w s ts vs)) (wt:=λ_=>0) (ws:=ts.map (·.1)++w.ak.map (·.1)) (bs:= []) (aZ g) aS (λx a=>?_) (λb y=>by cases y) 6 t F u ?_
 ·show(oB c ?_).1
  show gA ?_
  rcases mQa.mp a with a|a
  ·show .inr (g_ r a)
  ·show .inl (g_ p a)
 ·show tT o.app (λk z=>(nomatch z)) L q
end
section
variable{S:aE}{Q:Res->aE->Prop}
theorem xZ:∀(bs:List (Str×Str)) (a:List (List (Int×Int))),yW ((bs.map (·.1)).map D.str) (a.map dW)=(bs.zip a).map λp=>D.tup [.str p.1.1,dW p.2]
 | [],_=>rfl
 |_::_,[]=>rfl
 | b::bs,l::a=>by
   have:=xZ bs a
   erw[yW,QDq,List.zipWith_cons_cons,List.zip_cons_cons] at this|-
   rw[this]
noncomputable def zL(r:Rm)(rs:cC)(x:Str):Int:=numAt (B5 r rs) x
def EF{r:Rm}{rs:cC}(hl:r.aa.length=rs.aa.length){x:Str}(h:x∈r.aa.map (·.1)):jk (B5 r rs) (.inr x)=some (.int (zL r rs x)):=by
 have f:(Sum.inr x:Key)∈(B5 r rs).map (·.1):=by
  show gA (.inr ?_)
  rw[QPq]
  let#[b,j,rfl]:=Qkq.mp h
  let#[i,c,e]:=QbQ j
  show Qkq.mpr #[(b,rs.aa[i]'(!0)),?_,L]
  rw[<-e]
  have:(r.aa.zip rs.aa)[i]?=some (r.aa[i],rs.aa[i]'(!0)):=by
   rw[List.getElem?_zip_eq_some]
   show#[gQe c,gQe (!0)]
  show mQg this
 let#[d,g,a]:=vG f
 have c:∃v:Int,d=.int v:=by
  rcases nz a with a|a
  ·cases a
  ·let#[p,_,e]:=Qkq.mp a
   show#[_,(congrArg (·.2) e).symm]
 let#[v,rfl]:=c
 unfold zL DL.numAt
 rw[g]
def uG{w:cx}{s:aU}{h i:Nat}{vs:List Int}{fs:List cj}{f:cj}{r:Rm}{rs:cC}{t:Tr}(I:s.af[h]?=some (vs,fs))(F:fs.getLast? =some f)(H:f.room=i)(n:w.aj[i]?=some r)(c:s.aj[i]?=some rs)
  (y:r.ao.length=rs.vals.length) (J:r.aa.length=rs.aa.length) (M:r.ao.length<=100) (P:r.aa.length<=100) (C:∀v∈rs.vals,0<=v/\v<=9) (o:0<=f.given/\f.given<=9)
  (G:t.Ok (r.ao.map (·.1)++da) (r.aa.map (·.1))) (A:t.dep<=6) (q:Q (.d (.int (z9 (numAt (vp r rs f.given)) (zL r rs) t))) S):Fn dH [w.d,s.d,.int h,t.d] S Q:=by
 have g:kU (vp r rs f.given):=(hG C).put o.1 o.2
 show cc ?_
 unfold lW
 symm
 apply bV I F ?_
 apply aB (d:=.int f.room) L ?_
 show fU ?_
 dsimp only[bM,bg,bN,cP,c7,hJ]
 rw[Qdq (show¬f.room= -1 by omega),Quq (!1),H]
 apply dg ?_
 apply Kq ?_
 apply aB L ?_
 show aB (d:=r.d) (aQ (by rw[gQm,n];rfl)) ?_
 symm
 apply aB L ?_
 apply fu (enc:=mH) (nm:=(·.1)) g7 (!0) ?_
 apply aB L ?_
 show aB (d:=rs.d) (aQ (by rw[gQm,c];rfl)) ?_
 symm
 show aB L ?_
 show df (ds:=rs.vals.map D.int) ?_
 show#[_,L,#[trivial,by erw[lQm];show y],?_]
 dsimp only[bM,bg,bN,cP,c7,hJ]
 rw[show c8 [] (((r.ao.map (·.1)).map (Sum.inr:Str->Key)).zip (rs.vals.map D.int))=dY r.ao rs.vals from L]
 have K:l6 S (S++ [O.dct (dY r.ao rs.vals)]):=l6.refl.app
 apply aG (Pp ?_)
 apply aB (d:=.int f.given) L ?_
 show#[_,_,_,L,L,aS,aL (by have:=su (ts:=r.ao) (vs:=rs.vals);omega),?_]
 have m:((S++ [O.dct (dY r.ao rs.vals)]).set S.length (.dct (putD (dY r.ao rs.vals) (.inr "given") (.int f.given))))[S.length]?=some (.dct (vp r rs f.given)):=fc aS
 have u:l6 S ((S++ [O.dct (dY r.ao rs.vals)]).set S.length (.dct (putD (dY r.ao rs.vals) (.inr "given") (.int f.given)))):=K.put (Qmq _)
 generalize ((S++ [O.dct (dY r.ao rs.vals)]).set S.length (.dct (putD (dY r.ao rs.vals) (.inr "given") (.int f.given))))=S2 at m u|-
 apply aG (Pz (α:=(Str×Str)×List (Int×Int)) (λj=>∃a b,j= [a,b]) (λp=>D.tup [.str p.1.1,dW p.2]) (λp=>p.1.1) (λp=>.int (p.2.length:Nat)) #[none,none,L] (ED ?_))
 apply aB L ?_
 show aB (d:=r.d) (aQ (by rw[gQm,n];rfl)) ?_
 symm
 apply aB L ?_
 apply fu (enc:=IK) (nm:=(·.1)) B4 (!0) ?_
 apply aB L ?_
 show aB (d:=rs.d) (aQ (by rw[gQm,c];rfl)) ?_
 symm
 show aB L ?_
 show df (ds:=rs.aa.map dW) ?_
 show#[#[trivial,by erw[lQm];omega],r.aa.zip rs.aa,xZ _ _,#[trivial,trivial],by rw[List.length_zip];omega,λp N j l=>?_,?_]
 ·let#[a,b,rfl]:=l
  show ee L (az (aR (az (aR (bo ?_)))))
  apply#[L,#[_,_,L],?_]
  apply#[L,L,?_]
  show df (ds:=p.2.map pairD) ?_
  show#[by simp,L]
 symm
 show gw (th:=numAt (vp r rs f.given)) (wt:=zL r rs) (ws:=r.ao.map (·.1)++da) (bs:=r.aa.map (·.1)) (kws:=B5 r rs) (aZ m) aS (λx e=>?_) (λb B=>EF J B) 6 t G A ?_
 ·show(oB g ?_).1
  show lS ?_
  rcases mQa.mp e with e|e
  ·show .inr (g_ y e)
  ·left
   rw[Qfq.mp e]
 ·show tT u.app (λk z=>(nomatch z)) L q
end
end W28
namespace DL
open L2
def HJ{b:cv}{S:aE}{a:Bool}{f:bp}{g:d0}{Q:D->aE->Prop}(h:E f b S λx c=>E g b c λp S2=>∃v vs,wL x=some v/\iz p.1=some vs/\Q (.bl (if a then !Ec v vs else Ec v vs)) S2):E (HX a f g) b S Q:=by
 let#[x,c,d,p,S2,j,v,vs,i,e,q]:=h
 show#[_,S2,by unfold HX;rw[d];erw[Qbq];rw[j];erw[Qbq];rw[i,e];rfl,q]
def HI{x:Str}{b:X6}:Ec (.str x) (b.map V.str)=decide (x∈b):=by
 induction b with
 |nil=>rfl
 | cons a b d=>
   show(qX (.str a) (.str x)||Ec (.str x) (b.map V.str))=_
   rw[d]
   erw[qX,Qsq]
   by_cases c:a=x
   · subst c;simp
   · have e:¬x=a:=λz=>c z.symm
     simp[c,e]
end DL
namespace W28
open L2 DL
section
variable{S:aE}{Q:Res->aE->Prop}
noncomputable def eV(ns:X6)(vs:List Int)(x:Str)(v:Int):List Int:=vs.set ((oE (.str x) (ns.map V.str)).getD 0) v
def pz{α:Type}{enc:α->D}{nm:α->Str}{xs:List α}{x:Str}(he:∀a,∃r,enc a=.tup (.str (nm a)::r))(hl:xs.length<=1000)(g:x∈xs.map nm)(q:((oE (.str x) ((xs.map nm).map V.str)).getD 0)<xs.length->Q (.d (.int ((oE (.str x) ((xs.map nm).map V.str)).getD 0:Nat))) S):Fn dk [.tup (xs.map enc),.str x] S Q:=by
 show cc ?_
 unfold pS
 let#[j,e,f]:=wV g
 have i:j<xs.length:=by have:=(gQs.mp f).1;simpa using this
 rw[e] at q
 show dM ?_
 have c:E (fg (dU ed (ar (au 0) av))) ([D.tup (xs.map enc),D.str x].map some++List.replicate (2- [D.tup (xs.map enc),D.str x].length) none) S λp b=>p=((xs.map nm).map D.str,.fr)/\b=S:=by
  symm
  show fu he hl #[L,L]
 let#[p,b,h,rfl,rfl]:=c
 show#[.int j,b,?_,cZ (λk z=>(nomatch z)) L (q i)]
 unfold K2
 rw[h]
 erw[Qbq]
 rw[Qhq (show Tag.fr.isL=true from L)]
 show((au 1 _ b).bind _)=_
 rw[show au 1 ([D.tup (xs.map enc),D.str x].map some++List.replicate (2- [D.tup (xs.map enc),D.str x].length) none) b=some (.str x,b) from L]
 erw[Qbq]
 rw[Qhq (show Tag.stays b _ .fr from trivial)]
 show(wL (.str x)).bind _=_
 erw[wL,Qbq]
 rw[nJ]
 erw[Qbq]
 rw[e]
 rfl
def Fb{w:cx}{s:aU}{h i:Nat}{vs:List Int}{fs:List cj}{f:cj}{r:Rm}{rs:cC}{x:Str}{v:Int}(j:s.af[h]?=some (vs,fs))(c:fs.getLast? =some f)(g:f.room=i)(b:w.aj[i]?=some r)(a:s.aj[i]?=some rs)
  (o:r.ao.length=rs.vals.length) (l:r.ao.length<=100) (m:s.aj.length<=100) (k:x∈r.ao.map (·.1))
  (q:Q (.d ({s with aj:=s.aj.set i {rs with vals:=eV (r.ao.map (·.1)) rs.vals x v}}:aU).d) S):Fn e_ [w.d,s.d,.int h,.str x,.int v] S Q:=by
 show cc ?_
 unfold j7
 symm
 apply bV j c ?_
 apply aB (d:=.int f.room) L ?_
 show mO ?_
 dsimp only[bM,bg,bN,cP,c7,hJ]
 rw[Qdq (show¬f.room= -1 by omega),g]
 show if (true=true) then _ else _
 rw[Qhq L]
 symm
 apply aB L ?_
 show aB (d:=r.d) (aQ (by rw[gQm,b];rfl)) ?_
 symm
 apply aB L ?_
 apply pz (enc:=mH) (nm:=(·.1)) g7 (!0) k λn=>?_
 apply aB L ?_
 show aB (d:=rs.d) (aQ (by rw[gQm,a];rfl)) ?_
 symm
 apply aB L ?_
 show dS (xs:=rs.vals.map D.int) (by rw[lQm];omega) (by rw[lQm];omega) (a_ λ_ _=>rfl) L ?_
 symm
 show#[by show 1<=_;decide,?_]
 apply kF ?_
 apply aB L ?_
 show aB (d:=rs.d) (aQ (by rw[gQm,a];rfl)) ?_
 apply cJ ?_
 show#[_,L,cI #[_,L,?_]]
 show dN (by show 5<=_;decide) ?_
 symm
 have e:({rs with vals:=eV (r.ao.map (·.1)) rs.vals x v}:cC).d=.tup ([.tup ((rs.vals.map D.int).set ((oE (.str x) ((r.ao.map (·.1)).map V.str)).getD 0) (.int v))]++fZ [cy rs.vals,.int rs.within,cy rs.row,cy rs.ag,.tup (rs.aa.map dW)] (some 1) none):=by
  show D.tup [cy (eV _ _ _ _),_,_,_,_]=_
  unfold eV cy
  rw[map_set]
  rfl
 rw[<-e]
 show dr (gQs.mp a).1 (!0) ?_
 show cZ (aX _) (aU.low _) q
end
section
variable{S:aE}{Q:Res->aE->Prop}
noncomputable def xq(w:cx)(s:aU)(h:Nat)(ts:List (Str×Nat))(vs:List Int)(fs:List cj)(x:Str)(v:Int):aU:=
 if x∈w.ak.map (·.1) then{s with ak:=eV (w.ak.map (·.1)) s.ak x v} else{s with af:=s.af.set h (eV (ts.map (·.1)) vs x v,fs)}
def Hn{w:cx}{s:aU}{h:Nat}{ts:List (Str×Nat)}{pr:List Rw}{vs:List Int}{fs:List cj}{f:cj}{x:Str}{v:Int}(g:w.af[h]?=some (ts,pr))(b:s.af[h]?=some (vs,fs))(i:fs.getLast? =some f)(k:f.room= -1)
  (u:w.ak.length=s.ak.length) (y:ts.length=vs.length) (o:w.ak.length<=100) (t:ts.length<=100) (r:s.af.length<=100) (l:x∈ts.map (·.1)++w.ak.map (·.1))
  (q:Q (.d (xq w s h ts vs fs x v).d) S):Fn e_ [w.d,s.d,.int h,.str x,.int v] S Q:=by
 show cc ?_
 unfold j7
 symm
 apply bV b i ?_
 apply aB (d:=.int f.room) L ?_
 show mO ?_
 dsimp only[bM,bg,bN,cP,c7,hJ]
 rw[Qeq k]
 show bD (λc=>by cases c) (λ_=>dg ?_)
 apply aG (fE (bZ (HJ ?_)))
 apply aB L ?_
 apply fu (enc:=mH) (nm:=(·.1)) g7 (!0) ?_
 show#[_,_,L,nJ _,?_]
 unfold xq at q
 show if Ec (.str x) ((w.ak.map (·.1)).map V.str)=true then _ else _
 rw[HI]
 by_cases c:x∈w.ak.map (·.1)
 ·rw[Qhq c] at q
  rw[Qeq c,Qhq L]
  symm
  apply aB L ?_
  apply aB L ?_
  apply pz (enc:=mH) (nm:=(·.1)) g7 (!0) c λm=>?_
  show dS (xs:=s.ak.map D.int) (by rw[lQm];omega) (by rw[lQm];omega) (a_ λ_ _=>rfl) L ?_
  symm
  apply aB L ?_
  apply aB L ?_
  apply aB L ?_
  show#[by show 4<=_;decide,?_]
  rw[<-map_set]
  show cZ (d:=({s with ak:=eV (w.ak.map (·.1)) s.ak x v}:aU).d) (aX _) (aU.low _) q
 ·rw[Quq c] at q
  rw[Qdq c,Quq (!1)]
  show dg ?_
  have a:x∈ts.map (·.1):=(mQa.mp l).resolve_right c
  symm
  apply aB L ?_
  show aB (d:=Ac (vs,fs)) (aQ (by rw[gQm,b];rfl)) ?_
  apply ee L (az (aR (az (aR (bo ?_)))))
  apply aB L ?_
  show aB (d:=fV (ts,pr)) (aQ (by rw[gQm,g];rfl)) ?_
  symm
  apply aB L ?_
  apply pz (enc:=mH) (nm:=(·.1)) g7 (!0) a λm=>?_
  show dS (xs:=vs.map D.int) (by rw[lQm];omega) (by rw[lQm];omega) (a_ λ_ _=>rfl) L ?_
  symm
  rw[<-map_set]
  rw[show D.tup ((vs.set ((oE (.str x) ((ts.map (·.1)).map V.str)).getD 0) v).map D.int)=cy (eV (ts.map (·.1)) vs x v) from L]
  generalize eV (ts.map (·.1)) vs x v=nv at q|-
  have j:h<s.af.length:=(gQs.mp b).1
  have e:s.af.length<=900:=by omega
  have n:Op (settle S ({s with af:=s.af.set h (nv,fs)}:aU).d S) λp=>Q p.1 p.2:=cZ (aX _) (aU.low _) q
  show g6 j e n
end
section
variable{S:aE}{Q:Res->aE->Prop}
noncomputable def fY(ns:X6)(x:Str):Nat:=(oE (.str x) (ns.map V.str)).getD 0
def kf{ns:X6}{x:Str}(h:x∈ns):fY ns x<ns.length/\ns[fY ns x]?=some x:=by
 let#[j,b,a]:=wV h
 unfold fY
 rw[b]
 show#[(gQs.mp a).1,a]
def jt{α:Type}{enc:α->D}{nm:α->Str}{xs:List α}{x:Str}(he:∀a,∃r,enc a=.tup (.str (nm a)::r))(hl:xs.length<=1000)(b:x∈xs.map nm)(q:Q (.d (.int (fY (xs.map nm) x:Nat))) S):Fn dk [.tup (xs.map enc),.str x] S Q:=pz he hl b λ_=>q
def mX{w:cx}{s:aU}{h i:Nat}{vs:List Int}{fs:List cj}{f:cj}{r:Rm}{x:Str}(e:s.af[h]?=some (vs,fs))(b:fs.getLast? =some f)(c:f.room=i)(a:w.aj[i]?=some r)(j:r.aa.length<=100)(g:x∈r.aa.map (·.1))
  (q:Q (.d (.tup [.int i,.int (fY (r.aa.map (·.1)) x:Nat)])) S):Fn jH [w.d,s.d,.int h,.str x] S Q:=by
 show cc ?_
 unfold tN
 symm
 apply bV e b ?_
 show aB (d:=.int f.room) L ?_
 rw[c]
 symm
 apply aB L ?_
 show aB (d:=r.d) (aQ (by rw[gQm,a];rfl)) ?_
 symm
 apply aB L ?_
 apply jt (enc:=IK) (nm:=(·.1)) B4 (!0) g ?_
 show#[by show 2<=_;decide,?_]
 show cZ (λk z=>(nomatch z)) L q
def jX{s:aU}{i b:Nat}{rs:cC}{l:List (Int×Int)}(a:s.aj[i]?=some rs)(j:b<rs.aa.length)(h:rs.aa.length<=100)(k:s.aj.length<=100)
  (q:Q (.d ({s with aj:=s.aj.set i {rs with aa:=rs.aa.set b l}}:aU).d) S):Fn eZ [s.d,.int i,.int b,dW l] S Q:=by
 show cc ?_
 unfold m_
 symm
 apply aB L ?_
 show aB (d:=rs.d) (aQ (by rw[gQm,a];rfl)) ?_
 symm
 apply kF ?_
 apply cI (cJ ?_)
 apply#[_,L,_,L,?_]
 apply aB L ?_
 show dS (xs:=rs.aa.map dW) (by rw[lQm];omega) (by rw[lQm];omega) (a_ λl _=>tJ l) (tJ l) ?_
 symm
 show#[by show 1<=_;decide,?_]
 show dN (by show 5<=_;decide) ?_
 symm
 rw[<-map_set]
 generalize f:rs.aa.set b l=nb at q|-
 have e:({rs with aa:=nb}:cC).d=.tup (fZ [cy rs.vals,.int rs.within,cy rs.row,cy rs.ag,.tup (rs.aa.map dW)] none (some 4)++ [.tup (nb.map dW)]):=rfl
 rw[<-e]
 have c:i<s.aj.length:=(gQs.mp a).1
 have hl:s.aj.length<=900:=by omega
 have g:Op (settle S ({s with aj:=s.aj.set i {rs with aa:=nb}}:aU).d S) λp=>Q p.1 p.2:=cZ (aX _) (aU.low _) q
 show dr c hl g
noncomputable def gN(p:Int×List Int)(h:Int):Int×List Int:=if 0<p.1 then(p.1-1,p.2) else(p.1,p.2++ [h])
noncomputable def fL(p:Int×List Int):Int×List Int:=match p.2 with
 |_::l=>(p.1,l)
 | []=>(if 9<p.1+1 then 9 else p.1+1,[])
def zM{w:cx}{s:aU}{h:Int}{x:Str}{p:Int×List Int}(g:x∈w.ai.map (·.1))(b:s.ai[fY (w.ai.map (·.1)) x]?=some p)(i:w.ai.length<=100)(k:s.ai.length<=100)(l:p.2.length<=900)
  (q:Q (.d ({s with ai:=s.ai.set (fY (w.ai.map (·.1)) x) (gN p h)}:aU).d) S):Fn si [w.d,s.d,.int h,.str x] S Q:=by
 show cc ?_
 unfold Ap
 symm
 apply aB L ?_
 show jt (enc:=mH) (nm:=(·.1)) g7 (!0) g ?_
 generalize fY (w.ai.map (·.1)) x=j at b q|-
 have f:j<s.ai.length:=(gQs.mp b).1
 have hl:s.ai.length<=900:=by omega
 symm
 apply aB L ?_
 show aB (d:=Aa p) (aQ (by rw[gQm,b];rfl)) ?_
 show ee L (az (aR (az (aR (bo ?_)))))
 have a:Op (settle S ({s with ai:=s.ai.set j (gN p h)}:aU).d S) λp=>Q p.1 p.2:=cZ (aX _) (aU.low _) q
 unfold gN at a
 symm
 by_cases c:0<p.1
 ·rw[Qhq c] at a
  rw[Qeq c,Qhq L]
  symm
  show#[by show 2<=_;decide,?_]
  symm
  show gU (p:=(p.1-1,p.2)) f hl a
 ·rw[Quq c] at a
  rw[Qdq c,Quq (!1)]
  apply dg ?_
  show#[by show 1<=_;decide,?_]
  show dN (by erw[lQm,Qnq,QGq];show nQl (aL (!0))) ?_
  symm
  show#[by show 2<=_;decide,?_]
  symm
  have e:D.tup [.int p.1,.tup (p.2.map D.int++ [.int h])]=Aa (p.1,p.2++ [h]):=by simp[Aa,cy]
  rw[e]
  show gU f hl a
end
section
variable{S:aE}{Q:Res->aE->Prop}
def mM{w:cx}{s:aU}{x:Str}{p:Int×List Int}(i:x∈w.ai.map (·.1))(b:s.ai[fY (w.ai.map (·.1)) x]?=some p)(k:w.ai.length<=100)(m:s.ai.length<=100)
  (q:Q (.d ({s with ai:=s.ai.set (fY (w.ai.map (·.1)) x) (fL p)}:aU).d) S):Fn gu [w.d,s.d,.str x] S Q:=by
 show cc ?_
 unfold kQ
 symm
 apply aB L ?_
 show jt (enc:=mH) (nm:=(·.1)) g7 (!0) i ?_
 generalize fY (w.ai.map (·.1)) x=j at b q|-
 have g:j<s.ai.length:=(gQs.mp b).1
 have hl:s.ai.length<=900:=by omega
 symm
 apply aB L ?_
 show aB (d:=Aa p) (aQ (by rw[gQm,b];rfl)) ?_
 show ee L (az (aR (az (aR (bo ?_)))))
 have h:Op (settle S ({s with ai:=s.ai.set j (fL p)}:aU).d S) λp=>Q p.1 p.2:=cZ (aX _) (aU.low _) q
 let#[v,f]:=p
 symm
 show vU ?_
 cases f with
 | cons a l=>
   apply bD (λ_=>?_) (λc=>by cases c)
   apply kF ?_
   apply cJ ?_
   apply⟨_,L,cI ⟨_,L,?_⟩⟩
   show⟨by show 2<=_;decide,?_⟩
   symm
   have e:D.tup (fZ ((a::l).map D.int) (some 1) none)=cy l:=by
     rw[show(some (1:Int))=some ((1:Nat):Int) from L,jo (by simp)]
     rfl
   rw[e]
   show gU (p:=(v,l)) g hl h
 | nil=>
   apply bD (λc=>by cases c) (λ_=>dg ?_)
   apply FK ?_
   show⟨by show 2<=_;decide,?_⟩
   symm
   show gU (p:=(if 9<v+1 then 9 else v+1,[])) g hl h
def Dp{c sd a b:D}{s:aU}(q:Q (.d s.d) S):Fn rN [c,s.d,a,b] S Q:=by
 show cc ?_
 unfold xk
 symm
 show cZ (aX _) (aU.low _) q
def E7{e:D}{s:aU}{h n:Nat}{vs:List Int}{fs:List cj}{f:cj}(b:s.af[h]?=some (vs,fs))(a:fs.getLast? =some f)(c:fs.length<=900)(hl:s.af.length<=900)(q:Q (.d ({s with af:=s.af.set h (vs,fs.dropLast++ [{f with row:=n}])}:aU).d) S):Fn wx [e,s.d,.int h,(Rw.go n).d] S Q:=by
 show cc ?_
 unfold Bc
 symm
 apply aB (d:=.int n) L ?_
 have g:Op (settle S ({s with af:=s.af.set h (vs,fs.dropLast++ [{f with row:=n}])}:aU).d S) λp=>Q p.1 p.2:=cZ (aX _) (aU.low _) q
 show qp b a c hl g
end
section
variable{S:aE}{Q:Res->aE->Prop}
def Af{w:cx}{s:aU}{h:Int}{x:Str}{p:Int×List Int}(g:x∈w.ai.map (·.1))(a:s.ai[fY (w.ai.map (·.1)) x]?=some p)(b:w.ai.length<=100)(c:s.ai.length<=100)(e:p.2.length<=900)
  (q:Q (.d ({s with ai:=s.ai.set (fY (w.ai.map (·.1)) x) (gN p h)}:aU).d) S):Fn oT [w.d,s.d,.int h,(Rw.take x).d] S Q:=by
 show cc ?_
 unfold t7
 symm
 apply aB (d:=.str x) L ?_
 have f:Op (settle S ({s with ai:=s.ai.set (fY (w.ai.map (·.1)) x) (gN p h)}:aU).d S) λp=>Q p.1 p.2:=cZ (aX _) (aU.low _) q
 show zM g a b c e f
def Ba{w:cx}{s:aU}{a:D}{x:Str}{p:Int×List Int}(g:x∈w.ai.map (·.1))(b:s.ai[fY (w.ai.map (·.1)) x]?=some p)(c:w.ai.length<=100)(e:s.ai.length<=100)
  (q:Q (.d ({s with ai:=s.ai.set (fY (w.ai.map (·.1)) x) (fL p)}:aU).d) S):Fn o_ [w.d,s.d,a,(Rw.give x).d] S Q:=by
 show cc ?_
 unfold sC
 symm
 apply aB (d:=.str x) L ?_
 have f:Op (settle S ({s with ai:=s.ai.set (fY (w.ai.map (·.1)) x) (fL p)}:aU).d S) λp=>Q p.1 p.2:=cZ (aX _) (aU.low _) q
 show mM g b c e f
end
section
variable{S:aE}{Q:Res->aE->Prop}
def As(w:cx)(s:aU)(h:Nat)(t:Tr)(v:Int):Prop:=∀(S:aE) (Q:Res->aE->Prop),Q (.d (.int v)) S->Fn dH [w.d,s.d,.int h,t.d] S Q
def Puts(w:cx)(s:aU)(h:Nat)(x:Str)(v:Int)(s':aU):Prop:=∀(S:aE) (Q:Res->aE->Prop),Q (.d s'.d) S->Fn e_ [w.d,s.d,.int h,.str x,.int v] S Q
def AQ{w:cx}{s:aU}{h:Int}{x y:Str}{p a:Int×List Int}(k:x∈w.ai.map (·.1))(g:y∈w.ai.map (·.1))(f:s.ai[fY (w.ai.map (·.1)) x]?=some p)(c:w.ai.length<=100)(e:s.ai.length<=100)(i:a.2.length<=900)
  (b:(s.ai.set (fY (w.ai.map (·.1)) x) (fL p))[fY (w.ai.map (·.1)) y]?=some a)
  (q:Q (.d ({s with ai:=(s.ai.set (fY (w.ai.map (·.1)) x) (fL p)).set (fY (w.ai.map (·.1)) y) (gN a h)}:aU).d) S):Fn oP [w.d,s.d,.int h,(Rw.pass x y).d] S Q:=by
 show cc ?_
 unfold sr
 symm
 apply aB (d:=.str x) L ?_
 apply mM k f c e ?_
 apply aB (d:=.str y) L ?_
 have j:Op (settle S ({s with ai:=(s.ai.set (fY (w.ai.map (·.1)) x) (fL p)).set (fY (w.ai.map (·.1)) y) (gN a h)}:aU).d S) λp=>Q p.1 p.2:=cZ (aX _) (aU.low _) q
 show zM (s:={s with ai:=s.ai.set (fY (w.ai.map (·.1)) x) (fL p)}) g b c (by simpa using e) i j
def Dh{w:cx}{s s':aU}{h:Nat}{x:Str}{t:Tr}{v:Int}(b:As w s h t v)(a:Puts w s h x v s')(q:Q (.d s'.d) S):Fn rG [w.d,s.d,.int h,(Rw.put x t).d] S Q:=by
 show cc ?_
 unfold w6
 symm
 apply aB (d:=.str x) L ?_
 apply aB (d:=t.d) L ?_
 apply b _ _ ?_
 show a _ _ ?_
 show cZ (aX _) (aU.low _) q
def wI{w:cx}{s:aU}{h n:Nat}{t:Tr}{v:Int}{vs:List Int}{fs:List cj}{f:cj}(e:As w s h t v)(b:s.af[h]?=some (vs,fs))(a:fs.getLast? =some f)(g:fs.length<=900)(hl:s.af.length<=900)
  (q:Q (.d (if v=0 then({s with af:=s.af.set h (vs,fs.dropLast++ [{f with row:=n}])}:aU) else s).d) S):Fn km [w.d,s.d,.int h,(Rw.unl t n).d] S Q:=by
 show cc ?_
 unfold nV
 symm
 apply aB (d:=t.d) L ?_
 apply e _ _ ?_
 show fU ?_
 dsimp only[bM,bg,bN,cP,c7,hJ]
 by_cases c:v=0
 ·rw[Qhq c] at q
  rw[Qeq c,Qhq L]
  symm
  apply aB (d:=.int n) L ?_
  have i:Op (settle S ({s with af:=s.af.set h (vs,fs.dropLast++ [{f with row:=n}])}:aU).d S) λp=>Q p.1 p.2:=cZ (aX _) (aU.low _) q
  show qp b a g hl i
 ·rw[Quq c] at q
  rw[Qdq c,Quq (!1)]
  apply dg ?_
  show cZ (aX _) (aU.low _) q
end
section
variable{S:aE}{Q:Res->aE->Prop}
def AZ{w:cx}{s:aU}{h:Nat}{t:Tr}{v:Int}{vs:List Int}{fs:List cj}{f:cj}(i:As w s h t v)(e:s.af[h]?=some (vs,fs))(c:fs.getLast? =some f)(j:fs.length<=900)(hl:s.af.length<=900)
  (q:Q (.d ({s with af:=s.af.set h (vs,fs.dropLast++ [{f with told:=v}])}:aU).d) S):Fn pk [w.d,s.d,.int h,(Rw.tell t).d] S Q:=by
 show cc ?_
 unfold uh
 symm
 apply aB (d:=t.d) L ?_
 apply i _ _ ?_
 apply kF ?_
 show bV e c ?_
 apply cI (cJ ?_)
 apply⟨_,L,_,L,?_⟩
 show⟨by show 1<=_;decide,?_⟩
 show dN (by show 5<=_;decide) ?_
 symm
 have g:0<fs.length:=by
  cases fs with
  |nil=>cases c
  |cons a b=>simp
 have k:Op (settle S ({s with af:=s.af.set h (vs,fs.dropLast++ [{f with told:=v}])}:aU).d S) λp=>Q p.1 p.2:=cZ (aX _) (aU.low _) q
 show iB (f:={f with told:=v}) e g j hl k
def C9{w:cx}{s:aU}{h i:Nat}{vs:List Int}{fs:List cj}{f:cj}{r:Rm}{rs:cC}{x:Str}(o:s.af[h]?=some (vs,fs))(k:fs.getLast? =some f)(m:f.room=i)(j:w.aj[i]?=some r)(a:s.aj[i]?=some rs)(n:r.aa.length<=100)(u:r.aa.length=rs.aa.length)(g:s.aj.length<=100)(e:x∈r.aa.map (·.1))
  (q:Q (.d ({s with aj:=s.aj.set i {rs with aa:=rs.aa.set (fY (r.aa.map (·.1)) x) []}}:aU).d) S):Fn rR [w.d,s.d,.int h,(Rw.all x).d] S Q:=by
 let c:=(kf e).1
 rw[lQm] at c
 show cc ?_
 unfold xn
 symm
 apply aB (d:=.str x) L ?_
 show mX o k m j n e ?_
 show ee L (az (aR (az (aR (bo ?_)))))
 generalize fY (r.aa.map (·.1)) x=b at c q|-
 symm
 apply⟨by decide,?_⟩
 have t:Op (settle S ({s with aj:=s.aj.set i {rs with aa:=rs.aa.set b []}}:aU).d S) λp=>Q p.1 p.2:=cZ (aX _) (aU.low _) q
 show jX (l:= []) a (!0) (!0) g t
end
section
variable{S:aE}{Q:Res->aE->Prop}
def JO:∀a:Rm,∃r,a.d=.tup (.str a.name::r):=λa=>⟨_,L⟩
def Gk:∀a:Str×List Rw,∃r,iU a=.tup (.str a.1::r):=λa=>⟨_,L⟩
def EJ{w:cx}{s:aU}{h:Nat}{g:Option Str}{rn b:Str}{t:Tr}{v:Int}{vs:List Int}{fs:List cj}{r:Rm}{rs:cC}(n:As w s h t v)(k:s.af[h]?=some (vs,fs))(c:rn∈w.aj.map (·.name))(j:w.aj[fY (w.aj.map (·.name)) rn]?=some r)(a:s.aj[fY (w.aj.map (·.name)) rn]?=some rs)(f:b∈r.ae.map (·.1))
  (x:w.aj.length<=100) (B:r.ae.length<=100) (A:s.aj.length<=100) (o:rs.row.length<=900) (y:fs.length<=900) (z:s.af.length<=100)
  (q:Q (.d ({s with af:=s.af.set h (vs,fs++ [⟨(fY (w.aj.map (·.name)) rn:Nat),(fY (r.ae.map (·.1)) b:Nat),0,v,0⟩]),aj:=s.aj.set (fY (w.aj.map (·.name)) rn) (gM rs h)}:aU).d) S):Fn vZ [w.d,s.d,.int h,(Rw.do_ g rn b t).d] S Q:=by
 show cc ?_
 unfold AS
 symm
 apply aB L ?_
 apply aB (d:=.str rn) L ?_
 show jt (enc:=Rm.d) (nm:=(·.name)) JO (!0) c ?_
 generalize fY (w.aj.map (·.name)) rn=i at j a q|-
 symm
 apply aB L ?_
 show aB (d:=r.d) (aQ (by rw[gQm,j];rfl)) ?_
 symm
 apply aB L ?_
 apply aB (d:=.str b) L ?_
 show jt (enc:=iU) (nm:=(·.1)) Gk (!0) f ?_
 generalize fY (r.ae.map (·.1)) b=dd at q|-
 symm
 apply aB (d:=t.d) L ?_
 apply n _ _ ?_
 show⟨by show 5<=_;decide,?_⟩
 symm
 apply aB L ?_
 show aB (d:=Ac (vs,fs)) (aQ (by rw[gQm,k];rfl)) ?_
 apply ee L (az (aR (az (aR (bo ?_)))))
 show⟨by show 1<=_;decide,?_⟩
 show dN (by erw[lQm,Qnq,QGq];show nQl (aL (!0))) ?_
 symm
 have e:fs.map cj.d++ [D.tup [.int i,.int dd,.int 0,.int v,.int 0]]=(fs++ [(⟨i,dd,0,v,0⟩:cj)]).map cj.d:=by rw[Qzq];rfl
 rw[e]
 generalize l:fs++ [(⟨i,dd,0,v,0⟩:cj)]=nf at q|-
 have m:h<s.af.length:=(gQs.mp k).1
 apply g6 (vs:=vs) (fs:=nf) m (!0) ?_
 have u:Op (settle S ({s with af:=s.af.set h (vs,nf),aj:=s.aj.set i (gM rs h)}:aU).d S) λp=>Q p.1 p.2:=cZ (aX _) (aU.low _) q
 show ua (s:={s with af:=s.af.set h (vs,nf)}) a (by show s.aj.length<=900;omega) o u
end
section
variable{S:aE}{Q:Res->aE->Prop}
noncomputable def sF(a:Bool)(rs:cC)(b:Nat)(h:Int):cC:=match rs.aa[b]? with
 |some (p::l)=>if a then{rs with aa:=rs.aa.set b l} else{rs with aa:=rs.aa.set b l,within:=p.2,ag:=rs.ag++ [h]}
 |_=>rs
def A_{w:cx}{s:aU}{h i:Nat}{vs:List Int}{fs:List cj}{f:cj}{r:Rm}{rs:cC}{x:Str}(H:s.af[h]?=some (vs,fs))(B:fs.getLast? =some f)(F:f.room=i)(u:w.aj[i]?=some r)(k:s.aj[i]?=some rs)(G:r.aa.length<=100)(M:r.aa.length=rs.aa.length)(z:s.aj.length<=100)(K:rs.ag.length<=900)(y:x∈r.aa.map (·.1))
  (q:Q (.d ({s with aj:=s.aj.set i (sF (decide (r.ah="when free")) rs (fY (r.aa.map (·.1)) x) h)}:aU).d) S):Fn oJ [w.d,s.d,.int h,(Rw.call x).d] S Q:=by
 let v:=(kf y).1
 rw[lQm] at v
 have o:i<s.aj.length:=(gQs.mp k).1
 show cc ?_
 unfold tm
 symm
 apply aB (d:=.str x) L ?_
 show mX H B F u G y ?_
 show ee L (az (aR (az (aR (bo ?_)))))
 generalize fY (r.aa.map (·.1)) x=b at v q|-
 have t:b<rs.aa.length:=by omega
 obtain⟨m,a⟩:∃l,rs.aa[b]?=some l:=#[_,gQe t]
 have g:Op (settle S ({s with aj:=s.aj.set i (sF (decide (r.ah="when free")) rs b h)}:aU).d S) λp=>Q p.1 p.2:=cZ (aX _) (aU.low _) q
 unfold sF at g
 rw[a] at g
 symm
 apply aB L ?_
 show aB (d:=rs.d) (aQ (by rw[gQm,k];rfl)) ?_
 symm
 apply aB L ?_
 show aB (d:=dW m) (aQ (by rw[gQm,a];rfl)) ?_
 symm
 show vU ?_
 cases m with
 | nil=>
   apply bD (λ_=>?_) (λc=>by cases c)
   have e:s.aj.set i rs=s.aj:=by
     apply List.ext_getElem?
     intro j
     rw[List.getElem?_set]
     split
     · rename_i c
       subst c
       rw[k]
       first|done|simp[o]
     · rfl
   have A:({s with aj:=s.aj.set i rs}:aU)=s:=by rw[e]
   have n:Op (settle S ({s with aj:=s.aj.set i rs}:aU).d S) λp=>Q p.1 p.2:=g
   rw[A] at n
   show n
 | cons p l=>
   apply bD (λc=>by cases c) (λ_=>dg ?_)
   apply kF ?_
   apply cJ ?_
   apply#[_,L,cI #[_,L,?_]]
   have e:D.tup (fZ ((p::l).map pairD) (some 1) none)=dW l:=by
     rw[show(some (1:Int))=some ((1:Nat):Int) from L,jo (by simp)]
     rfl
   rw[e]
   show jX k t (!0) z ?_
   dsimp only at g
   generalize J:rs.aa.set b l=nb at g|-
   symm
   apply aB L ?_
   show aB (d:=r.d) (aQ (by rw[gQm,u];rfl)) ?_
   symm
   apply aB (d:=.str r.ah) L ?_
   show iZ ?_
   dsimp only[bM,bg,bN,cP,c7,hJ]
   by_cases c:r.ah="when free"
   · rw[Qeq c] at g|-
     rw[Qhq L] at g
     rw[Qhq L]
     symm
     show g
   · rw[Qdq c] at g|-
     rw[Quq (!1)] at g
     rw[Quq (!1)]
     apply dg ?_
     show aB L ?_
     have C:((s.aj.set i {rs with aa:=nb}).map cC.d)[i]?=some ({rs with aa:=nb}:cC).d:=by rw[gQm,Qyq o];rfl
     symm
     show aB (d:=({rs with aa:=nb}:cC).d) (aQ C) ?_
     apply ee L (az (aR (az (aR (az (aR (az (aR (az (aR (bo ?_)))))))))))
     apply aB (d:=pairD p) FJ ?_
     apply aB (d:=.int p.2) L ?_
     show#[by show 1<=_;decide,?_]
     show dN (by erw[lQm,Qnq,QGq];show nQl (aL (!0))) ?_
     symm
     show#[by show 5<=_;decide,?_]
     symm
     have I:D.tup [cy rs.vals,.int p.2,cy rs.row,.tup (rs.ag.map D.int++ [.int h]),.tup (nb.map dW)]=({rs with aa:=nb,within:=p.2,ag:=rs.ag++ [(h:Int)]}:cC).d:=by simp[cC.d,cy]
     rw[I]
     have n:Op (settle S ({s with aj:=(s.aj.set i {rs with aa:=nb}).set i {rs with aa:=nb,within:=p.2,ag:=rs.ag++ [(h:Int)]}}:aU).d S) λp=>Q p.1 p.2:=by rw[List.set_set];show g
     show dr (s:={s with aj:=s.aj.set i {rs with aa:=nb}}) (by simpa using o) (by simp;omega) n
end
end W28
namespace DL
open L2
def i7{α:Type}{u:cv}{S:aE}{js:List (Option Nat)}{i:uz}{g:mv}{t:iE}{o:bp}{Q:List D->aE->Prop}(P:cv->Prop)(enc G:α->D)(c:α->Bool)(F:P (mE js u)) (h:E i u S λp f=>∃xs:List α,p.1=xs.map enc/\p.2 f/\xs.length<=1000∧
   (∀x∈xs,∀a,P a->Tg g (enc x) a f λb S2=>S2=f/\P b/\E t b f λk A=>A=f/\k=c x/\(c x=true->E o b f λy B=>y=G x/\B=f))/\Q ((xs.filter c).map G) f):E (bx js i g t o) u S Q:=by
 show gH (h.mono λp f I=>?_)
 let#[xs,z,J,hl,R,q]:=I
 show#[λn a s j=>s=f/\j=((xs.take n).filter c).map G/\P a,#[L,L,F],λn a s j h=>by rw[h.1];show J,λn d a s j r h=>?_,λa s j h=>?_]
 ·let#[rfl,rfl,h3]:=h
  have r:p.1[n]?=some d:=r
  rw[z,gQm] at r
  let#[x,l,rfl]:=oQm.mp r
  let#[b,S2,M,rfl,h4,h5]:=R x (mQg l) a h3
  show#[b,S2,M,?_]
  show h5.mono λk A v=>?_
  let#[H,N,K]:=v
  subst H N
  let W:=(gQs.mp l).1
  have w:((xs.take (n+1)).filter c).map G=((xs.take n).filter c).map G++if c x=true then [G x] else []:=by
   rw[QYq,l]
   cases m:c x <;>simp[m]
  by_cases m:c x=true
  ·rw[Qhq m]
   show(K m).mono λy B v=>?_
   let#[U,C]:=v
   subst U C
   show#[?_,L,?_,h4]
   ·rw[lQm]
    have:=List.length_filter_le c (xs.take n)
    rw[Qxq] at this
    show aL (!0)
   ·rw[w,Qhq m]
  ·rw[Quq m]
   show#[L,?_,h4]
   rw[w,Quq m,List.append_nil]
 ·let#[rfl,rfl,_]:=h
  have e:p.1.length=xs.length:=by rw[z,lQm]
  show Q (((xs.take p.1.length).filter c).map G) _
  rw[e,QEq]
  show q
end DL
namespace W28
open L2 DL
section
variable{S:aE}{Q:Res->aE->Prop}
noncomputable def iA(l:List (Int×Int))(t h:Int):List (Int×Int):=l.take (l.filter λp=>decide (p.1<=t)).length++ [(t,h)]++l.drop (l.filter λp=>decide (p.1<=t)).length
def Bk{w:cx}{s:aU}{h i:Nat}{vs:List Int}{fs:List cj}{f:cj}{r:Rm}{rs:cC}{x u:Str}{t:Tr}{v:Int}{g:List (Int×Int)}(hs:s.af[h]?=some (vs,fs))(X:fs.getLast? =some f)(Y:f.room=i)(J:w.aj[i]?=some r)(m:s.aj[i]?=some rs)(Z:r.aa.length<=100)(l2:r.aa.length=rs.aa.length)(P:s.aj.length<=100)(K:x∈r.aa.map (·.1))
  (B:r.aa[fY (r.aa.map (·.1)) x]?=some (x,u)) (k:rs.aa[fY (r.aa.map (·.1)) x]?=some g) (b4:g.length<=900) (C:As w s h t v)
  (q:Q (.d ({s with aj:=s.aj.set i (cg {rs with aa:=rs.aa.set (fY (r.aa.map (·.1)) x) (iA g (if u="turns" then v else 0) h)})}:aU).d) S):Fn oy [w.d,s.d,.int h,(Rw.wait x t).d] S Q:=by
 let G:=(kf K).1
 rw[lQm] at G
 have hi:i<s.aj.length:=(gQs.mp m).1
 show cc ?_
 unfold t6
 symm
 apply aB (d:=.str x) L ?_
 show mX hs X Y J Z K ?_
 show ee L (az (aR (az (aR (bo ?_)))))
 generalize fY (r.aa.map (·.1)) x=b at G q B k|-
 have N:b<rs.aa.length:=by omega
 symm
 apply aB L ?_
 show aB (d:=r.d) (aQ (by rw[gQm,J];rfl)) ?_
 symm
 apply aB L ?_
 show aB (d:=IK (x,u)) (aQ (by rw[gQm,B];rfl)) ?_
 symm
 apply aB (d:=.str u) L ?_
 show iZ ?_
 dsimp only[bM,bg,bN,cP,c7,hJ]
 have y:∀j:Int,j=(if u="turns" then v else 0)->T (aD (aV 7 (bf kc (bf kc (bf kc (bf kc (au 1) (cF (.int 0))) (au 4)) (cF (.int 4))) (au 5)))
   (aD (aV 8 (et (fg (bx [none,none,some 6] (gQ (aP (au 7))) (iy (nG 2 (aH (bB 0) (aH (bB 1) di)))) (aK (bf LY (au 0) (au 2))) (au 0)))))
   (aD (aV 9 (aA eZ (ar (au 1) (ar (au 4) (ar (au 5) (ar (bf bS (bf bS (tH (au 7) jP (jJ (au 8))) (aW (ar (aW (ar (au 6) (ar (au 2) av))) av))) (tH (au 7) (jJ (au 8)) jP)) av))))))
   (cB (aA qm (ar (au 9) (ar (au 4) av)))))))
   [some w.d,some s.d,some (.int h),some (Rw.wait x t).d,some (.int i),some (.int b),some (.int j),none,none,none] S (λo=>match o with
   |.nx _ z=>Op (settle S .non z) λp=>Q p.1 p.2|.rt d z=>Op (settle S d z) λp=>Q p.1 p.2|.rl l z=>Op (fG S l z) λp=>Q p.1 p.2|_=>False):=by
  intro j F
  rw[<-F] at q
  symm
  apply aB L ?_
  show aB (d:=rs.d) (aQ (by rw[gQm,m];rfl)) ?_
  symm
  apply aB L ?_
  show aB (d:=dW g) (aQ (by rw[gQm,k];rfl)) ?_
  symm
  apply i7 (α:=Int×Int) (λA=>∃a b,A= [a,b,some (.int j)]) pairD (λp=>.int p.1) (λp=>decide (p.1<=j)) #[none,none,L] ?_
  show df (ds:=g.map pairD) ?_
  show#[g,L,trivial,by omega,λp G A H=>?_,?_]
  ·let#[a,b,rfl]:=H
   show ee L (az (aR (az (aR (bo ?_)))))
   apply#[L,#[_,_,L],?_]
   apply#[L,L,λ_=>?_]
   show#[L,L]
  have U:((g.filter λp=>decide (p.1<=j)).map λp=>D.int p.1).length=(g.filter λp=>decide (p.1<=j)).length:=lQm ..
  let I:=List.length_filter_le (λp=>decide (p.1<=j)) g
  unfold iA at q
  symm
  rw[U]
  generalize (g.filter λp=>decide (p.1<=j)).length=n at q I|-
  apply kF ?_
  apply cI (cJ ?_)
  show#[_,L,g.map pairD,L,?_]
  rw[GF (by rw[lQm];show I)]
  symm
  show#[by show 2<=_;decide,?_]
  symm
  show#[by show 1<=_;decide,?_]
  show dN (by erw[lQm,Qxq,Qnq,QGq];show nQl (aL (!0))) ?_
  apply kF ?_
  apply cJ ?_
  show#[_,L,cI #[g.map pairD,L,?_]]
  rw[jo (by rw[lQm];show I)]
  show dN (by erw[lQa,lQm,Qxq,List.length_drop,Qnq,QGq];show nQl (aL (!0))) ?_
  symm
  have e:D.tup ((g.map pairD).take n++ [D.tup [.int j,.int h]]++(g.map pairD).drop n)=dW (g.take n++ [(j,(h:Int))]++g.drop n):=by
   erw[dW,Qzq,List.map_take,List.map_drop]
   rfl
  rw[e]
  generalize g.take n++ [(j,(h:Int))]++g.drop n=nl at q|-
  apply jX m N (!0) P ?_
  have M:Op (settle S ({s with aj:=s.aj.set i (cg {rs with aa:=rs.aa.set b nl})}:aU).d S) λp=>Q p.1 p.2:=cZ (aX _) (aU.low _) q
  generalize R:({rs with aa:=rs.aa.set b nl}:cC)=nr at M|-
  have W:Op (settle S ({s with aj:=(s.aj.set i nr).set i (cg nr)}:aU).d S) λp=>Q p.1 p.2:=by rw[List.set_set];show M
  show zU (s:={s with aj:=s.aj.set i nr}) (Qyq hi) (by simp;omega) W
 by_cases c:u="turns"
 ·rw[Qeq c,Qhq L]
  symm
  apply aB (d:=t.d) L ?_
  show C _ _ ?_
  show y v (by rw[Qhq c])
 ·rw[Qdq c,Quq (!1)]
  show dg ?_
  show y 0 (by rw[Quq c])
end
end W28
namespace DL
open L2
section
variable{a:cv}{S:aE}
def Pm{b:List (Str×Str)}{g:bp}{Q:D->aE->Prop}(h:E g a S λy c=>∃x nm,y=.str x/\b.lookup x=some nm/\Q (.fn nm) c):E (Ou b g) a S Q:=by
 let#[y,c,d,x,nm,rfl,e2,q]:=h
 show#[_,c,by unfold Ou;rw[d];erw[Qbq];rw[e2];rfl,q]
def IC{i:Nat}{T:List (Str×dE)}{g:fT}{x:Str}{F:dE}{Q:D->aE->Prop}(e:a[i]?=some (some (.fn x)))(c:T.lookup x=some F)(h:E (aA F g) a S Q):E (sD i T g) a S Q:=by
 let#[y,d,b,q]:=h
 show#[_,d,by unfold sD;rw[e];show(T.lookup x).bind _=_;rw[c];show b,q]
def qQ{b:Bool}{x:D}{Q:D->Prop}(q:Q (.bl (if b then !isNone x else isNone x))):Op (mz b S x .non) Q:=#[_,L,q]
end
def u4{α:Type}{xs:List α}{a b:α}:mi (xs++ [a,b]) (-2)=some a:=by
 unfold mi GL
 rw[Quq (!0),Qhq (by simp;omega)]
 erw[Qbq]
 rw[show((-2:Int)+((xs++ [a,b]).length:Int)).toNat=xs.length by simp;omega]
 simp
end DL
namespace W28
open L2 DL
section
variable{S:aE}{Q:Res->aE->Prop}
def Qd:Rw->dE
 |.put _ _=>rG
 |.unl _ _=>km
 |.go _=>wx
 |.do_ _ _ _ _=>vZ
 |.wait _ _=>oy
 |.call _=>oJ
 |.all _=>rR
 |.tell _=>pk
 |.take _=>oT
 |.give _=>o_
 |.pass _ _=>oP
 |.say _=>rN
noncomputable def Rw.kind:Rw->Str
 |.put _ _=>"put"
 |.unl _ _=>"unless"
 |.go _=>"go"
 |.do_ _ _ _ _=>"do"
 |.wait _ _=>"wait"
 |.call _=>"call"
 |.all _=>"all"
 |.tell _=>"tell"
 |.take _=>"take"
 |.give _=>"give"
 |.pass _ _=>"pass"
 |.say _=>"say"
def Rw.d_kind(r:Rw):∃l,r.d=.tup (.str r.kind::l):=by cases r <;>show#[_,L]
def Iz(r:Rw):∃nm,mw.lookup r.kind=some nm/\tY.lookup nm=some (Qd r):=by
 cases r
 ·show#["by_put",L,L]
 ·show#["by_unless",L,L]
 ·show#["by_go",L,L]
 ·show#["by_do",L,L]
 ·show#["by_wait",L,L]
 ·show#["by_call",L,L]
 ·show#["by_all",L,L]
 ·show#["by_tell",L,L]
 ·show#["by_take",L,L]
 ·show#["by_give",L,L]
 ·show#["by_pass",L,L]
 ·show#["by_say",L,L]
def Le(w:cx)(s:aU)(h:Nat)(r:Rw)(s':aU):Prop:=∀(S:aE) (Q:Res->aE->Prop),Q (.d s'.d) S->Fn (Qd r) [w.d,s.d,.int h,r.d] S Q
def zH{w:cx}{s s':aU}{h:Nat}{r:Rw}(a:Le w s h r s')(q:Q (.d s'.d) S):Fn jC [w.d,s.d,.int h,r.d] S Q:=by
 let#[nm,b,c]:=Iz r
 let#[l,hl]:=r.d_kind
 show cc ?_
 unfold vh
 apply aG (bE (Pm ?_))
 rw[hl]
 show aB (d:=.str r.kind) FJ ?_
 rw[<-hl]
 show#[_,nm,L,b,?_]
 apply dM (IC (x:=nm) L c ?_)
 show a _ _ ?_
 show cZ (aX _) (aU.low _) q
def qU{w:cx}{s s':aU}{h i:Nat}{vs:List Int}{gs:List cj}{b f:cj}{rs:cC}{pr:List Rw}{g:Option Str}{rn n:Str}{t:Tr}(o:s.af[h]?=some (vs,gs++ [b,f]))(v:f.room=i)(k:s.aj[i]?=some rs)(p:s.aj.length<=900)(y:s.af.length<=900)
  (r:progOf w h b=some pr) (z:1<=b.row) (j:pr[(b.row-1).toNat]?=some (.do_ g rn n t))
  (e:∀a:aU,a={s with aj:=s.aj.set i (cg rs),af:=s.af.set h (vs,gs++ [b])}->match g with|none=>s'=a|some x=>Puts w a h x f.told s')
  (q:Q (.d s'.d) S):Fn jq [w.d,s.d,.int h] S Q:=by
 have u:h<s.af.length:=(gQs.mp o).1
 show cc ?_
 unfold pM
 symm
 apply aB L ?_
 show aB (d:=Ac (vs,gs++ [b,f])) (aQ (by rw[gQm,o];rfl)) ?_
 show ee L (az (aR (az (aR (bo ?_)))))
 have l:(gs++ [b,f]).map cj.d=gs.map cj.d++ [b.d,f.d]:=by simp
 dsimp only[bM,bg,bN,cP,c7,hJ]
 rw[l]
 symm
 apply qB ?_
 show#[1,L,?_]
 show aB (d:=f.d) (z4 (by simp)) ?_
 show ee L (az (aR (az (aR (az (aR (az (aR (az (aR (bo ?_)))))))))))
 rw[v]
 symm
 apply zU k p ?_
 apply kF ?_
 apply cI (cJ (qB ?_))
 show#[1,L,_,L,_,L,?_]
 rw[yf (by simp)]
 have m:D.tup ((gs.map cj.d++ [b.d,f.d]).dropLast)=.tup ((gs++ [b]).map cj.d):=by
  rw[show gs.map cj.d++ [b.d,f.d]=(gs.map cj.d++ [b.d])++ [f.d] by simp,List.dropLast_concat]
  simp
 rw[m]
 symm
 show g6 (s:={s with aj:=s.aj.set i (cg rs)}) u y ?_
 let e:=e _ L
 dsimp only at e|-
 generalize ({s with aj:=s.aj.set i (cg rs),af:=s.af.set h (vs,gs++ [b])}:aU)=a at e|-
 symm
 apply qB ?_
 show#[2,L,?_]
 apply aB (d:=b.d) u4 ?_
 apply gn r ?_
 apply qB ?_
 show#[2,L,?_]
 apply aB (d:=b.d) u4 ?_
 apply aB (d:=.int b.row) L ?_
 show aB (d:=(Rw.do_ g rn n t).d) (lY (!0) (by rw[gQm,j];rfl)) ?_
 symm
 apply aB (d:=Fk g) L ?_
 show qQ ?_
 cases g with
 | none=>
   dsimp only at e
   subst e
   apply bD (λ_=>?_) (λc=>by cases c)
   show cZ (aX _) (aU.low _) q
 | some x=>
   apply bD (λc=>by cases c) (λ_=>dg ?_)
   apply aB (d:=.str x) L ?_
   show e _ _ ?_
   show cZ (aX _) (aU.low _) q
end
section
variable{S:aE}{Q:Res->aE->Prop}
noncomputable def Mn(h:Nat):Option Int->D
 |none=>.non
 |some v=>.tup [.int h,.int v]
def BF(h:Nat)(e:Xb):cn 0 (Mn h e)=true:=by cases e <;>rfl
noncomputable def GO(s:aU)(h:Nat)(e:Xb):D:=.tup [s.d,Mn h e]
def rK(s:aU)(h:Nat)(e:Xb):cn 0 (GO s h e)=true:=by
 erw[GO,cn,bP,BF,aU.low,Bool.and_true]
def iT(w:cx)(s:aU)(h:Nat)(s':aU)(e:Xb):Prop:=∀(S:aE) (Q:Res->aE->Prop),Q (.d (GO s' h e)) S->Fn lP [w.d,s.d,.int h] S Q
def D2{w:cx}{s:aU}{h i:Nat}{vs:List Int}{fs:List cj}{f:cj}{rs:cC}(j:s.af[h]?=some (vs,fs))(c:fs.getLast? =some f)(e:f.room=i)(a:s.aj[i]?=some rs)(l:rs.within≠h)(b:s.aj.length<=900)(g:rs.row.length<=900):
  iT w s h {s with aj:=s.aj.set i (gM rs h)} none:=by
 intro S Q q
 show cc ?_
 unfold kH
 symm
 apply bV j c ?_
 apply aB (d:=.int f.room) L ?_
 show mO ?_
 dsimp only[bM,bg,bN,cP,c7,hJ]
 rw[Qdq (show¬f.room= -1 by omega),e]
 show if (true=true) then _ else _
 rw[Qhq L]
 symm
 apply aB L ?_
 show aB (d:=rs.d) (aQ (by rw[gQm,a];rfl)) ?_
 symm
 apply aB (d:=.int rs.within) L ?_
 show mO ?_
 dsimp only[bM,bg,bN,cP,c7,hJ]
 rw[Qdq l]
 show if (true=true) then _ else _
 rw[Qhq L]
 symm
 apply ua a b g ?_
 show#[by show 2<=_;decide,?_]
 show cZ (d:=GO _ h none) (λk z=>(nomatch z)) (rK _ _ _) q
def Here(s:aU)(h:Nat)(f:cj):Prop:=f.room= -1\/∃(i:Nat) (a:cC),f.room=i/\s.aj[i]?=some a/\a.within=h
def vC{w:cx}{s:aU}{h:Nat}{f:cj}{a b c d:Option D}{Q:Bool->aE->Prop}(k:Here s h f)(q:Q false S):E (gD (aK (bf (gq true) (au 4) (cF (.int (-1))))) (aK (bf (gq true) (bf kc (bf kc (bf kc (au 1) (cF (.int 0))) (au 4)) (cF (.int 1))) (au 2)))) [some w.d,some s.d,some (.int h),some f.d,some (.int f.room),a,b,c] S Q:=by
 rcases k with g|⟨i,j,g,e,l⟩
 ·symm
  show mO ?_
  dsimp only[bM,bg,bN,cP,c7,hJ]
  rw[Qeq g]
  show if (false=true) then _ else _
  rw[Quq (!1)]
  show q
 ·symm
  show mO ?_
  dsimp only[bM,bg,bN,cP,c7,hJ]
  rw[Qdq (show¬f.room= -1 by omega),g]
  show if (true=true) then _ else _
  rw[Qhq L]
  symm
  apply aB L ?_
  show aB (d:=j.d) (aQ (by rw[gQm,e];rfl)) ?_
  symm
  apply aB (d:=.int j.within) L ?_
  show mO ?_
  dsimp only[bM,bg,bN,cP,c7,hJ]
  rw[Qeq l]
  show q
def zj{w:cx}{s s':aU}{h:Nat}{vs:List Int}{fs:List cj}{f:cj}{pr:List Rw}(i:s.af[h]?=some (vs,fs))(e:fs.getLast? =some f)(g:Here s h f)(b:progOf w h f=some pr)(a:f.row=pr.length)
  (he:∀(S:aE) (Q:Res->aE->Prop),Q (.d s'.d) S->Fn jq [w.d,s.d,.int h] S Q):iT w s h s' none:=by
 intro S Q q
 show cc ?_
 unfold kH
 symm
 apply bV i e ?_
 show aB (d:=.int f.room) L ?_
 show aG (fE (vC (d:=none) g ?_))
 apply bD (λc=>by cases c) (λ_=>dg ?_)
 apply gn b ?_
 apply aB (d:=.int f.row) L ?_
 show fU ?_
 dsimp only[bM,bg,bN,cP,c7,hJ]
 rw[lQm,Qeq a,Qhq L]
 symm
 apply he _ _ ?_
 show#[by show 2<=_;decide,?_]
 show cZ (d:=GO _ h none) (λk z=>(nomatch z)) (rK _ _ _) q
def Lj(w:cx)(s:aU)(h:Nat)(r:Rw)(e:Xb):Prop:=match r with
 |.say t=>∃v,e=some v/\As w s h t v
 |_=>e=none
def E1{w:cx}{s s':aU}{h:Nat}{vs:List Int}{fs:List cj}{f:cj}{pr:List Rw}{r:Rw}{e:Xb}(m:s.af[h]?=some (vs,fs))(j:fs.getLast? =some f)(B:Here s h f)(A:progOf w h f=some pr)(y:0<=f.row)(b:pr[f.row.toNat]?=some r)(x:fs.length<=900)(C:s.af.length<=900)
  (a:Lj w s h r e) (n:Le w {s with af:=s.af.set h (vs,fs.dropLast++ [{f with row:=f.row+1}])} h r s'):iT w s h s' e:=by
 intro S Q q
 let u:=(gQs.mp b).1
 show cc ?_
 unfold kH
 symm
 apply bV m j ?_
 show aB (d:=.int f.room) L ?_
 show aG (fE (vC (d:=none) B ?_))
 apply bD (λc=>by cases c) (λ_=>dg ?_)
 apply gn A ?_
 apply aB (d:=.int f.row) L ?_
 show fU ?_
 dsimp only[bM,bg,bN,cP,c7,hJ]
 rw[lQm,Qdq (show¬f.row=(pr.length:Int) by omega),Quq (!1)]
 apply dg ?_
 show aB (d:=.int f.row) L ?_
 show aB (d:=r.d) (lY y (by rw[gQm,b];rfl)) ?_
 symm
 let#[l,hl]:=r.d_kind
 have g:T (cB (aW (ar (aA jC (ar (au 0) (ar (aA kb (ar (au 1) (ar (au 2) (ar (bf bS (bf kc (au 3) (cF (.int 2))) (cF (.int 1))) av)))) (ar (au 2) (ar (au 6) av))))) (ar (au 7) av))))
   [some w.d,some s.d,some (.int h),some f.d,some (.int f.room),some (.tup (pr.map Rw.d)),some r.d,some (Mn h e)] S (λo=>match o with
   |.nx _ i=>Op (settle S .non i) λp=>Q p.1 p.2|.rt d i=>Op (settle S d i) λp=>Q p.1 p.2|.rl l i=>Op (fG S l i) λp=>Q p.1 p.2|_=>False):=by
  symm
  apply aB (d:=.int f.row) L ?_
  apply qp m j x C ?_
  apply zH n ?_
  show#[by show 2<=_;decide,?_]
  show cZ (d:=GO _ h e) (λk z=>(nomatch z)) (rK _ _ _) q
 cases r with
 | say t=>
   let#[v,rfl,hv]:=a
   apply aB (d:=.str "say") L ?_
   show iZ ?_
   dsimp only[bM,bg,bN,cP,c7,hJ]
   rw[Qeq L,Qhq L]
   symm
   apply aB (d:=t.d) L ?_
   apply hv _ _ ?_
   show#[by show 2<=_;decide,?_]
   show g
 | _=>
   have a:e=none:=a
   subst a
   apply aB L ?_
   show iZ ?_
   dsimp only[bM,bg,bN,cP,c7,hJ]
   show bD (λc=>absurd (QZq c) (by decide +kernel)) (λ_=>dg ?_)
   show g
end
end W28
namespace DL
open L2
section
variable{a:cv}{S:aE}
def FN{f:bp}{g:d0}{Q:D->aE->Prop}(h:E f a S λx c=>∃k b,x=.ref k/\c[k]?=some (.lst b)/\E g a c λp S2=>∃ds,S2[k]?=some (.lst ds)/\(p.2.isL=false/\ds.length+p.1.length<=sizeLine)/\Q .non (S2.set k (.lst (ds++p.1)))):E (vb f g) a S Q:=by
 let#[x,c,d,k,b,rfl,h1,p,S2,e2,ds,h2,h3,q]:=h
 show#[_,_,by unfold vb;rw[d];erw[Qbq,e2,h1,h2];rw[Qhq h3],q]
end
def A9{S a:aE}{k:Nat}{ds:List D}{Q:Res×aE->Prop}(c:oS S a)(d:S.length<=k)(b:a[k]?=some (.lst ds))(hl:bP S.length ds=true)(q:Q (.l ds,a.take S.length)):Op (settle S (.ref k) a) Q:=by
 show#[_,?_,q]
 unfold settle
 rw[Qhq c]
 show(if k<S.length then _ else _)=_
 rw[Quq (!0),b]
 show(if bP S.length ds=true then _ else _)=_
 rw[Qhq hl]
def wO{n:Nat}(h:n<=1000000):n<=sizeLine:=QAq h (!1)
theorem jV:∀a:List Int,iz (a.map D.int)=some (a.map V.int)
 | []=>rfl
 |s::a=>by erw[QDq,iz,wL,Qbq];rw[jV a];rfl
def wb{x:Int}{b:List Int}:Ec (.int x) (b.map V.int)=decide (x∈b):=by
 induction b with
 |nil=>rfl
 | cons a b d=>
   show(qX (.int a) (.int x)||Ec (.int x) (b.map V.int))=_
   rw[d]
   erw[qX,Qsq]
   by_cases c:a=x
   · subst c;simp
   · have e:¬x=a:=λz=>c z.symm
     simp[c,e]
end DL
namespace W28
open L2 DL
section
variable{S:aE}{Q:Res->aE->Prop}
def yL{S a:aE}(x:l6 S a):a.take S.length=S:=by
 apply List.ext_getElem?
 intro j
 by_cases b:j<S.length
 ·rw[List.getElem?_take_of_lt b]
  show x.eq j b
 ·rw[List.getElem?_eq_none (by rw[Qxq];omega),List.getElem?_eq_none (!0)]
def KF{S a:aE}{ds:List D}{Q:Res->aE->Prop}(x:l6 S a)(hl:bP 0 ds=true)(q:Q (.l ds) S):Op (fG S ds a) λp=>Q p.1 p.2:=
 m9 #[x.len,λk o b e=>.inl (by rw[<-x.eq k b];show e)] (yL x) (jv hl) q
def F5{S a:aE}{k:Nat}{ds:List D}{Q:Res->aE->Prop}(x:l6 S a)(b:S.length<=k)(c:a[k]?=some (.lst ds))(hl:bP 0 ds=true)(q:Q (.l ds) S):Op (settle S (.ref k) a) λp=>Q p.1 p.2:=
 A9 #[x.len,λk o b e=>.inl (by rw[<-x.eq k b];show e)] b c (jv hl) (by rw[yL x];show q)
def yK{l:List (Int×Int)}(hl:l.length<=1000)(q:Q (.l ((l.map (·.2)).map D.int)) S):Fn lV [dW l] S Q:=by
 show cc ?_
 unfold pH
 symm
 apply tM (α:=Int×Int) (λc=>∃a b,c= [a,b]) pairD (λp=>.int p.2) #[none,none,L] ?_
 show df (ds:=l.map pairD) ?_
 show#[l,L,trivial,hl,λp f c d=>?_,?_]
 ·let#[a,b,rfl]:=d
  show ee L (az (aR (az (aR (bo ?_)))))
  apply#[L,#[_,_,L],?_]
  show#[L,L]
 ·have e:l.map (λp=>D.int p.2)=(l.map (·.2)).map D.int:=by rw[QPq];rfl
  rw[e]
  show Fu (a_ λ_ _=>rfl) q
noncomputable def aO(r:cC):List Int:=r.row++r.ag++r.aa.flatMap λl=>l.map (·.2)
noncomputable def held(s:aU):List Int:=s.ai.flatMap (·.2)++s.aj.flatMap aO
theorem oM{α c:Type}{f:α->List c}{n:Nat}:∀{l:List α},(∀a∈l,(f a).length<=n)->(l.flatMap f).length<=n*l.length
 | [],_=>by simp
 | a::l,h=>by
   let g:=h a (QBq ..)
   let e:=oM (f:=f) (l:=l) λb d=>h b (Qpq _ d)
   rw[QSq,lQa,Qnq,Nat.mul_add]
   omega
def qf{α b:Type}{f:α->List b}{l:List α}{n:Nat}{a:α}(h:l[n]?=some a):(l.take (n+1)).flatMap f=(l.take n).flatMap f++f a:=by
 rw[QYq,h]
 simp
def jE{s:aU}{n:Nat}(U:n<=800)(b1:s.ai.length<=100)(b2:s.aj.length<=20)(P:∀p∈s.ai,p.2.length<=n)(H:∀r∈s.aj,r.row.length<=n/\r.ag.length<=n/\r.aa.length<=10/\∀l∈r.aa,l.length<=n)
  (q:Q (.l ((held s).map D.int)) S):Fn cD [s.d] S Q:=by
 have Z:∀o:List D,l6 S (S++ [.lst o]):=λo=>l6.refl.app
 have F:∀r∈s.aj,∀j:Nat,((r.aa.take j).flatMap λl=>l.map (·.2)).length<=8000:=λr F j=>by
  let#[_,_,R,M]:=H r F
  let B:=oM (f:=λl:List (Int×Int)=>l.map (·.2)) (n:=n) (l:=r.aa.take j) λl hl=>by rw[lQm];show M l (List.mem_of_mem_take hl)
  have G:(r.aa.take j).length<=10:=by rw[Qxq];omega
  have Y:n*(r.aa.take j).length<=800*10:=Nat.mul_le_mul U G
  omega
 have K:∀r∈s.aj,(aO r).length<=9600:=λr h=>by
  let I:=F r h r.aa.length
  let#[X,R,_]:=H r h
  rw[QEq] at I
  erw[aO,lQa]
  omega
 have w:∀j:Nat,((s.ai.take j).flatMap (·.2)).length<=80000:=λj=>by
  let B:=oM (f:=λp:Int×List Int=>p.2) (n:=n) (l:=s.ai.take j) λl hl=>P l (List.mem_of_mem_take hl)
  have G:(s.ai.take j).length<=100:=by rw[Qxq];omega
  have Y:n*(s.ai.take j).length<=800*100:=Nat.mul_le_mul U G
  omega
 have J:∀j:Nat,((s.aj.take j).flatMap aO).length<=192000:=λj=>by
  let B:=oM (f:=aO) (n:=9600) (l:=s.aj.take j) λl hl=>K l (List.mem_of_mem_take hl)
  have G:(s.aj.take j).length<=20:=by rw[Qxq];omega
  omega
 show cc ?_
 unfold ia
 symm
 show#[by decide,?_]
 apply aG (fP (ja ?_))
 show aB L ?_
 show df (ds:=s.ai.map Aa) ?_
 show#[λj k u=>(∃a b c d e f g,k= [some s.d,some (.ref S.length),a,b,c,d,e,f,g])/\u=S++ [.lst (((s.ai.take j).flatMap (·.2)).map D.int)],#[#[_,_,_,_,_,_,_,L],L],λ_ _ _ _=>trivial,?_,?_]
 ·rintro j d k u t ⟨⟨a,b,c,C,e,f,g,rfl⟩,rfl⟩
  have t:(s.ai.map Aa)[j]?=some d:=t
  rw[gQm] at t
  let#[p,N,rfl]:=oQm.mp t
  show ee L (az (aR (az (aR (bo ?_)))))
  apply kE (FN ?_)
  apply#[_,_,L,aS,?_]
  show df (ds:=p.2.map D.int) ?_
  show#[_,aS,#[L,?_],#[_,_,_,_,_,_,_,L],?_]
  ·have:=w j
   have:=P p (mQg N)
   erw[lQm]
   show wO (!0)
  ·rw[qf N,Qzq]
   simp
 rintro k u ⟨⟨a,b,c,C,e,f,g,rfl⟩,rfl⟩
 have hl:(s.ai.map Aa).length=s.ai.length:=lQm ..
 rw[hl,QEq]
 apply aG (fP (ja ?_))
 show aB L ?_
 show df (ds:=s.aj.map cC.d) ?_
 show#[λj k u=>(∃a b c d e f g,k= [some s.d,some (.ref S.length),a,b,c,d,e,f,g])/\u=S++ [.lst ((s.ai.flatMap (·.2)++(s.aj.take j).flatMap aO).map D.int)],#[#[_,_,_,_,_,_,_,L],by simp],λ_ _ _ _=>trivial,?_,?_]
 ·rintro j d k u t ⟨⟨a,b,c,C,e,f,g,rfl⟩,rfl⟩
  have t:(s.aj.map cC.d)[j]?=some d:=t
  rw[gQm] at t
  let#[r,x,rfl]:=oQm.mp t
  let v:=mQg x
  let#[X,R,M,B]:=H r v
  have y:(s.ai.flatMap (·.2)++(s.aj.take j).flatMap aO).length<=272000:=by
   have:=w s.ai.length
   rw[QEq] at this
   have:=J j
   rw[lQa]
   omega
  generalize z:s.ai.flatMap (·.2)++(s.aj.take j).flatMap aO=o at y|-
  show ee L (az (aR (az (aR (az (aR (az (aR (az (aR (bo ?_)))))))))))
  apply aG (kE (FN ?_))
  apply#[_,_,L,aS,?_]
  show dN (i:=r.row.map D.int) (j:=r.ag.map D.int) (by erw[lQm];show wO (!0)) ?_
  show df ?_
  show#[_,aS,#[L,?_],?_]
  ·erw[lQa,lQm]
   show wO (!0)
  dsimp only[bM,bg,bN,cP,c7,hJ]
  have e1:(S++ [O.lst (o.map D.int)]).set S.length (.lst (o.map D.int++(r.row.map D.int++r.ag.map D.int)))=S++ [.lst ((o++(r.row++r.ag)).map D.int)]:=by simp
  rw[e1]
  apply fP (ja ?_)
  show#[λj k u=>(∃a b c d e f g,k= [some s.d,some (.ref S.length),a,b,c,d,e,f,g])/\u=S++ [.lst ((o++(r.row++r.ag)++(r.aa.take j).flatMap λl=>l.map (·.2)).map D.int)],#[#[_,_,_,_,_,_,_,L],by simp],λ_ _ _ _=>trivial,?_,?_]
  ·rintro m d k u t ⟨⟨a,b,c,C,e,f,g,rfl⟩,rfl⟩
   have t:(r.aa.map dW)[m]?=some d:=t
   rw[gQm] at t
   let#[l,A,rfl]:=oQm.mp t
   let W:=B l (mQg A)
   show aR ?_
   apply kE (B1 ?_)
   apply#[_,_,L,aS,?_]
   apply yK (!0) ?_
   show#[_,aS,#[L,?_],#[_,_,_,_,_,_,_,L],?_]
   ·have:=F r v m
    erw[lQa,lQm]
    show wO (!0)
   ·rw[qf A,<-Qvq,Qzq]
    simp
  ·rintro k u ⟨I,rfl⟩
   show#[I,?_]
   have hl:(r.aa.map dW).length=r.aa.length:=lQm ..
   rw[hl,QEq,qf x]
   subst z
   erw[aO,Qvq]
 ·rintro k u ⟨⟨a,b,c,C,e,f,g,rfl⟩,rfl⟩
  have hl:(s.aj.map cC.d).length=s.aj.length:=lQm ..
  rw[hl,QEq]
  symm
  show F5 (Z _) (Qmq _) aS (a_ λ_ _=>rfl) q
end
end W28
namespace DL
open L2
def Kn{b:cv}{S:aE}{f g:bp}{Q:D->aE->Prop}(h:E f b S λd a=>∃k,d=.bl k/\if k=true then E g b a Q else Q (.bl false) a):E (FL f g) b S Q:=by
 let#[d,a,c,k,rfl,q]:=h
 cases k with
 |true=>let#[j,e,i,q]:=(q:E g b a Q);show#[j,e,by unfold FL;rw[c];show i,q]
 |false=>show#[_,a,by unfold FL;rw[c];rfl,q]
end DL
namespace W28
open L2 DL
section
variable{S:aE}{Q:Res->aE->Prop}
noncomputable def Fc(s:aU)(h:Nat):Option cj:=(s.af[h]?).bind λp=>p.2.getLast?
noncomputable def zB(w:cx)(s:aU)(h:Nat):Bool:=match Fc s h with
 |some f=>decide (f.room= -1)&&decide (f.row=(((progOf w h f).getD []).length:Int))
 |none=>false
def pO{w:cx}{s:aU}{h:Nat}{vs:List Int}{fs:List cj}{f:cj}{pr:List Rw}(e:s.af[h]?=some (vs,fs))(b:fs.getLast? =some f)(a:progOf w h f=some pr)(q:Q (.d (.bl (zB w s h))) S):Fn fN [w.d,s.d,.int h] S Q:=by
 have g:zB w s h=(decide (f.room= -1)&&decide (f.row=(pr.length:Int))):=by
  unfold zB Fc
  rw[e]
  show(match fs.getLast? with|some f=>_|none=>_)=_
  rw[b]
  erw[a,Option.getD_some]
 rw[g] at q
 show cc ?_
 unfold ik
 symm
 apply bV e b ?_
 apply Kn ?_
 apply aB (d:=.int f.room) L ?_
 show fU ?_
 show#[_,L,?_]
 by_cases c:f.room= -1
 ·rw[Qeq c] at q|-
  rw[Qhq L]
  symm
  apply aB (d:=.int f.row) L ?_
  apply gn a ?_
  show fU ?_
  rw[lQm]
  show cZ (λk z=>(nomatch z)) L q
 ·rw[Qdq c] at q|-
  rw[Quq (!1)]
  show cZ (λk z=>(nomatch z)) L q
noncomputable def mB(w:cx)(s:aU):List Nat:=(List.range s.af.length).filter λh=> !decide ((h:Int)∈held s)&& !zB w s h
noncomputable def Gp(h:Nat):D:=.int h
def Ku(w:cx)(s:aU):Prop:=∀(S:aE) (Q:Res->aE->Prop),Q (.l ((mB w s).map Gp)) S->Fn hX [w.d,s.d] S Q
def ya{w:cx}{s:aU}(m:∀(S:aE) (Q:Res->aE->Prop),Q (.l ((held s).map D.int)) S->Fn cD [s.d] S Q)(k:∀h<s.af.length,∃vs fs f pr,s.af[h]?=some (vs,fs)/\fs.getLast? =some f/\progOf w h f=some pr)(p:s.af.length<=100):Ku w s:=by
 intro S Q q
 show cc ?_
 unfold pQ
 symm
 apply m _ _ ?_
 apply i7 (α:=Nat) (λb=>∃a,b= [a,some w.d,some s.d,some (.ref S.length)]) (λ(i:Nat)=>D.int (0+(i:Int))) Gp (λh=> !decide ((h:Int)∈held s)&& !zB w s h) #[none,L] ?_
 apply aB L ?_
 show#[_,L,?_,?_]
 ·erw[lQm]
  omega
 show#[List.range s.af.length,?_,trivial,by simp;omega,λh o b e=>?_,?_]
 ·erw[iG,lQm]
  rfl
 ·let#[a,rfl]:=e
  let#[vs,fs,f,pr,j,g,n]:=k h (List.mem_range.mp o)
  show aR #[L,#[_,L],?_]
  rw[Int.zero_add]
  apply kL (bZ (HJ ?_))
  show bF (ds:=(held s).map D.int) aS ?_
  show#[_,_,L,jV _,?_]
  rw[wb]
  by_cases c:(h:Int)∈held s
  ·rw[Qeq c]
   show bD (λc=>by cases c) (λ_=>?_)
   show#[L,L,λc=>by cases c]
  ·rw[Qdq c]
   apply bD (λ_=>?_) (λc=>by cases c)
   show pO j g n ?_
   dsimp only[bM,bg,bN,cP,c7,hJ]
   show um ?_
   apply#[L,L,λ_=>?_]
   show#[L,L]
 ·show KF (l6.refl.app) (a_ λ_ _=>rfl) q
def A8{w:cx}{s s':aU}{h:Nat}{e:Xb}(b:Ku w s)(g:h∈mB w s)(a:iT w s h s' e)(q:Q (.d (GO s' h e)) S):Fn oO [w.d,s.d,.int h] S Q:=by
 show cc ?_
 unfold uq
 apply aG (fE (bZ (HJ ?_)))
 show b _ _ ?_
 dsimp only[bM,bg,bN,cP,c7,hJ]
 have f:(mB w s).map Gp=((mB w s).map λh:Nat=>(h:Int)).map D.int:=by rw[QPq];rfl
 show#[_,_,L,by rw[f];show jV _,?_]
 rw[wb,Qeq (Qkq.mpr #[h,g,L])]
 apply bD (λc=>by cases c) (λ_=>dg ?_)
 show a _ _ ?_
 show cZ (λk z=>(nomatch z)) (rK _ _ _) q
end
structure j_(n:Nat)(r:Rm)(rs:cC):Prop where
 lv:r.ao.length=rs.vals.length
 lb:r.aa.length=rs.aa.length
 vv:∀v∈rs.vals,0<=v/\v<=9
 br:rs.row.length<=n
 bl:rs.ag.length<=n
 bb:∀l∈rs.aa,l.length<=n
structure Em(w:cx)(h:Nat)(f:cj):Prop where
 pr:∃pr,progOf w h f=some pr/\0<=f.row/\f.row<=pr.length
 gv:0<=f.given/\f.given<=9
 tv:0<=f.told/\f.told<=9
def OQ(w:cx)(h:Nat)(f:cj):Prop:=∃a g rn b t,progOf w h f=some a/\1<=f.row/\a[(f.row-1).toNat]?=some (.do_ g rn b t)
def i4:List cj->Prop
 | []=>False
 |f0::tl=>f0.room= -1/\∀f∈tl,f.room≠-1
structure jw(w:cx)(n h:Nat)(ts:List (Str×Nat))(vs:List Int)(fs:List cj):Prop where
 lv:ts.length=vs.length
 vv:∀v∈vs,0<=v/\v<=9
 lf:fs.length<=n
 fr:∀f∈fs,Em w h f
 hd:i4 fs
 ch:∀f∈fs.dropLast,OQ w h f
structure cN(w:cx)(n:Nat)(s:aU):Prop where
 lr:w.aj.length=s.aj.length
 rm:∀(i:Nat) (r:Rm) (rs:cC),w.aj[i]?=some r->s.aj[i]?=some rs->j_ n r rs
 lp:w.ai.length=s.ai.length
 ps:∀p∈s.ai,p.2.length<=n
 ls:w.ak.length=s.ak.length
 sv:∀v∈s.ak,0<=v/\v<=9
 lh:w.af.length=s.af.length
 hd:∀(h:Nat) (ts:List (Str×Nat)) (pr:List Rw) (vs:List Int) (fs:List cj),w.af[h]?=some (ts,pr)->s.af[h]?=some (vs,fs)->jw w n h ts vs fs
def j_.mono{n m:Nat}{r:Rm}{rs:cC}(h:j_ n r rs)(l:n<=m):j_ m r rs:=#[h.lv,h.lb,h.vv,QAq h.br l,QAq h.bl l,λx a=>QAq (h.bb x a) l]
def jw.mono{w:cx}{n m h:Nat}{ts:List (Str×Nat)}{vs:List Int}{fs:List cj}(x:jw w n h ts vs fs)(l:n<=m):jw w m h ts vs fs:=#[x.lv,x.vv,QAq x.lf l,x.fr,x.hd,x.ch]
def cN.mono{w:cx}{n m:Nat}{s:aU}(x:cN w n s)(l:n<=m):cN w m s:=#[x.lr,λi r c b a=>(x.rm i r c b a).mono l,x.lp,λp d=>QAq (x.ps p d) l,x.ls,x.sv,x.lh,λh f j e g b a=>(x.hd h f j e g b a).mono l]
def get_set{α:Type}{l:List α}{i j:Nat}{a b:α}(h:(l.set i a)[j]?=some b):(j=i/\b=a)\/(j≠i/\l[j]?=some b):=by
 rw[List.getElem?_set] at h
 split at h
 ·rename_i c
  split at h
  ·cases h;show .inl #[c.symm,L]
  ·cases h
 ·rename_i c
  show .inr #[λz=>c z.symm,h]
def cN.room{w:cx}{n i:Nat}{s:aU}{r:Rm}{nr:cC}(x:cN w n s)(e:w.aj[i]?=some r)(f:j_ n r nr):cN w n {s with aj:=s.aj.set i nr} where
 lr:=by simpa using x.lr
 rm:=λj d c b a=>by
  rcases get_set a with⟨rfl,rfl⟩|⟨_,a⟩
  ·rw[e] at b;cases b;show f
  ·show x.rm j d c b a
 lp:=x.lp
 ps:=x.ps
 ls:=x.ls
 sv:=x.sv
 lh:=x.lh
 hd:=x.hd
def cN.pass{w:cx}{n i:Nat}{s:aU}{p:Int×List Int}(x:cN w n s)(b:p.2.length<=n):cN w n {s with ai:=s.ai.set i p} where
 lr:=x.lr
 rm:=x.rm
 lp:=by simpa using x.lp
 ps:=λq a=>by
  rcases QTq a with a|rfl
  ·show x.ps q a
  ·show b
 ls:=x.ls
 sv:=x.sv
 lh:=x.lh
 hd:=x.hd
def cN.share{w:cx}{n:Nat}{s:aU}{vs:List Int}(x:cN w n s)(hl:vs.length=s.ak.length)(a:∀v∈vs,0<=v/\v<=9):cN w n {s with ak:=vs}:=#[x.lr,x.rm,x.lp,x.ps,by rw[x.ls,<-hl],a,x.lh,x.hd]
def cN.hand{w:cx}{n h:Nat}{s:aU}{ts:List (Str×Nat)}{pr:List Rw}{vs:List Int}{fs:List cj}(x:cN w n s)(i:w.af[h]?=some (ts,pr))(k:jw w n h ts vs fs):cN w n {s with af:=s.af.set h (vs,fs)} where
 lr:=x.lr
 rm:=x.rm
 lp:=x.lp
 ps:=x.ps
 ls:=x.ls
 sv:=x.sv
 lh:=by simpa using x.lh
 hd:=λj g a c d f b=>by
  rcases get_set b with⟨rfl,e⟩|⟨_,b⟩
  ·rw[i] at f;cases f;cases e;show k
  ·show x.hd j g a c d f b
def ig{α:Type}{l:List α}{a:α}(h:l.getLast? =some a):l=l.dropLast++ [a]:=by
 cases l with
 |nil=>cases h
 | cons x y=>
   have b:x::y≠[]:=by simp
   rw[List.getLast?_eq_some_getLast b] at h
   cases h
   show(List.dropLast_concat_getLast b).symm
def i4.last{fs:List cj}{f f':cj}:∀{b:List cj},i4 (b++ [f])->f'.room=f.room->i4 (b++ [f'])
 | [],h,e=>#[by rw[e];show h.1,λ_ z=>by cases z]
 | a::l,h,e=>⟨h.1,λx c=>by
   rcases mQa.mp c with c|c
   · show h.2 x (mQa.mpr (.inl c))
   · rw[Qfq.mp c,e];show h.2 f (mQa.mpr (.inr (Qfq.mpr L)))⟩
def i4.push{f':cj}:∀{fs:List cj},i4 fs->f'.room≠-1->i4 (fs++ [f'])
 | [],h,_=>h.elim
 | a::l,h,e=>⟨h.1,λx b=>by
   rcases mQa.mp b with b|b
   · show h.2 x b
   · rw[Qfq.mp b];show e⟩
def i4.pop{c f:cj}:∀{gs:List cj},i4 (gs++ [c,f])->i4 (gs++ [c])
 | [],h=>#[h.1,λ_ z=>by cases z]
 | a::l,h=>⟨h.1,λx b=>h.2 x (by
   rcases mQa.mp b with b|b
   · show mQa.mpr (.inl b)
   · show mQa.mpr (.inr (by rw[Qfq.mp b];simp)))⟩
def i4.two{f:cj}:∀{b:List cj},i4 (b++ [f])->f.room≠-1->∃gs c,b=gs++ [c]
 | [],h,e=>absurd h.1 e
 |a::l,h,e=>#[(a::l).dropLast,(a::l).getLast (by simp),(List.dropLast_concat_getLast (by simp)).symm]
section
variable{w:cx}{n h:Nat}{ts:List (Str×Nat)}{vs:List Int}{fs:List cj}{f f' b:cj}
def jw.setLast(x:jw w n h ts vs fs)(j:fs.getLast? =some f)(e:f'.room=f.room)(i:Em w h f'):jw w n h ts vs (fs.dropLast++ [f']):=by
 let d:=ig j
 let c:=x.hd
 rw[d] at c
 show#[x.lv,x.vv,?_,λg a=>?_,i4.last (fs:=fs) c e,λg a=>?_]
 ·have:=congrArg List.length d
  have:=x.lf
  erw[lQa,Qnq,QGq] at *
  omega
 ·rcases mQa.mp a with a|a
  ·show x.fr g (List.dropLast_subset _ a)
  ·rw[Qfq.mp a];show i
 ·rw[List.dropLast_concat] at a
  show x.ch g a
def jw.push(x:jw w n h ts vs fs)(c:fs.getLast? =some f)(d:OQ w h f)(e:f'.room≠-1)(i:Em w h f'):jw w (n+1) h ts vs (fs++ [f']):=by
 show#[x.lv,x.vv,?_,λg a=>?_,x.hd.push e,λg a=>?_]
 ·have:=x.lf
  erw[lQa,Qnq,QGq]
  omega
 ·rcases mQa.mp a with a|a
  ·show x.fr g a
  ·rw[Qfq.mp a];show i
 ·rw[List.dropLast_concat,ig c] at a
  rcases mQa.mp a with a|a
  ·show x.ch g a
  ·rw[Qfq.mp a];show d
def jw.pop{gs:List cj}(x:jw w n h ts vs (gs++ [b,f])):jw w n h ts vs (gs++ [b])/\OQ w h b:=by
 have e:(gs++ [b,f]).dropLast=gs++ [b]:=by rw[show gs++ [b,f]=(gs++ [b])++ [f] by simp,List.dropLast_concat]
 let c:=x.ch
 rw[e] at c
 show#[#[x.lv,x.vv,?_,λg a=>x.fr g ?_,x.hd.pop,λg a=>c g ?_],c b (by simp)]
 ·have:=x.lf
  erw[lQa,Qnq,QGq] at *
  omega
 ·rcases mQa.mp a with a|a
  ·show mQa.mpr (.inl a)
  ·show mQa.mpr (.inr (by rw[Qfq.mp a];simp))
 ·rw[List.dropLast_concat] at a
  show mQa.mpr (.inl a)
def jw.vals{a:List Int}(x:jw w n h ts vs fs)(hl:a.length=vs.length)(c:∀v∈a,0<=v/\v<=9):jw w n h ts a fs:=#[by rw[x.lv,hl],c,x.lf,x.fr,x.hd,x.ch]
def jw.last(x:jw w n h ts vs fs):∃f,fs.getLast? =some f/\Em w h f:=by
 have:=x.hd
 cases fs with
 |nil=>show this.elim
 | cons a l=>
   show#[_,List.getLast?_eq_some_getLast (by simp),x.fr _ (List.getLast_mem (by simp))]
end
def nX{w:cx}{h:Nat}{f:cj}{pr:List Rw}(a:progOf w h f=some pr):(f.room= -1/\∃ts,w.af[h]?=some (ts,pr))\/∃(i j:Nat) (r:Rm) (b:Str),f.room=i/\f.deed=j/\w.aj[i]?=some r/\r.ae[j]?=some (b,pr):=by
 unfold progOf at a
 split at a
 ·rename_i c
  let#[#[ts,g],e,d]:=oQm.mp a
  cases d
  show .inl #[c,ts,e]
 ·split at a
  ·rename_i c
   let#[r,e,d]:=aq a
   let#[#[b,g],l,k]:=oQm.mp d
   cases k
   show .inr #[f.room.toNat,f.deed.toNat,r,b,by omega,by omega,e,l]
  ·cases a
def DP{w:cx}{h i j:Nat}{f:cj}{r:Rm}{a:Str}{pr:List Rw}(d:f.room=i)(b:f.deed=j)(e:w.aj[i]?=some r)(c:r.ae[j]?=some (a,pr)):progOf w h f=some pr:=by
 unfold progOf
 rw[Quq (!0),Qhq #[by omega,by omega],d,b]
 show(w.aj[i]?).bind _=_
 rw[e]
 show(r.ae[j]?).map _=_
 rw[c]
 rfl
noncomputable def D0(w:cx)(h:Nat)(f:cj):Option Sc:=if f.room= -1 then(w.af[h]?).map λp=>#[true,p.1.map (·.1)++w.ak.map (·.1),p.1.map (·.1)++w.ak.map (·.1),[],bG w.aj,w.ai.map (·.1)]
 else(w.aj[f.room.toNat]?).map λr=>#[false,r.ao.map (·.1)++da,r.ao.map (·.1),r.aa.map (·.1),bG w.aj,[]]
def Gv{w:cx}{h:Nat}{f:cj}{pr:List Rw}(o:cA w)(e:progOf w h f=some pr):∃b,D0 w h f=some b/\yR b pr:=by
 unfold D0
 rcases nX e with⟨c,l,a⟩|⟨i,j,r,k,a,m,d,g⟩
 ·rw[Qhq c,a]
  show#[_,L,(o.hd _ (mQg a)).pr]
 ·rw[Quq (!0),a]
  show#[_,by rw[show((i:Int)).toNat=i by omega,d];rfl,((o.rm _ (mQg d)).pr _ (mQg g)).1]
def DC{w:cx}(o:cA w):cN w 1 (bU w) where
 lr:=by simp[bU]
 rm:=λi r m c d=>by
  erw[bU,gQm,c,Option.map_some,Option.some.injEq] at d
  subst d
  let g:=o.rm r (mQg c)
  show#[by simp[dh,fe],by simp[dh],λv b=>?_,by simp[dh],by simp[dh],λl hl=>?_]
  ·erw[dh,fe,Qkq] at b
   let#[p,a,rfl]:=b
   have:=g.tv p a
   omega
  ·erw[dh,Qkq] at hl
   let#[p,a,rfl]:=hl
   simp
 lp:=by simp[bU]
 ps:=λp a=>by
  erw[bU,Qkq] at a
  let#[p,a,rfl]:=a
  simp
 ls:=by simp[bU,fe]
 sv:=λv b=>by
  erw[bU,fe,Qkq] at b
  let#[p,a,rfl]:=b
  have:=o.sv p a
  omega
 lh:=by simp[bU]
 hd:=λh q j k n c d=>by
  erw[bU,gQm,c,Option.map_some,Option.some.injEq] at d
  cases d
  let g:=o.hd _ (mQg c)
  show#[by simp[fe],λv b=>?_,by simp,λf e=>?_,#[L,λ_ z=>by cases z],λf e=>by cases e]
  ·erw[fe,Qkq] at b
   let#[p,a,rfl]:=b
   have:=g.tv p a
   omega
  ·rw[Qfq.mp e]
   show#[#[j,?_,by decide,?_],by decide,by decide]
   ·unfold progOf
    rw[Qhq (show GH.room= -1 from L),c]
    rfl
   ·show(0:Int)<=_
    omega
section
variable{w:cx}{n h:Nat}{s:aU}{vs:List Int}{fs:List cj}{f:cj}{d:Sc}
def cN.whand(x:cN w n s)(a:s.af[h]?=some (vs,fs)):∃ts pr,w.af[h]?=some (ts,pr)/\jw w n h ts vs fs:=by
 have hl:h<w.af.length:=by rw[x.lh];show(gQs.mp a).1
 show#[_,_,gQe hl,x.hd h _ _ vs fs (gQe hl) a]
def cN.wroom{i:Nat}{r:Rm}(x:cN w n s)(a:w.aj[i]?=some r):∃rs,s.aj[i]?=some rs/\j_ n r rs:=by
 have hl:i<s.aj.length:=by rw[<-x.lr];show(gQs.mp a).1
 show#[_,gQe hl,x.rm i r _ a (gQe hl)]
def kK{t:Sc}(a:D0 w h f=some t):(f.room= -1/\∃ts pr,w.af[h]?=some (ts,pr)/\t=#[true,ts.map (·.1)++w.ak.map (·.1),ts.map (·.1)++w.ak.map (·.1),[],bG w.aj,w.ai.map (·.1)])∨
  (f.room≠-1/\∃r,w.aj[f.room.toNat]?=some r/\t=#[false,r.ao.map (·.1)++da,r.ao.map (·.1),r.aa.map (·.1),bG w.aj,[]]):=by
 unfold D0 at a
 split at a
 ·rename_i c
  let#[#[ts,pr],e,b]:=oQm.mp a
  show .inl #[c,ts,pr,e,b.symm]
 ·rename_i c
  let#[r,e,b]:=oQm.mp a
  show .inr #[c,r,e,b.symm]
def mf(x:Em w h f)(c:f.room≠-1):f.room=(f.room.toNat:Int):=by
 let#[g,a,_]:=x.pr
 rcases nX a with⟨b,_⟩|⟨i,_,_,_,e,_⟩
 ·show absurd b c
 ·omega
def mr{t:Tr}(o:cA w)(x:cN w n s)(z:s.af[h]?=some (vs,fs))(p:fs.getLast? =some f)(B:D0 w h f=some d)(ht:Iv d t):∃v,(0<=v/\v<=9)/\As w s h t v:=by
 let#[A,N,m,i]:=x.whand z
 let G:=o.hd _ (mQg m)
 let k:=i.fr f (QcQ p)
 let M:=o.l3
 let H:=G.l1
 let C:=x.ls
 rcases kK B with⟨c,F,I,e,rfl⟩|⟨c,r,hr,rfl⟩
 ·rw[m] at e
  cases e
  have b:kU (CW w s A vs):=kU.merge (hG x.sv) (hG i.vv)
  show#[z9 (numAt (CW w s A vs)) (λ_=>0) t,?_,λS Q q=>xp m z p c C i.lv (!0) (by dsimp only at H;omega) x.sv i.vv ht.1 (by have:=ht.2;omega) q]
  show lQ (ws:=A.map (·.1)++w.ak.map (·.1)) (bs:= []) (λy a=>?_) ht.1
  show(oB b (gA ?_)).2
  rcases mQa.mp a with a|a
  ·show .inr (g_ i.lv a)
  ·show .inl (g_ C a)
 ·let#[u,l,j]:=x.wroom hr
  let g:=o.rm r (mQg hr)
  let J:=g.l1
  let K:=g.l2
  have b:kU (vp r u f.given):=(hG j.vv).put k.gv.1 k.gv.2
  show#[z9 (numAt (vp r u f.given)) (zL r u) t,?_,λS Q q=>uG z p (mf k c) hr l j.lv j.lb (!0) (!0) j.vv k.gv ht.1 (by have:=ht.2;omega) q]
  show lQ (ws:=r.ao.map (·.1)++da) (bs:=r.aa.map (·.1)) (λy a=>?_) ht.1
  show(oB b (lS ?_)).2
  rcases mQa.mp a with a|a
  ·show .inr (g_ j.lv a)
  ·left
   rw[Qfq.mp a]
def nY{ns:X6}{y:Str}{v:Int}{a:List Int}(e:∀v∈a,0<=v/\v<=9)(c:0<=v/\v<=9):(eV ns a y v).length=a.length/\∀u∈eV ns a y v,0<=u/\u<=9:=by
 unfold eV
 show#[by simp,λz b=>?_]
 rcases QTq b with b|rfl
 ·show e z b
 ·show c
def cN.goes{m:Int}{pr:List Rw}(x:cN w n s)(l:s.af[h]?=some (vs,fs))(a:fs.getLast? =some f)(e:progOf w h f=some pr)(j:0<=m)(i:m<=pr.length):cN w n {s with af:=s.af.set h (vs,fs.dropLast++ [{f with row:=m}])}:=by
 let#[o,k,g,c]:=x.whand l
 let b:=c.fr f (QcQ a)
 show x.hand g (c.setLast a L #[#[pr,e,j,i],b.gv,b.tv])
def cN.tells{v:Int}(x:cN w n s)(j:s.af[h]?=some (vs,fs))(a:fs.getLast? =some f)(g:0<=v/\v<=9):cN w n {s with af:=s.af.set h (vs,fs.dropLast++ [{f with told:=v}])}:=by
 let#[k,i,e,b]:=x.whand j
 let c:=b.fr f (QcQ a)
 show x.hand e (b.setLast a L #[c.pr,c.gv,g])
def j_.come{r:Rm}{rs:cC}{k:Int}(x:j_ n r rs):j_ (n+1) r (gM rs k):=by
 unfold gM
 have:=x.br
 split
 ·show#[x.lv,x.lb,x.vv,by show rs.row.length<=_;omega,Nat.le_succ_of_le x.bl,λl hl=>Nat.le_succ_of_le (x.bb l hl)]
 ·show#[x.lv,x.lb,x.vv,by simp;omega,Nat.le_succ_of_le x.bl,λl hl=>Nat.le_succ_of_le (x.bb l hl)]
def j_.leave{r:Rm}{rs:cC}(x:j_ n r rs):j_ n r (cg rs):=by
 let#[g,b,c,j,k]:=rs
 let i:=x.br
 let e:=x.bl
 unfold cg
 dsimp only at i e|-
 cases j with
 |cons a l=>show#[x.lv,x.lb,x.vv,x.br,by simp at e;show l.length<=n;omega,x.bb]
 | nil=>
   cases c with
   |cons a l=>show#[x.lv,x.lb,x.vv,by simp at i;show l.length<=n;omega,x.bl,x.bb]
   |nil=>show#[x.lv,x.lb,x.vv,x.br,x.bl,x.bb]
def j_.line{r:Rm}{rs:cC}{b:Nat}{l:List (Int×Int)}(x:j_ n r rs)(hl:l.length<=n):j_ n r {rs with aa:=rs.aa.set b l}:=⟨x.lv,by simp;show x.lb,x.vv,x.br,x.bl,λk a=>by
 rcases QTq a with a|rfl
 ·show x.bb k a
 ·show hl⟩
def j_.call{r:Rm}{rs:cC}{b:Nat}{k:Int}{fr:Bool}(x:j_ n r rs):j_ (n+1) r (sF fr rs b k):=by
 unfold sF
 split
 ·rename_i p l e
  let hl:=x.bb _ (mQg e)
  let y:=(x.mono (Nat.le_succ n)).line (b:=b) (l:=l) (by simp at hl;omega)
  let z:=x.bl
  split
  ·show y
  ·show#[y.lv,y.lb,y.vv,y.br,by simp;omega,y.bb]
 ·show x.mono (Nat.le_succ n)
def E9{l:List (Int×Int)}{a b:Int}:(iA l a b).length=l.length+1:=by
 unfold iA
 have:=List.length_filter_le (λp:Int×Int=>decide (p.1<=a)) l
 erw[lQa,Qxq,List.length_drop,Qnq,QGq]
 omega
def Hf{rn b:Str}(o:cA w)(g:(rn,b)∈bG w.aj):rn∈w.aj.map (·.name)/\∃r,w.aj[fY (w.aj.map (·.name)) rn]?=some r/\b∈r.ae.map (·.1):=by
 unfold bG at g
 let#[r,c,k]:=QOq.mp g
 let#[p,l,e]:=Qkq.mp k
 cases e
 have a:r.name∈w.aj.map (·.name):=Qkq.mpr #[r,c,L]
 show#[a,r,?_,Qkq.mpr #[p,l,L]]
 let#[t,m]:=kf a
 let#[i,j,e]:=QbQ c
 have q:(w.aj.map (·.name))[i]?=some r.name:=by rw[gQm,gQe j,e];rfl
 rw[iu o.nd m q,gQe j,e]
end
section
variable{w:cx}{n h:Nat}{s:aU}{vs:List Int}{fs:List cj}{f:cj}{a:Sc}
def cN.mays(o:cA w)(x:cN w n s)(u:n<=800):Ku w s:=by
 let y:=o.l1
 let B:=o.l2
 let C:=o.l4
 let H:=x.lr
 let z:=x.lp
 let F:=x.lh
 show ya (λS Q q=>jE u (!0) (!0) x.ps (λl d=>?_) q) (λh t=>?_) (!0)
 ·let#[i,j,e]:=QbQ d
  have b:s.aj[i]?=some l:=by rw[gQe j,e]
  have g:w.aj[i]?=some (w.aj[i]'(!0)):=gQe (!0)
  let c:=x.rm i _ l g b
  have:=(o.rm _ (mQg g)).l2
  have:=c.lb
  show⟨c.br,c.bl,by omega,c.bb⟩
 ·obtain⟨⟨vs,fs⟩,b⟩:∃p,s.af[h]?=some p:=#[_,gQe t]
  let#[G,A,g,j]:=x.whand b
  let#[f,m,v]:=j.last
  let#[k,r,_]:=v.pr
  show#[vs,fs,f,k,b,m,r]
end
theorem jy{α b:Type}{f:α->List b}:∀{l:List α} {i:Nat} {a:α},l[i]?=some a->(l.flatMap f).Perm (f a++(l.eraseIdx i).flatMap f)
 | [],_,_,h=>by simp at h
 | x::l,0,a,h=>by
   simp at h
   subst h
   show List.Perm.refl _
 | x::l,i+1,a,h=>by
   let c:=jy (f:=f) (l:=l) (i:=i) (by simpa using h)
   rw[QSq,List.eraseIdx_cons_succ,QSq]
   show(List.Perm.append_left (f x) c).trans (by
     rw[<-Qvq,<-Qvq]
     show QJq _ List.perm_append_comm)
theorem vK{α:Type}{b:α}:∀{l:List α} {i:Nat},(l.set i b).eraseIdx i=l.eraseIdx i
 | [],_=>rfl
 |_::_,0=>rfl
 | x::l,i+1=>by
   erw[List.set_cons_succ,List.eraseIdx_cons_succ]
   rw[vK]
def jb{α c:Type}{f:α->List c}{l:List α}{i:Nat}{a b:α}(h:l[i]?=some a):((l.set i b).flatMap f).Perm (f b++(l.eraseIdx i).flatMap f):=by
 have:=jy (f:=f) (l:=l.set i b) (i:=i) (Qyq (gQs.mp h).1)
 rw[vK] at this
 show this
noncomputable def Ml(r:cC):List Int:=r.ag++r.aa.flatMap λl=>l.map (·.2)
def iW{r:cC}{y:Int}(h:y∈Ml r):y∈aO r:=by
 unfold aO
 rw[Qvq]
 show mQa.mpr (.inr h)
structure Q2(w:cx)(N:Nat)(ps:List (Int×List Int))(rs:List cC)(fr:Nat->List Int):Prop where
 fo:∀g,g<N->(fr g).head? =some (-1)
 nd:(ps.flatMap (·.2)++rs.flatMap aO).Nodup
 hv:∀x∈ps.flatMap (·.2)++rs.flatMap aO,∃g:Nat,x=g/\g<N
 pv:∀p∈ps,(0<=p.1/\p.1<=9)/\(p.1=0\/p.2= [])
 pl:∀p∈ps,∀g:Nat,(g:Int)∈p.2->fr g= [-1]
 rl:∀(i:Nat) (r:cC),rs[i]?=some r->∀g:Nat,(g:Int)∈aO r->(fr g).getLast? =some (i:Int)
 r1:∀(i:Nat) (r:cC),rs[i]?=some r->r.within= -1->r.row= []/\r.ag= []
 r2:∀(i:Nat) (r:cC),rs[i]?=some r->r.within= -1\/∃g:Nat,r.within=g/\g<N/\(i:Int)∈fr g
 r3:∀(i:Nat) (r:cC) (rm:Rm),rs[i]?=some r->w.aj[i]?=some rm->rm.ah="when free" ->r.ag= []
 r4:∀(i:Nat) (r:cC) (rm:Rm),rs[i]?=some r->w.aj[i]?=some rm->∀(b:Nat) (l:List (Int×Int)) (nm so:Str),r.aa[b]?=some l->rm.aa[b]?=some (nm,so)->(l.map (·.1)).Pairwise (·<=·)/\(so="row" ->∀p∈l,p.1=0)
 r5:∀(i:Nat) (r:cC),rs[i]?=some r->∀y∈Ml r,r.within≠y
noncomputable def hl(ps:List (Int×List Int))(rs:List cC):List Int:=ps.flatMap (·.2)++rs.flatMap aO
section
variable{w:cx}{N:Nat}{ps:List (Int×List Int)}{rs:List cC}{fr a:Nat->List Int}{h:Nat}
def rH{i:Nat}{r nr:cC}(c:rs[i]?=some r):∃b,(hl ps rs).Perm (aO r++b)/\(hl ps (rs.set i nr)).Perm (aO nr++b):=by
 show#[ps.flatMap (·.2)++(rs.eraseIdx i).flatMap aO,?_,?_]
 ·show(List.Perm.append_left _ (jy c)).trans (by rw[<-Qvq,<-Qvq];show QJq _ List.perm_append_comm)
 ·show(List.Perm.append_left _ (jb c)).trans (by rw[<-Qvq,<-Qvq];show QJq _ List.perm_append_comm)
def vT{i:Nat}{p np:Int×List Int}(c:ps[i]?=some p):∃b,(hl ps rs).Perm (p.2++b)/\(hl (ps.set i np) rs).Perm (np.2++b):=by
 show#[(ps.eraseIdx i).flatMap (·.2)++rs.flatMap aO,?_,?_]
 ·rw[<-Qvq];show QJq _ (jy (f:=λp:Int×List Int=>p.2) c)
 ·rw[<-Qvq];show QJq _ (jb (f:=λp:Int×List Int=>p.2) c)
structure R2(w:cx)(N i:Nat)(fr:Nat->List Int)(r:cC):Prop where
 rl:∀g:Nat,(g:Int)∈aO r->(fr g).getLast? =some (i:Int)
 r1:r.within= -1->r.row= []/\r.ag= []
 r2:r.within= -1\/∃g:Nat,r.within=g/\g<N/\(i:Int)∈fr g
 r3:∀rm:Rm,w.aj[i]?=some rm->rm.ah="when free" ->r.ag= []
 r4:∀rm:Rm,w.aj[i]?=some rm->∀(b:Nat) (l:List (Int×Int)) (nm so:Str),r.aa[b]?=some l->rm.aa[b]?=some (nm,so)->(l.map (·.1)).Pairwise (·<=·)/\(so="row" ->∀p∈l,p.1=0)
 r5:∀y∈Ml r,r.within≠y
def Q2.at(x:Q2 w N ps rs fr){i:Nat}{r:cC}(b:rs[i]?=some r):R2 w N i fr r:=#[x.rl i r b,x.r1 i r b,x.r2 i r b,λc=>x.r3 i r c b,λc=>x.r4 i r c b,x.r5 i r b]
def Q2.room(x:Q2 w N ps rs fr){i:Nat}{r nr:cC}(p:rs[i]?=some r)(f:R2 w N i fr nr)(m:∀b:List Int,(aO r++b).Nodup->(h:Int)∉aO r++b->(aO nr++b).Nodup)(k:∀y∈aO nr,y∈aO r\/y=(h:Int))(q:h<N)(o:(h:Int)∉hl ps rs):Q2 w N ps (rs.set i nr) fr:=by
 let#[b,l,n]:=rH (ps:=ps) (nr:=nr) p
 show#[x.fo,n.nodup_iff.mpr (m b (l.nodup_iff.mp x.nd) λz=>o (l.mem_iff.mpr z)),λy e=>?_,x.pv,x.pl,λj d c=>?_,λj d c=>?_,λj d c=>?_,λj d g c=>?_,λj d g c=>?_,λj d c=>?_]
 ·rcases mQa.mp (n.mem_iff.mp e) with e|e
  ·rcases k y e with e|rfl
   ·show x.hv y (l.mem_iff.mpr (mQa.mpr (.inl e)))
   ·show#[h,L,q]
  ·show x.hv y (l.mem_iff.mpr (mQa.mpr (.inr e)))
 all_goals rcases get_set c with⟨rfl,rfl⟩|⟨_,c⟩
 ·show f.rl
 ·show x.rl j d c
 ·show f.r1
 ·show x.r1 j d c
 ·show f.r2
 ·show x.r2 j d c
 ·show f.r3 g
 ·show x.r3 j d g c
 ·show f.r4 g
 ·show x.r4 j d g c
 ·show f.r5
 ·show x.r5 j d c
end
section
variable{w:cx}{N:Nat}{ps:List (Int×List Int)}{rs:List cC}{fr d:Nat->List Int}{h:Nat}
def Q2.room0(x:Q2 w N ps rs fr){i:Nat}{r nr:cC}(o:rs[i]?=some r)(e:R2 w N i fr nr)(m:∀a:List Int,(aO r++a).Nodup->(aO nr++a).Nodup)(f:∀y∈aO nr,y∈aO r):Q2 w N ps (rs.set i nr) fr:=by
 let#[a,l,n]:=rH (ps:=ps) (nr:=nr) o
 show#[x.fo,n.nodup_iff.mpr (m a (l.nodup_iff.mp x.nd)),λy g=>?_,x.pv,x.pl,λj c b=>?_,λj c b=>?_,λj c b=>?_,λj c k b=>?_,λj c k b=>?_,λj c b=>?_]
 ·rcases mQa.mp (n.mem_iff.mp g) with g|g
  ·show x.hv y (l.mem_iff.mpr (mQa.mpr (.inl (f y g))))
  ·show x.hv y (l.mem_iff.mpr (mQa.mpr (.inr g)))
 all_goals rcases get_set b with⟨rfl,rfl⟩|⟨_,b⟩
 ·show e.rl
 ·show x.rl j c b
 ·show e.r1
 ·show x.r1 j c b
 ·show e.r2
 ·show x.r2 j c b
 ·show e.r3 k
 ·show x.r3 j c k b
 ·show e.r4 k
 ·show x.r4 j c k b
 ·show e.r5
 ·show x.r5 j c b
def t_{a b c:List Int}{k:Int}(p:b.Perm (k::a))(n:(a++c).Nodup)(e:k∉a++c):(b++c).Nodup:=by
 show(QJq c p).nodup_iff.mpr ?_
 rw[List.cons_append]
 show List.nodup_cons.mpr #[e,n]
def sY{a b c:List Int}{k:Int}(p:a.Perm (k::b))(n:(a++c).Nodup):(b++c).Nodup:=by
 have:=(QJq c p).nodup_iff.mp n
 rw[List.cons_append] at this
 show(List.nodup_cons.mp this).2
def g9(x:Q2 w N ps rs fr){i:Nat}{r:cC}(b:rs[i]?=some r){y:Int}(a:y∈aO r):y∈hl ps rs:=mQa.mpr (.inr (QOq.mpr #[r,mQg b,a]))
def leave_held(r:cC):(∃a,(aO r).Perm (a::aO (cg r))/\(cg r).within=a)\/(aO (cg r)=aO r/\(cg r).within= -1/\r.row= []/\r.ag= []):=by
 let#[e,c,b,f,g]:=r
 cases f with
 | cons a l=>
   show .inl #[a,?_,L]
   show(b++(a::l)++_).Perm (a::(b++l++_))
   rw[Qvq,Qvq]
   show List.perm_middle
 | nil=>
   cases b with
   |cons a l=>show .inl #[a,List.Perm.refl _,L]
   |nil=>show .inr #[L,L,L,L]
def nU{r:cC}(h:r.ag= []):(cg r).ag= []:=by
 let#[c,a,b,e,f]:=r
 cases h
 cases b <;>rfl
def lK(r:cC):(cg r).aa=r.aa:=by
 let#[e,b,c,f,g]:=r
 cases f with
 |cons a l=>rfl
 |nil=>cases c <;>rfl
def rF(x:Q2 w N ps rs fr){i:Nat}{r:cC}(c:rs[i]?=some r):(aO r).Nodup:=by
 let#[a,b,_]:=rH (ps:=ps) (nr:=r) c
 show(List.nodup_append.mp (b.nodup_iff.mp x.nd)).1
def xc{a:Int}{l m:List Int}(b:l.Perm (a::m))(n:l.Nodup){y:Int}(c:y∈m):a≠y:=λz=>by
 subst z
 show(List.nodup_cons.mp (b.nodup_iff.mp n)).1 c
def BI{r:cC}{b:Nat}{l nl:List (Int×Int)}{y:Int}(g:r.aa[b]?=some l)(i:∀z∈nl.map (·.2),z∈l.map (·.2))(a:y∈Ml {r with aa:=r.aa.set b nl}):y∈Ml r:=by
 rcases mQa.mp a with a|a
 ·show mQa.mpr (.inl a)
 ·let#[m,f,c]:=QOq.mp a
  let#[j,e]:=List.getElem?_of_mem f
  rcases get_set e with⟨rfl,rfl⟩|⟨_,e⟩
  ·show mQa.mpr (.inr (QOq.mpr #[l,mQg g,i y c]))
  ·show mQa.mpr (.inr (QOq.mpr #[m,mQg e,c]))
def Q2.leave(x:Q2 w N ps rs fr){i:Nat}{r:cC}(p:rs[i]?=some r):Q2 w N ps (rs.set i (cg r)) fr:=by
 let m:=x.at p
 rcases leave_held r with⟨a,t,o⟩|⟨u,o,c,q⟩
 ·have I:a∈aO r:=t.mem_iff.mpr (QBq ..)
  have e:∀y∈aO (cg r),y∈aO r:=λy j=>t.mem_iff.mpr (Qpq _ j)
  let#[g,rfl,H]:=x.hv a (g9 x p I)
  show x.room0 p #[λC f=>m.rl C (e _ f),λz=>by rw[o] at z;omega,.inr #[g,o,H,QcQ (m.rl g I)],λk c q=>nU (m.r3 k c q),λk c b l nm A B F=>m.r4 k c b l nm A (by rw[<-lK];show B) F,λy j=>by rw[o];show xc t (rF x p) (iW j)] (λs n=>sY t n) e
 ·show x.room0 p #[λC f=>m.rl C (by rw[<-u];show f),λ_=>?_,.inl o,λk c q=>nU (m.r3 k c q),λk c b l nm A B F=>m.r4 k c b l nm A (by rw[<-lK];show B) F,λy j=>by let#[g,H,_]:=x.hv y (g9 x p (by rw[<-u];show iW j));rw[o];omega] (λs n=>by rw[u];show n) (λy j=>by rw[<-u];show j)
  let#[G,v,J,M,K]:=r
  cases c
  cases q
  show#[L,L]
def Q2.come(x:Q2 w N ps rs fr){i:Nat}{r:cC}(k:rs[i]?=some r)(p:h<N)(o:(h:Int)∉hl ps rs)(m:(fr h).getLast? =some (i:Int)):Q2 w N ps (rs.set i (gM r h)) fr:=by
 let a:=x.at k
 unfold gM
 by_cases c:r.within= -1
 ·rw[Qhq c]
  show x.room0 k #[a.rl,λz=>by have z:(h:Int)= -1:=z;omega,.inr #[h,L,p,QcQ m],a.r3,a.r4,λy e z=>o (g9 x k (by have z:(h:Int)=y:=z;rw[z];show iW e))] (λf n=>n) (λy e=>e)
 ·rw[Quq c]
  have l:(aO {r with row:=r.row++ [(h:Int)]}).Perm ((h:Int)::aO r):=by
   show((r.row++ [(h:Int)])++r.ag++_).Perm ((h:Int)::(r.row++r.ag++_))
   rw[Qvq,Qvq,Qvq]
   show List.perm_middle
  have b:∀y∈aO {r with row:=r.row++ [(h:Int)]},y∈aO r\/y=(h:Int):=λy e=>by
   rcases Qsq.mp (l.mem_iff.mp e) with rfl|e
   ·show .inr L
   ·show .inl e
  show x.room k #[λg j=>?_,λz=>absurd z c,a.r2,a.r3,a.r4,a.r5] (λf n q=>t_ l n q) b p o
  rcases b _ j with j|j
  ·show a.rl g j
  ·have:g=h:=by omega
   subst this
   show m
def tP{α:Type}{A B C:List α}:(A++(B++C)).Perm (B++(A++C)):=by
 rw[<-Qvq,<-Qvq]
 show QJq _ List.perm_append_comm
def nN{r:cC}{b:Nat}{l nl:List (Int×Int)}(c:r.aa[b]?=some l):∃a,(aO r).Perm (l.map (·.2)++a)/\(aO {r with aa:=r.aa.set b nl}).Perm (nl.map (·.2)++a):=by
 show#[(r.row++r.ag)++(r.aa.eraseIdx b).flatMap λl=>l.map (·.2),?_,?_]
 ·show(List.Perm.append_left (r.row++r.ag) (jy (f:=λl:List (Int×Int)=>l.map (·.2)) c)).trans tP
 ·show(List.Perm.append_left (r.row++r.ag) (jb (f:=λl:List (Int×Int)=>l.map (·.2)) (b:=nl) c)).trans tP
def DR{l:List (Int×Int)}{t k:Int}:((iA l t k).map (·.2)).Perm (k::l.map (·.2)):=by
 unfold iA
 generalize (l.filter λp=>decide (p.1<=t)).length=n
 have e:l.map (·.2)=(l.take n).map (·.2)++(l.drop n).map (·.2):=by rw[<-Qzq,List.take_append_drop]
 rw[e,Qvq,Qzq]
 show List.perm_middle
theorem rZ{t:Int}:∀{l:List (Int×Int)},(l.map (·.1)).Pairwise (·<=·)->(∀p∈l.take (l.filter λp=>decide (p.1<=t)).length,p.1<=t)/\∀p∈l.drop (l.filter λp=>decide (p.1<=t)).length,t<p.1
 | [],_=>#[λp b=>by simp at b,λp b=>by simp at b]
 | a::l,hs=>by
   rw[QDq,List.pairwise_cons] at hs
   by_cases c:a.1<=t
   · rw[List.filter_cons_of_pos (by simpa using c),Qnq,List.take_succ_cons,List.drop_succ_cons]
     let#[i,g]:=rZ (t:=t) hs.2
     show#[λp b=>?_,g]
     rcases Qsq.mp b with rfl|b
     · show c
     · show i p b
   · have f:∀p∈a::l,t<p.1:=λp b=>by
       rcases Qsq.mp b with rfl|b
       · omega
       · have:=hs.1 p.1 (Qkq.mpr #[p,b,L])
         omega
     have e:((a::l).filter λp=>decide (p.1<=t))= []:=List.filter_eq_nil_iff.mpr λp b=>by
       have:=f p b
       simpa using this
     rw[e]
     show#[λp b=>by simp at b,λp b=>f p (by simpa using b)]
def zc{l:List (Int×Int)}{t k:Int}(g:(l.map (·.1)).Pairwise (·<=·)):((iA l t k).map (·.1)).Pairwise (·<=·):=by
 let#[i,f]:=rZ (t:=t) g
 unfold iA
 generalize (l.filter λp=>decide (p.1<=t)).length=n at i f|-
 rw[Qvq,Qzq,Qzq,List.pairwise_append]
 have s:((l.take n).map (·.1)).Pairwise (·<=·):=by rw[List.map_take];show g.sublist (List.take_sublist ..)
 have j:((l.drop n).map (·.1)).Pairwise (·<=·):=by rw[List.map_drop];show g.sublist (List.drop_sublist ..)
 show#[s,?_,λa r b c=>?_]
 ·show(t::(l.drop n).map (·.1)).Pairwise (·<=·)
  rw[List.pairwise_cons]
  show#[λb c=>?_,j]
  let#[p,e,rfl]:=Qkq.mp c
  have:=f p e
  omega
 ·let#[p,e,rfl]:=Qkq.mp r
  let m:=i p e
  rcases Qsq.mp (show b∈t::(l.drop n).map (·.1) from c) with rfl|c
  ·show m
  ·let#[q,o,rfl]:=Qkq.mp c
   have:=f q o
   omega
def GB{l:List (Int×Int)}{t k:Int}{p:Int×Int}(h:p∈iA l t k):p∈l\/p=(t,k):=by
 unfold iA at h
 rcases mQa.mp h with h|h
 ·rcases mQa.mp h with h|h
  ·show .inl (List.mem_of_mem_take h)
  ·show .inr (Qfq.mp h)
 ·show .inl (List.mem_of_mem_drop h)
def Q2.wait(x:Q2 w N ps rs fr){i b:Nat}{r:cC}{rm:Rm}{l:List (Int×Int)}{t:Int}{nm W:Str}(H:rs[i]?=some r)(hm:w.aj[i]?=some rm)(hb:r.aa[b]?=some l)(hs:rm.aa[b]?=some (nm,W))(ht:W="row" ->t=0)(hN:h<N)(hh:(h:Int)∉hl ps rs)(hf:(fr h).getLast? =some (i:Int)):
  Q2 w N ps (rs.set i (cg {r with aa:=r.aa.set b (iA l t h)})) fr:=by
 let Q:=x.at H
 let#[k,p1,p2]:=nN (nl:=iA l t h) hb
 have s:(aO {r with aa:=r.aa.set b (iA l t h)}).Perm ((h:Int)::aO r):=by
  show p2.trans ((QJq k DR).trans ?_)
  rw[List.cons_append]
  show List.Perm.cons _ p1.symm
 have f:∀y∈aO {r with aa:=r.aa.set b (iA l t h)},y∈aO r\/y=(h:Int):=λy e=>by
  rcases Qsq.mp (s.mem_iff.mp e) with rfl|e
  ·show .inr L
  ·show .inl e
 have C:∀g:Nat,(g:Int)∈aO {r with aa:=r.aa.set b (iA l t h)}->(fr g).getLast? =some (i:Int):=λg A=>by
  rcases f _ A with A|A
  ·show Q.rl g A
  ·have:g=h:=by omega
   subst this
   show hf
 have K:∀c:Rm,w.aj[i]?=some c->∀(I:Nat) (P:List (Int×Int)) (F q:Str),(cg {r with aa:=r.aa.set b (iA l t h)}).aa[I]?=some P->c.aa[I]?=some (F,q)->(P.map (·.1)).Pairwise (·<=·)/\(q="row" ->∀p∈P,p.1=0):=λc u I P F q o v=>by
  rw[lK] at o
  rcases get_set o with⟨rfl,rfl⟩|⟨_,o⟩
  ·rw[hm] at u
   cases u
   rw[hs] at v
   cases v
   let#[e1,e2]:=Q.r4 rm hm I l nm W hb hs
   show#[zc e1,λz p s=>?_]
   rcases GB s with s|rfl
   ·show e2 z p s
   ·show ht z
  ·show Q.r4 c u I P F q o v
 have J:∀y∈aO {r with aa:=r.aa.set b (iA l t h)},∃g:Nat,y=g/\g<N:=λy e=>by
  rcases f y e with e|rfl
  ·show x.hv y (g9 x H e)
  ·show#[h,L,hN]
 have n':(aO {r with aa:=r.aa.set b (iA l t h)}).Nodup:=s.nodup_iff.mpr (List.nodup_cons.mpr #[λz=>hh (g9 x H z),rF x H])
 have M:∀c:Rm,w.aj[i]?=some c->c.ah="when free" ->(cg {r with aa:=r.aa.set b (iA l t h)}).ag= []:=λc Y U=>nU (Q.r3 c Y U)
 rcases leave_held {r with aa:=r.aa.set b (iA l t h)} with⟨a,m,G⟩|⟨R,G,Y,U⟩
 ·have ha:a∈aO {r with aa:=r.aa.set b (iA l t h)}:=m.mem_iff.mpr (QBq ..)
  have j:∀y∈aO (cg {r with aa:=r.aa.set b (iA l t h)}),y∈aO {r with aa:=r.aa.set b (iA l t h)}:=λy e=>m.mem_iff.mpr (Qpq _ e)
  let#[g,rfl,A]:=J a ha
  show x.room H #[λZ B=>C Z (j _ B),λz=>by rw[G] at z;omega,.inr #[g,G,A,QcQ (C g ha)],M,K,λy e=>by rw[G];show xc m n' (iW e)] (λk n X=>sY m (t_ s n X)) (λy e=>f y (j y e)) hN hh
 ·show x.room H #[λZ B=>C Z (by rw[<-R];show B),λ_=>?_,.inl G,M,K,λy e=>by let#[g,A,_]:=J y (by rw[<-R];show iW e);rw[G];omega] (λk n X=>by rw[R];show t_ s n X) (λy e=>f y (by rw[<-R];show e)) hN hh
  let#[a0,S,a1,ag,aa]:=r
  cases Y
  cases U
  show#[L,L]
def Q2.all(x:Q2 w N ps rs fr){i b:Nat}{r:cC}{l:List (Int×Int)}(A:rs[i]?=some r)(u:r.aa[b]?=some l):Q2 w N ps (rs.set i {r with aa:=r.aa.set b []}) fr:=by
 let f:=x.at A
 let#[C,v,t]:=nN (nl:= []) u
 have c:∀y∈aO {r with aa:=r.aa.set b []},y∈aO r:=λy o=>v.mem_iff.mpr (mQa.mpr (.inr (by simpa using t.mem_iff.mp o)))
 show x.room0 A #[λg G=>f.rl g (c _ G),f.r1,f.r2,f.r3,λm j F I q s e k=>?_,λy o=>f.r5 y (BI u (λ_ z=>by simp at z) o)] (λa n=>?_) c
 ·rcases get_set e with⟨rfl,rfl⟩|⟨_,e⟩
  ·show#[.nil,λ_ p H=>by cases H]
  ·show f.r4 m j F I q s e k
 ·let B:=(QJq a v).nodup_iff.mp n
  show(QJq a t).nodup_iff.mpr ?_
  rw[Qvq] at B
  show(List.nodup_append.mp B).2.1
def Q2.call(x:Q2 w N ps rs fr){i b:Nat}{r:cC}{S:Rm}{l:List (Int×Int)}(u:rs[i]?=some r)(hm:w.aj[i]?=some S)(Q:r.aa[b]?=some l)(hN:h<N)(U:(h:Int)∉hl ps rs)(hf:(fr h).getLast? =some (i:Int)):
  Q2 w N ps (rs.set i (sF (decide (S.ah="when free")) r b h)) fr:=by
 let v:=x.at u
 unfold sF
 rw[Q]
 cases l with
 | nil=>
   have e:rs.set i r=rs:=by
     apply List.ext_getElem?
     intro j
     rw[List.getElem?_set]
     split
     · rename_i c
       subst c
       rw[u]
       have:=(gQs.mp u).1
       simp[this]
     · rfl
   rw[e]
   show x
 | cons p l=>
   let#[B,p1,Y]:=nN (nl:=l) Q
   have G:(aO r).Perm (p.2::aO {r with aa:=r.aa.set b l}):=by
     show p1.trans ?_
     rw[QDq,List.cons_append]
     show List.Perm.cons _ Y.symm
   have K:p.2∈aO r:=G.mem_iff.mpr (QBq ..)
   have f:∀y∈aO {r with aa:=r.aa.set b l},y∈aO r:=λy a=>G.mem_iff.mpr (Qpq _ a)
   have W:∀m:Rm,w.aj[i]?=some m->∀(J:Nat) (P:List (Int×Int)) (A t:Str),(r.aa.set b l)[J]?=some P->m.aa[J]?=some (A,t)->(P.map (·.1)).Pairwise (·<=·)/\(t="row" ->∀p∈P,p.1=0):=λm o J P A t C I=>by
     rcases get_set C with⟨rfl,rfl⟩|⟨_,C⟩
     · let#[X,e2]:=v.r4 m o J _ A t Q I
       rw[QDq,List.pairwise_cons] at X
       show#[X.2,λz q Z=>e2 z q (Qpq _ Z)]
     · show v.r4 m o J P A t C I
   dsimp only[bM,bg,bN,cP,c7,hJ]
   by_cases c:S.ah="when free"
   · rw[Qeq c,Qhq L]
     show x.room0 u #[λg K=>v.rl g (f _ K),v.r1,v.r2,v.r3,W,λy a=>v.r5 y (BI Q (λ_ z=>Qpq _ z) a)] (λB n=>sY G n) f
   · rw[Qdq c,Quq (!1)]
     have M:(aO {r with aa:=r.aa.set b l,within:=p.2,ag:=r.ag++ [(h:Int)]}).Perm ((h:Int)::aO {r with aa:=r.aa.set b l}):=by
       show(r.row++(r.ag++ [(h:Int)])++_).Perm ((h:Int)::(r.row++r.ag++_))
       rw[<-Qvq,Qvq]
       show List.perm_middle
     have s:∀y∈aO {r with aa:=r.aa.set b l,within:=p.2,ag:=r.ag++ [(h:Int)]},y∈aO r\/y=(h:Int):=λy a=>by
       rcases Qsq.mp (M.mem_iff.mp a) with rfl|a
       · show .inr L
       · show .inl (f y a)
     let#[g,H,R]:=x.hv p.2 (g9 x u K)
     show x.room u #[λk F=>?_,λz=>?_,.inr #[g,H,R,QcQ (v.rl g (by rw[<-H];show K))],λm o z=>?_,W,λy a=>?_] (λB n F=>?_) s hN U
     · rcases s _ F with F|F
       · show v.rl k F
       · have:k=h:=by omega
         subst this
         show hf
     · have z:p.2= -1:=z
       omega
     · rw[hm] at o
       cases o
       show absurd z c
     · show p.2≠y
       rcases mQa.mp a with a|a
       · rcases mQa.mp a with a|a
         · show xc G (rF x u) (iW (mQa.mpr (.inl a)))
         · rw[Qfq.mp a]
           show λz=>U (g9 x u (z▸K))
       · show xc G (rF x u) (iW (mQa.mpr (.inr a)))
     · show t_ M (sY G n) λz=>F ?_
       rcases mQa.mp z with z|z
       · show mQa.mpr (.inl (f _ z))
       · show mQa.mpr (.inr z)
end
section
variable{w:cx}{N:Nat}{ps:List (Int×List Int)}{rs:List cC}{fr b:Nat->List Int}{h:Nat}
def Q2.take(x:Q2 w N ps rs fr){j:Nat}{p:Int×List Int}(s:ps[j]?=some p)(C:h<N)(B:(h:Int)∉hl ps rs)(A:fr h= [-1]):Q2 w N (ps.set j (gN p h)) rs fr:=by
 let#[#[F,v],o]:=x.pv p (mQg s)
 let#[u,r,t]:=vT (rs:=rs) (np:=gN p h) s
 have m:(gN p h).2=p.2\/(gN p h).2=p.2++ [(h:Int)]:=by
  unfold gN
  split
  ·show .inl L
  ·show .inr L
 have f:∀y∈(gN p h).2,y∈p.2\/y=(h:Int):=λy d=>by
  rcases m with e|e
  ·rw[e] at d;show .inl d
  ·rw[e] at d
   rcases mQa.mp d with d|d
   ·show .inl d
   ·show .inr (Qfq.mp d)
 show#[x.fo,t.nodup_iff.mpr ?_,λy d=>?_,λq i=>?_,λq i g l=>?_,x.rl,x.r1,x.r2,x.r3,x.r4,x.r5]
 ·let n:=r.nodup_iff.mp x.nd
  rcases m with e|e
  ·rw[e];show n
  ·rw[e]
   show t_ (a:=p.2) (k:=(h:Int)) (by rw[<-List.append_nil p.2];simpa using List.perm_middle (l₁:=p.2) (a:=(h:Int)) (l₂:= [])) n λz=>B (r.mem_iff.mpr z)
 ·rcases mQa.mp (t.mem_iff.mp d) with d|d
  ·rcases f y d with d|rfl
   ·show x.hv y (r.mem_iff.mpr (mQa.mpr (.inl d)))
   ·show#[h,L,C]
  ·show x.hv y (r.mem_iff.mpr (mQa.mpr (.inr d)))
 ·rcases QTq i with i|rfl
  ·show x.pv q i
  ·unfold gN
   split
   ·rename_i c
    show#[#[by show 0<=p.1-1;omega,by show p.1-1<=9;omega],.inr ?_]
    rcases o with o|o
    ·omega
    ·show o
   ·rename_i c
    show#[#[F,v],.inl (by show p.1=0;omega)]
 ·rcases QTq i with i|rfl
  ·show x.pl q i g l
  ·rcases f _ l with l|l
   ·show x.pl p (mQg s) g l
   ·have:g=h:=by omega
    subst this
    show A
def Q2.give(x:Q2 w N ps rs fr){j:Nat}{p:Int×List Int}(m:ps[j]?=some p):Q2 w N (ps.set j (fL p)) rs fr:=by
 let#[#[r,z],f]:=x.pv p (mQg m)
 let#[u,o,s]:=vT (rs:=rs) (np:=fL p) m
 let i:=x.pl p (mQg m)
 let#[v,l]:=p
 have d:∀y∈(fL (v,l)).2,y∈l:=λy c=>by
  unfold fL at c
  cases l with
  |nil=>cases c
  |cons a l=>show Qpq _ c
 show#[x.fo,s.nodup_iff.mpr ?_,λy c=>?_,λq e=>?_,λq e g t=>?_,x.rl,x.r1,x.r2,x.r3,x.r4,x.r5]
 ·let n:=o.nodup_iff.mp x.nd
  unfold fL
  cases l with
  |nil=>show n
  |cons a l=>show sY (k:=a) (List.Perm.refl _) n
 ·rcases mQa.mp (s.mem_iff.mp c) with c|c
  ·show x.hv y (o.mem_iff.mpr (mQa.mpr (.inl (d y c))))
  ·show x.hv y (o.mem_iff.mpr (mQa.mpr (.inr c)))
 ·rcases QTq e with e|rfl
  ·show x.pv q e
  ·unfold fL
   cases l with
   | nil=>
     show#[?_,.inr L]
     show 0<=(if 9<v+1 then 9 else v+1)/\(if 9<v+1 then 9 else v+1)<=9
     have r:0<=v:=r
     split <;>omega
   | cons a l=>
     show#[#[r,z],.inl ?_]
     rcases f with f|f
     · show f
     · cases f
 ·rcases QTq e with e|rfl
  ·show x.pl q e g t
  ·show i g (d _ t)
def Q2.frames(x:Q2 w N ps rs fr)(d:∀g,g≠h->b g=fr g)(m:(h:Int)∉hl ps rs)(l:∀(i:Nat) (r:cC),rs[i]?=some r->r.within=(h:Int)->(i:Int)∈b h)(n:(b h).head? =some (-1)):Q2 w N ps rs b:=by
 have k:∀g:Nat,(g:Int)∈hl ps rs->b g=fr g:=λg a=>d g λz=>m (by rw[<-z];show a)
 show#[λg a=>?_,x.nd,x.hv,x.pv,λp j g a=>?_,λi r f g a=>?_,x.r1,λi r f=>?_,x.r3,x.r4,x.r5]
 ·by_cases c:g=h
  ·subst c
   show n
  ·rw[d g c]
   show x.fo g a
 ·rw[k g (mQa.mpr (.inl (QOq.mpr #[p,j,a])))]
  show x.pl p j g a
 ·rw[k g (g9 x f a)]
  show x.rl i r f g a
 ·rcases x.r2 i r f with z|⟨g,e,a,o⟩
  ·show .inl z
  ·show .inr #[g,e,a,?_]
   by_cases c:g=h
   ·subst c
    show l i r f e
   ·rw[d g c]
    show o
end
noncomputable def rc(f:cj):Int:=if f.room= -1 then(if f.deed= -1/\f.given=0/\f.told=0 then -1 else -2) else f.room
def l_{f:cj}(h:f.room≠-1):rc f=f.room:=Quq h
noncomputable def xK(s:aU)(g:Nat):List Int:=((s.af[g]?).map λp=>p.2.map rc).getD []
def k0(w:cx)(s:aU):Prop:=Q2 w s.af.length s.ai s.aj (xK s)
section
variable{w:cx}{n h:Nat}{s:aU}{vs:List Int}{fs:List cj}{f:cj}
def kN(a:s.af[h]?=some (vs,fs)):xK s h=fs.map rc:=by
 unfold xK
 rw[a]
 rfl
def xF{p:List Int×List cj}{g:Nat}(a:g≠h):xK {s with af:=s.af.set h p} g=xK s g:=by
 unfold xK
 rw[QKq (Ne.symm a)]
def wq{p:List Int×List cj}(hl:h<s.af.length):xK {s with af:=s.af.set h p} h=p.2.map rc:=by
 unfold xK
 rw[Qyq hl]
 rfl
def k0.quiet(x:k0 w s){b:List Int}{a:List cj}(d:s.af[h]?=some (vs,fs))(e:a.map rc=fs.map rc):k0 w {s with af:=s.af.set h (b,a)}:=by
 let hl:=(gQs.mp d).1
 have i:xK {s with af:=s.af.set h (b,a)}=xK s:=by
  funext g
  by_cases c:g=h
  ·subst c
   rw[wq hl,kN d]
   show e
  ·show xF c
 unfold k0
 rw[i]
 show Q2 w (s.af.set h (b,a)).length s.ai s.aj (xK s)
 rw[List.length_set]
 show x
def k0.share(x:k0 w s){a:List Int}:k0 w {s with ak:=a}:=x
def k0.vals(x:k0 w s){i:Nat}{r:cC}{d:List Int}(b:s.aj[i]?=some r):k0 w {s with aj:=s.aj.set i {r with vals:=d}}:=by
 let a:=Q2.at x b
 show Q2.room0 x b #[a.rl,a.r1,a.r2,a.r3,a.r4,a.r5] (λc n=>n) (λy e=>e)
def k0.begun(o:cA w):k0 w (bU w):=by
 have j:∀(i:Nat) (r:cC),(bU w).aj[i]?=some r->∃c,w.aj[i]?=some c/\r=dh c:=λi r j=>by
  erw[bU,gQm] at j
  let#[c,G,B]:=oQm.mp j
  show#[c,G,B.symm]
 have u:∀c:Rm,∀l∈(dh c).aa,l= []:=λc l hl=>by
  erw[dh,Qkq] at hl
  let#[_,_,e]:=hl
  show e.symm
 have t:∀c:Rm,aO (dh c)= []:=λc=>by
  unfold aO
  have:(dh c).aa.flatMap (λl=>l.map (·.2))= []:=List.flatMap_eq_nil_iff.mpr λl hl=>by rw[u c l hl];rfl
  rw[this]
  rfl
 have A:hl (bU w).ai (bU w).aj= []:=by
  unfold hl
  rw[List.append_eq_nil_iff,List.flatMap_eq_nil_iff,List.flatMap_eq_nil_iff]
  show#[λp d=>?_,λr a=>?_]
  ·erw[bU,Qkq] at d
   let#[q,_,rfl]:=d
   rfl
  ·erw[bU,Qkq] at a
   let#[q,_,rfl]:=a
   show t q
 have z:(bU w).ai.flatMap (·.2)++(bU w).aj.flatMap aO= []:=A
 show#[λg k=>?_,by rw[z];show .nil,(λx v=>by rw[z] at v;cases v),?_,λp d g k=>?_,λi r a g k=>?_,λi r a _=>?_,λi r a=>?_,λi r c a _ _=>?_,λi r c a _ b l nm I C _=>?_,λi r a y H=>by let#[c,_,rfl]:=j i r a;have:=iW H;rw[t] at this;cases this]
 ·have m:g<w.af.length:=by simpa [bU] using k
  unfold xK
  erw[bU,gQm,gQe m,Option.map_some,Option.getD_some]
  rfl
 ·intro p d
  erw[bU,Qkq] at d
  let#[q,F,rfl]:=d
  have:=o.pv q F
  show#[#[by show(0:Int)<=(q.2:Int);omega,by show(q.2:Int)<=9;omega],.inr L]
 ·erw[bU,Qkq] at d
  let#[q,_,rfl]:=d
  cases k
 ·let#[c,_,rfl]:=j i r a
  rw[t] at k
  cases k
 ·let#[c,_,rfl]:=j i r a
  show#[L,L]
 ·let#[c,_,rfl]:=j i r a
  show .inl L
 ·let#[c,_,rfl]:=j i r a
  rfl
 ·let#[c,_,rfl]:=j i r a
  rw[u c l (mQg C)]
  show⟨.nil,λ_ p d=>by cases d⟩
end
section
variable{w:cx}{n h:Nat}{s:aU}{vs:List Int}{fs:List cj}{f:cj}{d:Sc}
def mj{f':cj}(a:fs.getLast? =some f)(e:rc f'=rc f):(fs.dropLast++ [f']).map rc=fs.map rc:=by
 conv=>rhs;rw[ig a]
 rw[Qzq,Qzq]
 show _++ [rc f']=_++ [rc f]
 rw[e]
def C7(h:Nat)(r a:cC):Prop:=r.within≠h->0<=r.within->a.within=r.within/\(a.row=r.row\/a.row=r.row++ [(h:Int)])
def Kp(h:Nat)(s s':aU):Prop:=s'.af.length=s.af.length/\s'.aj.length=s.aj.length/\∀(i:Nat) (r a:cC),s.aj[i]?=some r->s'.aj[i]?=some a->C7 h r a
def G9(s s':aU):Prop:=s'.af.length=s.af.length/\s'.aj.length=s.aj.length/\∀(i:Nat) (r a:cC),s.aj[i]?=some r->s'.aj[i]?=some a->a.within=r.within/\a.row=r.row
def G9.aj{s s':aU}(b:s'.af.length=s.af.length)(e:s'.aj=s.aj):G9 s s':=⟨b,by rw[e],λi r g c a=>by rw[e,c] at a;cases a;show⟨rfl,L⟩⟩
def G9.kp{h:Nat}{s s':aU}(x:G9 s s'):Kp h s s':=⟨x.1,x.2.1,λi r a c b _ _=>⟨(x.2.2 i r a c b).1,.inl (x.2.2 i r a c b).2⟩⟩
def Kp.aj{h:Nat}{s s':aU}(a:s'.af.length=s.af.length)(e:s'.aj=s.aj):Kp h s s':=(G9.aj a e).kp
def Kp.room{h i:Nat}{s s':aU}{r l:cC}(m:s'.af.length=s.af.length)(o:s.aj[i]?=some r)(e:s'.aj=s.aj.set i l)(k:C7 h r l):Kp h s s':=⟨m,by rw[e,List.length_set],λj a b g c=>by
 rw[e] at c
 rcases get_set c with⟨rfl,rfl⟩|⟨_,c⟩
 ·rw[o] at g;cases g;show k
 ·rw[g] at c;cases c;show λ_ _=>⟨rfl,.inl L⟩⟩
def Kp.v{h:Nat}{s b s':aU}(x:Kp h s b)(y:G9 b s'):Kp h s s':=⟨y.1.trans x.1,y.2.1.trans x.2.1,λi r j c k p q=>by
 let hl:=(gQs.mp c).1
 obtain⟨a,e⟩:∃a,b.aj[i]?=some a:=#[_,gQe (by rw[x.2.1];show hl)]
 let#[m,o]:=x.2.2 i r a c e p q
 let#[g,l]:=y.2.2 i a j e k
 rw[g,l]
 show#[m,o]⟩
def C7.come{h:Nat}{r:cC}:C7 h r (gM r h):=λb a=>by
 unfold gM
 split
 ·omega
 ·show#[L,.inr L]
def C7.own{h:Nat}{r a:cC}(e:r.within=h):C7 h r a:=λb _=>absurd e b
def CD{y:Str}{v:Int}(o:cA w)(x:cN w n s)(q:k0 w s)(t:s.af[h]?=some (vs,fs))(B:fs.getLast? =some f)(F:D0 w h f=some d)(G:y∈d.ps)(C:0<=v/\v<=9):∃s',Puts w s h y v s'/\cN w n s'/\k0 w s'/\G9 s s':=by
 let#[H,W,p,u]:=x.whand t
 let J:=o.hd _ (mQg p)
 let N:=u.fr f (QcQ B)
 let P:=o.l1
 let U:=o.l3
 let K:=J.l1
 let X:=o.l4
 let lr:=x.lr
 let Z:=x.lh
 rcases kK F with⟨c,I,M,k,rfl⟩|⟨c,r,hr,rfl⟩
 ·rw[p] at k
  cases k
  show#[xq w s h H vs fs y v,λS Q q=>Hn p t B c x.ls u.lv (!0) (by dsimp only at K;omega) (!0) G q,?_]
  unfold xq
  split
  ·let#[i,l]:=nY (ns:=w.ak.map (·.1)) (y:=y) x.sv C
   show#[x.share i l,q.share,G9.aj L L]
  ·let#[i,l]:=nY (ns:=H.map (·.1)) (y:=y) u.vv C
   show#[x.hand p (u.vals i l),q.quiet t L,G9.aj (by simp) L]
 ·let#[Y,e,g]:=x.wroom hr
  let z:=o.rm r (mQg hr)
  let R:=z.l1
  show#[_,λS Q q=>Fb t B (mf N c) hr e g.lv (!0) (!0) G q,?_]
  let#[i,l]:=nY (ns:=r.ao.map (·.1)) (y:=y) g.vv C
  show⟨x.room hr ⟨by rw[g.lv,<-i],g.lb,l,g.br,g.bl,g.bb⟩,q.vals e,L,by simp,λj a b A m=>by
   rcases get_set m with⟨rfl,rfl⟩|⟨_,m⟩
   ·rw[e] at A;cases A;show#[L,L]
   ·rw[A] at m;cases m;show#[L,L]⟩
def DB(hi:i4 fs)(g:fs.getLast? =some f)(c:f.room= -1)(b:(fs.map rc).head? =some (-1)):fs.map rc= [-1]:=by
 let i:=ig g
 rw[i] at hi b|-
 cases e:fs.dropLast with
 | nil=>
   rw[e] at b
   rw[List.nil_append]
   have b:some (rc f)=some (-1):=b
   show [rc f]= [-1]
   rw[QdQ b]
 | cons a l=>
   rw[e] at hi
   show absurd c (hi.2 f (mQa.mpr (.inr (Qfq.mpr L))))
def HS{r:Rw}{pr:List Rw}(o:cA w)(x:cN w n s)(P:k0 w s)(J:(h:Int)∉held s)(hn:n<=800)(a9:Here s h f)(C:s.af[h]?=some (vs,fs))(I:fs.getLast? =some f)(hp:progOf w h f=some pr)(h1:1<=f.row)(a4:pr[(f.row-1).toNat]?=some r):∃s',Le w s h r s'/\cN w (n+1) s'/\k0 w s'/\Kp h s s':=by
 let#[d,K,c6]:=Gv o hp
 let b:=c6 r (mQg a4)
 let#[ts,a5,hw,hi]:=x.whand C
 let fi:=hi.fr f (QcQ I)
 have hl:h<s.af.length:=(gQs.mp C).1
 let b1:=o.l1
 let b2:=o.l2
 let b3:=o.l3
 let b4:=o.l4
 let lr:=x.lr
 let lp:=x.lp
 let lh:=x.lh
 let lf:=hi.lf
 let x1:=x.mono (Nat.le_succ n)
 have Z:f.room≠-1->(xK s h).getLast? =some f.room:=λc=>by rw[kN C,QfQ,I];show congrArg some (l_ c)
 let f0:=P.fo h hl
 have G:d.own=false->∃(i:Nat) (r:Rm) (rs:cC),f.room=i/\w.aj[i]?=some r/\s.aj[i]?=some rs/\j_ n r rs/\AC (bG w.aj) r/\d.bs=r.aa.map (·.1)/\rs.within=h:=λho=>by
  rcases kK K with⟨c,a7,a5,b0,rfl⟩|⟨c,r,U,rfl⟩
  ·cases ho
  ·let#[rs,k,N]:=x.wroom U
   show#[_,r,rs,mf fi c,U,k,N,o.rm r (mQg U),L,?_]
   rcases a9 with c'|⟨i,d6,d8,c0,d3⟩
   ·show absurd c' c
   ·let e:=mf fi c
    have:i=f.room.toNat:=by omega
    subst this
    rw[k] at c0
    cases c0
    show d3
 have H:d.own=true->d.ts=w.ai.map (·.1)/\xK s h= [-1]:=λho=>by
  rcases kK K with⟨c,a7,a5,b0,rfl⟩|⟨c,r,U,rfl⟩
  ·show#[L,by rw[kN C] at f0|-;show DB hi.hd I c f0]
  ·cases ho
 have F:∀y,y∈w.ai.map (·.1)->∀ps:List (Int×List Int),w.ai.length=ps.length->∃p,ps[fY (w.ai.map (·.1)) y]?=some p:=λy B ps hl=>by
  have:=(kf B).1
  rw[lQm] at this
  show#[_,gQe (!0)]
 have a2:∀p:Int×List Int,p.2.length<=n->(gN p h).2.length<=n+1:=λp hp=>by
  unfold gN
  split
  ·show p.2.length<=_;omega
  ·simp;omega
 have Y:∀p:Int×List Int,p.2.length<=n->(fL p).2.length<=n:=λp hp=>by
  let#[v,l]:=p
  unfold fL
  cases l with
  |nil=>simp
  |cons a l=>simp at hp;show l.length<=n;omega
 cases r with
 | put y t=>
   let#[v,hv,U]:=mr o x C I K b.2
   let#[s',A,c5,d4,c4]:=CD o x P C I K b.1 hv
   show#[s',λS Q q=>Dh U A q,c5.mono (Nat.le_succ n),d4,c4.kp]
 | unl t m=>
   let#[v,hv,U]:=mr o x C I K b.1
   show#[_,λS Q q=>wI U C I (!0) (!0) q,?_]
   split
   · show#[x1.goes C I hp (!0) (by have:=b.2;omega),P.quiet C (mj I L),Kp.aj (by simp) L]
   · show#[x1,P,Kp.aj L L]
 |go m=>show#[_,λS Q q=>E7 C I (!0) (!0) q,x1.goes C I hp (!0) (by have:m<=pr.length:=b;omega),P.quiet C (mj I L),Kp.aj (by simp) L]
 | do_ g rn dn t=>
   let#[v,hv,U]:=mr o x C I K b.2.2
   have d1:d.gs=bG w.aj:=by
     rcases kK K with⟨c,a7,a5,b0,rfl⟩|⟨c,r,U,rfl⟩ <;>rfl
   let c2:=b.2.1
   rw[d1] at c2
   let#[a3,r,u,a8]:=Hf o c2
   let#[rs,k,N]:=x.wroom u
   let R:=o.rm r (mQg u)
   let b5:=R.l3
   let b6:=N.br
   show⟨_,λS Q q=>EJ U C a3 u k a8 (!0) (!0) (!0) (!0) (!0) (!0) q,?_⟩
   let c9:=kf a8
   let b8:=c9.1
   rw[lQm] at b8
   obtain⟨⟨d7,c1⟩,d2⟩:∃p,r.ae[fY (r.ae.map (·.1)) dn]?=some p:=#[_,gQe b8]
   have pf:progOf w h ⟨(fY (w.aj.map (·.name)) rn:Nat),(fY (r.ae.map (·.1)) dn:Nat),0,v,0⟩=some c1:=DP L L u d2
   let hh:=hi.push (f':=#[(fY (w.aj.map (·.name)) rn:Nat),(fY (r.ae.map (·.1)) dn:Nat),0,v,0]) I #[pr,g,rn,dn,t,hp,h1,a4] (by show((fY (w.aj.map (·.name)) rn:Nat):Int)≠-1;omega) #[#[c1,pf,by show(0:Int)<=0;omega,by show(0:Int)<=_;omega],hv,by show(0:Int)<=0/\(0:Int)<=9;omega]
   show#[(x1.hand hw hh).room u N.come,?_,Kp.room (by simp) k L C7.come]
   generalize fY (r.ae.map (·.1)) dn=dd
   generalize fY (w.aj.map (·.name)) rn=i at k
   have eo:xK {s with af:=s.af.set h (vs,fs++ [(#[i,dd,0,v,0]:cj)]),aj:=s.aj.set i (gM rs h)} h=fs.map rc++ [(i:Int)]:=by
     have:=wq (s:={s with aj:=s.aj.set i (gM rs h)}) (h:=h) (p:=(vs,fs++ [(#[i,dd,0,v,0]:cj)])) hl
     rw[Qzq] at this
     rw[show [(i:Int)]= [(#[i,dd,0,v,0]:cj)].map rc by show _= [rc _];rw[l_ (by show(i:Int)≠-1;omega)]]
     show this
   have q3:Q2 w s.af.length s.ai s.aj (xK {s with af:=s.af.set h (vs,fs++ [(#[i,dd,0,v,0]:cj)]),aj:=s.aj.set i (gM rs h)}):=by
     show Q2.frames P (h:=h) (λg hg=>?_) J (λj r' hj e=>?_) ?_
     · show xF (s:={s with aj:=s.aj.set i (gM rs h)}) hg
     · rw[eo]
       rcases P.r2 j r' hj with z|⟨g,e',_,hm⟩
       · omega
       · have:g=h:=by omega
         subst this
         rw[kN C] at hm
         show mQa.mpr (.inl hm)
     · rw[eo]
       rw[kN C] at f0
       cases b9:fs.map rc with
       |nil=>rw[b9] at f0;cases f0
       |cons a l=>rw[b9] at f0;show f0
   let q4:=q3.come (h:=h) k hl J (by rw[eo];simp)
   unfold k0
   show Q2 w (s.af.set h _).length s.ai (s.aj.set i (gM rs h)) _
   rw[List.length_set]
   show q4
 | wait y t=>
   let#[i,r,rs,M,u,k,N,R,X,a1]:=G b.1
   let#[v,hv,U]:=mr o x C I K b.2.2
   let B:=b.2.1
   rw[X] at B
   let b6:=R.l2
   let lb:=N.lb
   let#[k1,k2]:=kf B
   rw[lQm] at k1
   rw[gQm] at k2
   let#[#[y',so],k3,k4]:=oQm.mp k2
   have k4:y'=y:=k4
   subst k4
   obtain⟨a0,W⟩:∃l,rs.aa[fY (r.aa.map (·.1)) y']?=some l:=#[_,gQe (!0)]
   let ll:=N.bb a0 (mQg W)
   show#[_,λS Q q=>Bk C I M u k (!0) lb (!0) B k3 W (!0) U q,?_]
   show#[x1.room u (((N.mono (Nat.le_succ n)).line (by rw[E9];omega)).leave),?_,Kp.room L k L (C7.own a1)]
   show Q2.wait P (h:=h) k u W k3 (λz=>by rw[z,Quq (by decide +kernel)]) hl J (by rw[Z (!0),M])
 | call y=>
   let#[i,r,rs,M,u,k,N,R,X,a1]:=G b.1
   let B:=b.2
   rw[X] at B
   let b6:=R.l2
   let b7:=N.bl
   let lb:=N.lb
   let k1:=(kf B).1
   rw[lQm] at k1
   obtain⟨a0,W⟩:∃l,rs.aa[fY (r.aa.map (·.1)) y]?=some l:=#[_,gQe (!0)]
   show#[_,λS Q q=>A_ C I M u k (!0) N.lb (!0) (!0) B q,?_]
   show#[x1.room u N.call,Q2.call P (h:=h) k u W hl J (by rw[Z (!0),M]),Kp.room L k L (C7.own a1)]
 | all y=>
   let#[i,r,rs,M,u,k,N,R,X,a1]:=G b.1
   let B:=b.2
   rw[X] at B
   let b6:=R.l2
   let lb:=N.lb
   let k1:=(kf B).1
   rw[lQm] at k1
   obtain⟨a0,W⟩:∃l,rs.aa[fY (r.aa.map (·.1)) y]?=some l:=#[_,gQe (!0)]
   show#[_,λS Q q=>C9 C I M u k (!0) N.lb (!0) B q,?_]
   show#[x1.room u ((N.mono (Nat.le_succ n)).line (by simp)),Q2.all P k W,Kp.room L k L (C7.own a1)]
 | tell t=>
   let#[v,hv,U]:=mr o x C I K b.2
   show⟨_,λS Q q=>AZ U C I (!0) (!0) q,x1.tells C I hv,P.quiet C (mj I (by
     have a3:f.room≠-1:=by let#[i,r,rs,M,_]:=G b.1;omega
     rw[l_ a3];show l_ (f:={f with told:=v}) a3)),Kp.aj (by simp) L⟩
 | take y=>
   let B:=b.2
   rw[(H b.1).1] at B
   let#[p,A]:=F y B s.ai lp
   let pl:=x.ps p (mQg A)
   show#[_,λS Q q=>Af B A (!0) (!0) (!0) q,x1.pass (a2 p pl),Q2.take P A hl J (H b.1).2,Kp.aj L L]
 | give y=>
   let B:=b.2
   rw[(H b.1).1] at B
   let#[p,A]:=F y B s.ai lp
   let pl:=x.ps p (mQg A)
   show#[_,λS Q q=>Ba B A (!0) (!0) q,x1.pass (Nat.le_succ_of_le (Y p pl)),Q2.give P A,Kp.aj L L]
 | pass y z=>
   let B:=b.2.1
   let hz:=b.2.2
   rw[(H b.1).1] at B hz
   let#[p,A]:=F y B s.ai lp
   let pl:=x.ps p (mQg A)
   have x2:cN w n _:=x.pass (i:=fY (w.ai.map (·.1)) y) (Y p pl)
   let#[p2,a6]:=F z hz (s.ai.set (fY (w.ai.map (·.1)) y) (fL p)) (by simpa using lp)
   let c3:=x2.ps p2 (mQg a6)
   let q3:=Q2.give P A
   show#[_,λS Q q=>AQ B hz A (!0) (!0) (!0) a6 q,(x2.mono (Nat.le_succ n)).pass (a2 p2 c3),Q2.take q3 a6 hl ?_ (H b.1).2,Kp.aj L L]
   intro zz
   let#[d5,e1,e2]:=vT (rs:=s.aj) (np:=fL p) A
   show J (e1.mem_iff.mpr ?_)
   rcases mQa.mp (e2.mem_iff.mp zz) with zz|zz
   · show mQa.mpr (.inl ?_)
     let#[v,l]:=p
     unfold fL at zz
     cases l with
     |nil=>cases zz
     |cons a l=>show Qpq _ zz
   · show mQa.mpr (.inr zz)
 |say t=>show#[s,λS Q q=>Dp (sd:=.non) q,x1,P,Kp.aj L L]
def G2(o:cA w)(x:cN w n s)(q2:k0 w s)(hn:n<=800)(hm:h∈mB w s)(A:s.af[h]?=some (vs,fs))(G:fs.getLast? =some f):∃s' e,iT w s h s' e/\cN w (n+1) s'/\k0 w s'/\Kp h s s':=by
 let#[ts,b7,hw,hi]:=x.whand A
 let fi:=hi.fr f (QcQ G)
 let#[pr,M,a8,b2]:=fi.pr
 have hl:h<s.af.length:=(gQs.mp A).1
 let b1:=o.l1
 let b4:=o.l4
 let lr:=x.lr
 let lh:=x.lh
 let lf:=hi.lf
 let mm:=(List.mem_filter.mp hm).2
 rw[QCq] at mm
 have B:(h:Int)∉held s:=by
  intro z
  have:=mm.1
  rw[Qeq z] at this
  cases this
 have nb:¬(f.room= -1/\f.row=pr.length):=by
  rintro⟨c1,c2⟩
  have hb:zB w s h=true:=by
   unfold zB Fc
   rw[A]
   show(match fs.getLast? with|some f=>_|none=>_)=_
   rw[G]
   erw[M,Option.getD_some,c1,c2,decide_true,Bool.and_true]
  rw[hb] at mm
  show absurd mm.2 (!1)
 have row:∀(r:Rw) (e:Xb),Here s h f->pr[f.row.toNat]?=some r->Lj w s h r e->∃s' e,iT w s h s' e/\cN w (n+1) s'/\k0 w s'/\Kp h s s':=λr e u b X=>by
  let I:=(gQs.mp b).1
  let x2:=x.goes A G M (m:=f.row+1) (!0) (!0)
  have q3:k0 w {s with af:=s.af.set h (vs,fs.dropLast++ [{f with row:=f.row+1}])}:=q2.quiet A (mj G L)
  let#[s',hd,N,W,F]:=HS (f:={f with row:=f.row+1}) (r:=r) (pr:=pr) o x2 q3 B hn u (Qyq hl) (by simp) M (by show 1<=f.row+1;omega) (by show pr[(f.row+1-1).toNat]?=_;rw[show f.row+1-1=f.row by omega];show b)
  show#[s',e,E1 A G u M a8 b (!0) (!0) X hd,N,W,#[F.1.trans (by simp),F.2.1,F.2.2]]
 let#[d,a6,a5]:=Gv o M
 have K:∀r,pr[f.row.toNat]?=some r->∃e,Lj w s h r e:=λr b=>by
  let Y:=a5 r (mQg b)
  cases r with
  | say t=>
    let#[v,hv,hr]:=mr o x A G a6 Y.2
    show#[some v,v,L,hr]
  |_=>show#[none,L]
 by_cases c:f.room= -1
 ·have I:f.row.toNat<pr.length:=by
   have:f.row≠pr.length:=λz=>nb #[c,z]
   omega
  have b:pr[f.row.toNat]?=some (pr[f.row.toNat]):=gQe I
  let#[e,X]:=K _ b
  show row _ e (.inl c) b X
 ·rcases nX M with⟨c',_⟩|⟨i,j,r,dn,h1,h2,h3,h4⟩
  ·show absurd c' c
  let#[C,p,ri]:=x.wroom h3
  let br:=ri.br
  have U:(xK s h).getLast? =some (i:Int):=by rw[kN A,QfQ,G,<-h1];show congrArg some (l_ c)
  by_cases cw:C.within=h
  ·have u:Here s h f:=.inr #[i,C,h1,p,cw]
   by_cases ce:f.row=pr.length
   ·let a1:=ig G
    let hd:=hi.hd
    rw[a1] at hd
    let#[H,J,hg]:=hd.two c
    have a7:fs=H++ [J,f]:=by rw[a1,hg];simp
    subst a7
    let#[a4,a9]:=hi.pop
    let#[b6,g,rn,b5,t,p1,p2,p3]:=a9
    have x2:cN w n {s with aj:=s.aj.set i (cg C),af:=s.af.set h (vs,H++ [J])}:=(x.hand hw a4).room h3 ri.leave
    let ql:=Q2.leave q2 p
    have R:(h:Int)∉W28.hl s.ai (s.aj.set i (cg C)):=by
     intro z
     let#[b0,e1,e2]:=rH (ps:=s.ai) (nr:=cg C) p
     show B (e1.mem_iff.mpr ?_)
     rcases mQa.mp (e2.mem_iff.mp z) with z|z
     ·show mQa.mpr (.inl ?_)
      rcases leave_held C with⟨a,P,_⟩|⟨X,_⟩
      ·show P.mem_iff.mpr (Qpq _ z)
      ·rw[<-X];show z
     ·show mQa.mpr (.inr z)
    have q3:k0 w {s with aj:=s.aj.set i (cg C),af:=s.af.set h (vs,H++ [J])}:=by
     have eo:xK {s with aj:=s.aj.set i (cg C),af:=s.af.set h (vs,H++ [J])} h=(H++ [J]).map rc:=wq (s:={s with aj:=s.aj.set i (cg C)}) hl
     unfold k0
     show Q2 w (s.af.set h _).length s.ai (s.aj.set i (cg C)) _
     rw[List.length_set]
     show Q2.frames ql (h:=h) (λg hg=>xF (s:={s with aj:=s.aj.set i (cg C)}) hg) R (λj r' hj e=>?_) ?_
     ·rw[eo]
      rcases get_set hj with⟨rfl,rfl⟩|⟨hne,hj⟩
      ·exfalso
       rcases leave_held C with⟨a,P,Z⟩|⟨_,Z,_⟩
       ·rw[Z] at e
        show B (g9 (fr:=xK s) q2 p ?_)
        rw[<-e]
        show P.mem_iff.mpr (QBq ..)
       ·rw[Z] at e
        omega
      ·rcases q2.r2 j r' hj with z|⟨g',e',_,k⟩
       ·omega
       ·have:g'=h:=by omega
        subst this
        rw[kN A,show H++ [J,f]=(H++ [J])++ [f] by simp,Qzq] at k
        rcases mQa.mp k with k|k
        ·show k
        ·let k:=Qfq.mp (show(j:Int)∈[rc f] from k)
         rw[l_ c,h1] at k
         show absurd (by omega:j=i) hne
     ·rw[eo]
      let f0:=q2.fo h hl
      rw[kN A] at f0
      cases H with
      |nil=>show f0
      |cons a l=>show f0
    let#[b3,a2,a0]:=Gv o p1
    let Y:=a0 _ (mQg p3)
    cases g with
    | none=>
      show#[_,none,zj A G u M ce λS Q q=>qU A h1 p (!0) (!0) p1 p2 p3 (λ_ e=>e.symm) q,x2.mono (Nat.le_succ n),q3,Kp.room (by simp) p L (C7.own cw)]
    | some y=>
      let#[s',a3,N,W,F]:=CD (y:=y) (v:=f.told) o x2 q3 (Qyq hl) (by simp) a2 (Y.1 y L) fi.tv
      show#[s',none,zj A G u M ce λS Q q=>qU A h1 p (!0) (!0) p1 p2 p3 (λ_ e=>by rw[e];show a3) q,N.mono (Nat.le_succ n),W,(Kp.room (s':={s with aj:=s.aj.set i (cg C),af:=s.af.set h (vs,H++ [J])}) (by simp) p L (C7.own cw)).v F]
   ·have I:f.row.toNat<pr.length:=by omega
    have b:pr[f.row.toNat]?=some (pr[f.row.toNat]):=gQe I
    let#[e,X]:=K _ b
    show row _ e u b X
  ·show#[_,none,D2 A G h1 p cw (!0) (!0),(x.mono (Nat.le_succ n)).room h3 ri.come,Q2.come q2 (h:=h) p hl B U,Kp.room L p L C7.come]
end
end W28
namespace DL
open L2
section
variable{a:cv}{S:aE}
def Jl{f:d0}{Q:D->aE->Prop}(h:E f a S λp b=>p.2.isL=true/\∃bs,k8 p.1=some bs/\Q (.bl (bs.all id)) b):E (uJ f) a S Q:=by
 let#[p,b,c,l,bs,d,q]:=h
 show#[_,b,by unfold uJ;rw[c];erw[Qbq];rw[Qhq l,d];rfl,q]
def ND{i j:Int}{Q:D->Prop}(h:Ft i j)(q:Q (.int (i^j.toNat))):Op (HL S (.int i) (.int j)) Q:=#[_,by erw[HL,intD];rw[Qhq h],q]
end
theorem rV:∀n:Nat,k8 (List.replicate n (.bl true))=some (List.replicate n true)
 |0=>rfl
 |n+1=>by erw[QNq,k8];rw[rV n];rfl
end DL
namespace W28
open L2 DL
end W28
namespace DL
open L2
def E_{S:aE}{k:Nat}{ds:List D}{Q:List D×Tag->Prop}(a:S[k]?=some (.frz ds))(q:Q (ds,.fz k)):Op (uk S (.ref k)) Q:=#[_,by erw[uk,a],q]
def Np{S:aE}{k:Nat}{ds:List D}{i:Int}{d:D}{Q:D->Prop}(a:S[k]?=some (.frz ds))(h:mi ds i=some d)(q:Q d):Op (kc S (.ref k) (.int i)) Q:=#[_,by erw[kc,a];show h,q]
def Jb{i:Int}{Q:D->Prop}(q:Q (.int (if i<0 then -i else i))):Op (Ep [.int i]) Q:=#[_,L,q]
end DL
namespace W28
open L2 DL
section
variable{S:aE}{Q:Res->aE->Prop}
def LO{ns:List Int}{k:Nat}(e:k<100)(f:S[0]?=some (.frz (ns.map D.int)))(q:∀a b:Int,Q (.l [.int a,.int b,.int 0]) S):Fn lZ [.ref 0,.int k] S Q:=by
 show cc ?_
 unfold p5
 show aG (bE (dI ?_))
 show aG (T.mono (Q:=λo=>∃d:Int,o=.nx [some (.ref 0),some (.int k),some (.int d)] S) ?_ ?_)
 ·apply fE (bZ (b_ (ax L (qF (bQ (ax L (E_ f ?_)))))))
  rw[lQm]
  by_cases c:(k:Int)<ns.length
  ·rw[Qeq c,Qhq L]
   have e:k<ns.length:=by omega
   symm
   show Np f (aQ (x:=.int ns[k]) (by rw[gQm,gQe e];rfl)) ?_
   show#[_,L]
  ·rw[Qdq c,Quq (!1)]
   show dg #[_,L]
 rintro _ ⟨d,rfl⟩
 dsimp only[bM,bg,bN,cP,c7,hJ]
 symm
 apply Jb ?_
 apply Jb ?_
 show ND #[by decide,by decide,by decide] ?_
 generalize (10:Int)^(18:Int).toNat=c2
 generalize (if d<0 then -d else d)=c1
 symm
 show rX ?_
 have g:Hz c1 (if decide (c2<=c1)=true then 1 else 0):=by
  right
  split <;>decide
 generalize (if decide (c2<=c1)=true then(1:Int) else 0)=c3 at g|-
 apply qH g ?_
 apply kX (!1) ?_
 apply qH (.inl #[by decide,by decide]) ?_
 have h:0<=d%2147483629:=Int.emod_nonneg _ (!1)
 have i:d%2147483629<2147483629:=Int.emod_lt_of_pos _ (!1)
 apply qH (.inl #[by omega,by omega]) ?_
 apply qH (.inr #[by decide,by decide]) ?_
 apply kX (!1) ?_
 show#[by show 3<=_;decide,?_]
 show Fu L (q _ _)
end
end W28
namespace DL
open L2
section
variable{a:cv}{S:aE}
def Nk{f g h:bp}{Q:Out->Prop}(w:E h a S λd c=>E f a c λx S2=>E g a S2 λy b=>∃k l z,x=.ref k/\y=.int z/\b[k]?=some (.dct l)/\l.length<sizeLine/\Q (.nx a (b.set k (.dct (putD l (.inl z) d))))):T (Kh f g h) a S Q:=by
 let#[d,c,e,x,S2,j,y,b,i,k,l,z,rfl,rfl,h1,h2,q]:=w
 show#[_,by unfold Kh;rw[e];erw[Qbq];rw[j];erw[Qbq];rw[i];erw[Qbq,h1,pd];rw[Qhq h2],q]
def M_{f g:bp}{Q:D->aE->Prop}(h:E f a S λx b=>E g a b λy S2=>∃k l z v,x=.ref k/\y=.int z/\S2[k]?=some (.dct l)/\jk l (.inl z)=some v/\Q v S2):E (Jh f g) a S Q:=by
 let#[x,b,c,y,S2,d,k,l,z,v,rfl,rfl,h1,h2,q]:=h
 show#[_,_,by unfold Jh;rw[c];erw[Qbq];rw[d];erw[Qbq,h1,pd];rw[h2];rfl,q]
def JP{f g:bp}{Q:D->aE->Prop}(h:E f a S λy b=>E g a b λx S2=>∃k l z,x=.ref k/\y=.int z/\S2[k]?=some (.dct l)/\Q (.bl (jk l (.inl z)).isSome) S2):E (Er f g) a S Q:=by
 let#[y,b,c,x,S2,d,k,l,z,rfl,rfl,h1,q]:=h
 show#[_,_,by unfold Er;rw[c];erw[Qbq];rw[d];erw[Qbq,h1,pd],q]
def LJ{f:bp}{Q:D->aE->Prop}(h:E f a S λx b=>∃k l,x=.ref k/\b[k]?=some (.dct l)/\Q (.int l.length) b):E (HK f) a S Q:=by
 let#[x,b,c,k,l,rfl,h1,q]:=h
 show#[_,_,by unfold HK;rw[c];erw[Qbq,yJ,h1],q]
theorem JA{c:iE}{b:cH}{Q:Out->Prop}(I:Nat->cv->aE->Prop)(l:∀m a S,I m a S->E c a S λk g=>if k=true then T b a g λo=>match o with|.nx e S2=>∃f,m=f+1/\I f e S2|.rt d S2=>Q (.rt d S2)|_=>False else Q (.nx a g)):
  ∀(n m:Nat) (a:cv) (S:aE),m<n->I m a S->T (Ay c b n) a S Q
 |0,_,_,_,h,_=>absurd h (Nat.not_lt_zero _)
 | n+1,m,a,S,h,hi=>by
   let#[k,g,i,q]:=l m a S hi
   cases k with
   |false=>show#[_,by erw[Ay];rw[i];rfl,q]
   | true=>
     let#[o,j,q]:=(q:T b a g _)
     cases o with
     | nx e S2=>
       let#[f,rfl,q]:=(q:∃f,m=f+1/\I f e S2)
       let#[o,p,q]:=JA I l n f e S2 (!0) q
       show#[o,by erw[Ay];rw[i];erw[Qbq,if_true];rw[j];show p,q]
     |rt d S2=>show#[_,by erw[Ay];rw[i];erw[Qbq,if_true];rw[j];rfl,q]
     |_=>show q.elim
def Mc{n:Nat}{b:cH}{ds:List D}{S:aE}{Q:Res->aE->Prop}(h:T b (ds.map some++List.replicate (n-ds.length) none) S λo=>match o with|.nx _ c=>Q (.d .non) c|.rt d c=>Q (.d d) c|.rl l c=>Q (.l l) c|_=>False):Fn (JX n b) ds S Q:=by
 let#[o,e,q]:=h
 cases o with
 |nx _ c=>show#[_,_,by unfold JX;rw[e];rfl,q]
 |rt d c=>show#[_,_,by unfold JX;rw[e];rfl,q]
 |rl l c=>show#[_,_,by unfold JX;rw[e];rfl,q]
 |_=>show q.elim
end
theorem gr{α:Type}{f:α->D}{g:α->PyData}:∀{l:List α},(∀a∈l,fS (f a)=some (g a))->eh (l.map f)=some (l.map g)
 | [],_=>rfl
 | a::l,h=>by
   erw[QDq,eh]
   rw[h a (QBq ..),gr λb c=>h b (Qpq _ c)]
   rfl
theorem iJ{α:Type}{g:α->PyData}{n:Nat}:∀{l:List α},(∀a∈l,ST.nu n (g a)=true)->ST.mK n (l.map g)=true
 | [],_=>by simp[ST.mK]
 | a::l,h=>by
   erw[QDq,ST.mK,QCq]
   show#[h a (QBq ..),iJ λb c=>h b (Qpq _ c)]
theorem map_inj{α d:Type}{g:α->d}(c:∀a b,g a=g b->a=b):∀{l m:List α},l.map g=m.map g->l=m
 | [],[],_=>rfl
 | a::l,b::m,h=>by
   erw[QDq,List.cons.injEq] at h
   rw[c a b h.1,map_inj c h.2]
 | [],_::_,h=>by simp at h
 |_::_,[],h=>by simp at h
end DL
namespace W28
open L2 DL
noncomputable def jI(l:List Int):PyData:=.tuple (l.map .int)
noncomputable def cj.p(f:cj):PyData:=.tuple [.int f.room,.int f.deed,.int f.row,.int f.given,.int f.told]
noncomputable def qN(p:Int×Int):PyData:=.tuple [.int p.1,.int p.2]
noncomputable def o7(l:List (Int×Int)):PyData:=.tuple (l.map qN)
noncomputable def cC.p(r:cC):PyData:=.tuple [jI r.vals,.int r.within,jI r.row,jI r.ag,.tuple (r.aa.map o7)]
noncomputable def Iq(p:Int×List Int):PyData:=.tuple [.int p.1,jI p.2]
noncomputable def HD(h:List Int×List cj):PyData:=.tuple [jI h.1,.tuple (h.2.map cj.p)]
noncomputable def aU.p(s:aU):PyData:=.tuple [.tuple (s.aj.map cC.p),.tuple (s.ai.map Iq),jI s.ak,.tuple (s.af.map HD)]
def jF(l:List Int):fS (cy l)=some (jI l):=by
 unfold cy jI
 erw[fS]
 rw[gr (g:=PyData.int) λ_ _=>rfl]
 rfl
def l8(n:Nat)(l:List Int):ST.nu (n+1) (jI l)=true:=by
 unfold jI
 erw[ST.nu]
 show iJ λ_ _=>by simp[ST.nu]
def Hy(f:cj):fS f.d=some f.p:=by simp[cj.d,cj.p,fS,eh]
def Lz(n:Nat)(f:cj):ST.nu (n+1) f.p=true:=by simp[cj.p,ST.nu,ST.mK]
def El(p:Int×Int):fS (pairD p)=some (qN p):=by simp[pairD,qN,fS,eh]
def GE(l:List (Int×Int)):fS (dW l)=some (o7 l):=by
 unfold dW o7
 erw[fS]
 rw[gr (g:=qN) λp _=>El p]
 rfl
def IB(n:Nat)(l:List (Int×Int)):ST.nu (n+2) (o7 l)=true:=by
 unfold o7
 erw[ST.nu]
 show iJ λ_ _=>by simp[qN,ST.nu,ST.mK]
def IT(r:cC):fS r.d=some r.p:=by
 unfold cC.d cC.p
 erw[fS,eh]
 rw[jF,jF,jF,gr (g:=o7) λl _=>GE l]
 rfl
def KI(n:Nat)(r:cC):ST.nu (n+4) r.p=true:=by
 unfold cC.p
 erw[ST.nu,ST.mK,QCq]
 show#[l8 _ _,trivial,l8 _ _,l8 _ _,iJ λl _=>IB n l,trivial]
def J3(p:Int×List Int):fS (Aa p)=some (Iq p):=by
 unfold Aa Iq
 erw[fS,eh]
 rw[jF]
 rfl
def NQ(n:Nat)(p:Int×List Int):ST.nu (n+2) (Iq p)=true:=by
 unfold Iq
 erw[ST.nu,ST.mK,QCq]
 show#[trivial,l8 _ _,trivial]
def J4(h:List Int×List cj):fS (Ac h)=some (HD h):=by
 unfold Ac HD
 erw[fS,eh]
 rw[jF,gr (g:=cj.p) λf _=>Hy f]
 rfl
def Ni(n:Nat)(h:List Int×List cj):ST.nu (n+3) (HD h)=true:=by
 unfold HD
 erw[ST.nu,ST.mK,QCq]
 show#[l8 _ _,iJ λf _=>Lz n f,trivial]
def aU.num(s:aU):fS s.d=some s.p:=by
 unfold aU.d aU.p
 erw[fS,eh]
 rw[gr (g:=cC.p) λr _=>IT r,gr (g:=Iq) λp _=>J3 p,jF,gr (g:=HD) λh _=>J4 h]
 rfl
def aU.nu(s:aU):ST.nu 8 s.p=true:=by
 unfold aU.p
 erw[ST.nu,ST.mK,QCq]
 show#[iJ λr _=>KI 2 r,iJ λp _=>NQ 4 p,l8 _ _,iJ λh _=>Ni 3 h,trivial]
def jL{l m:List Int}(h:jI l=jI m):l=m:=by
 unfold jI at h
 injection h with h
 show map_inj (λa b e=>by injection e) h
def F7(a b:Int×Int)(h:qN a=qN b):a=b:=by
 let#[e,d]:=a
 let#[c,f]:=b
 simp[qN] at h
 rw[h.1,h.2]
def GG(l m:List (Int×Int))(h:o7 l=o7 m):l=m:=by
 unfold o7 at h
 injection h with h
 show map_inj F7 h
def Iy(a b:cj)(h:a.p=b.p):a=b:=by
 let#[g,f,k,c,m]:=a
 let#[d,i,l,j,e]:=b
 simp[cj.p] at h
 let#[rfl,rfl,rfl,rfl,rfl]:=h
 rfl
def G0(a b:cC)(h:a.p=b.p):a=b:=by
 let#[m,l,q,i,s]:=a
 let#[j,n,r,o,k]:=b
 unfold cC.p at h
 injection h with h
 erw[List.cons.injEq,and_true] at h
 let#[f,c,g,e,d]:=h
 injection c with c
 injection d with d
 rw[jL f,jL g,jL e,map_inj GG d,c]
def K1(a b:Int×List Int)(h:Iq a=Iq b):a=b:=by
 let#[g,f]:=a
 let#[e,i]:=b
 unfold Iq at h
 injection h with h
 erw[List.cons.injEq,and_true] at h
 let#[c,d]:=h
 injection c with c
 rw[jL d,c]
def Lm(a b:List Int×List cj)(h:HD a=HD b):a=b:=by
 let#[g,f]:=a
 let#[e,i]:=b
 unfold HD at h
 injection h with h
 erw[List.cons.injEq,and_true] at h
 let#[d,c]:=h
 injection c with c
 rw[jL d,map_inj Iy c]
def aU.inj{a b:aU}(h:a.p=b.p):a=b:=by
 let#[k,j,n,g]:=a
 let#[i,l,o,m]:=b
 unfold aU.p at h
 injection h with h
 erw[List.cons.injEq,and_true] at h
 let#[e,c,f,d]:=h
 injection e with e
 injection c with c
 injection d with d
 rw[map_inj G0 e,map_inj K1 c,jL f,map_inj Lm d]
def aU.injD{a b:aU}(h:a.d=b.d):a=b:=by
 have:=a.num
 rw[h,b.num] at this
 show(aU.inj (QdQ this)).symm
def B3{b:List aU}{s:aU}:oX (b.map aU.d) s.p=true↔s∈b:=by
 unfold oX
 rw[List.any_map,List.any_eq_true]
 constructor
 ·rintro⟨a,c,e⟩
  have e:(match fS a.d with|some q=>PyData.eqv q s.p|none=>false)=true:=e
  rw[a.num] at e
  have:=aU.inj (ST.Ef a.nu s.nu e)
  subst this
  show c
 ·intro h
  show#[s,h,?_]
  show(match fS s.d with|some q=>PyData.eqv q s.p|none=>false)=true
  rw[s.num]
  show SeqAt.eqv_refl _ (ST.nM s.nu).1
def u5{w:cx}{s c b:aU}{h:Nat}{f e:Xb}(k:iT w s h c f)(j:iT w s h b e):c=b:=by
 let#[m,p,l,i]:=k [] (λr _=>r=.d (GO c h f)) L
 let#[o,n,g,a]:=j [] (λr _=>r=.d (GO b h e)) L
 rw[l] at g
 cases g
 rw[i] at a
 unfold GO at a
 injection a with a
 injection a with a
 erw[List.cons.injEq] at a
 show aU.injD a.1
def Nx(w:cx)(s s':aU):Prop:=∃h e,h∈mB w s/\iT w s h s' e
inductive Rc(w:cx)(s:aU):aU->Prop
 |refl:Rc w s s
 |step {s1 s2:aU}:Rc w s s1->Nx w s1 s2->Rc w s s2
def Rc.trans{w:cx}{s b a:aU}(x:Rc w s b)(y:Rc w b a):Rc w s a:=by
 induction y with
 |refl=>show x
 |step _ n c=>show .step c n
def Gd(w:cx)(n:Nat)(s:aU):Prop:=cN w n s/\k0 w s
def Gd.mono{w:cx}{n m:Nat}{s:aU}(x:Gd w n s)(l:n<=m):Gd w m s:=⟨x.1.mono l,x.2⟩
def Gd.next{w:cx}{n h:Nat}{s:aU}(o:cA w)(x:Gd w n s)(l:n<=800)(b:h∈mB w s):∃s' e,iT w s h s' e/\Gd w (n+1) s'/\Kp h s s':=by
 have hl:h<s.af.length:=List.mem_range.mp (List.mem_filter.mp b).1
 obtain⟨⟨m,t⟩,a⟩:∃p,s.af[h]?=some p:=#[_,gQe hl]
 let#[u,q,r,k]:=x.1.whand a
 let#[f,i,v]:=k.last
 let#[s',e,g,c,j,d]:=G2 o x.1 x.2 l b a i
 show#[s',e,g,#[c,j],d]
def Gd.nx{w:cx}{n:Nat}{s s':aU}(o:cA w)(x:Gd w n s)(g:n<=800)(y:Nx w s s'):Gd w (n+1) s'/\∃h∈mB w s,Kp h s s':=by
 let#[h,e,b,a]:=y
 let#[i,j,d,c,f]:=x.next o g b
 have:=u5 a d
 subst this
 show#[c,h,b,f]
noncomputable def D1(p:aU×Int×Int):D:=.tup [p.1.d,.int p.2.1,.int p.2.2]
structure Cm(w:cx)(n:Nat)(s0:aU)(k:Nat)(fs:List (aU×Int×Int)):Prop where
 hd:∃o h,fs[0]?=some (s0,o,h)
 nd:(fs.map (·.1)).Nodup
 rc:∀(i:Nat) (p:aU×Int×Int),fs[i]?=some p->Rc w s0 p.1/\Gd w (n+i) p.1
 cl:∀(i:Nat) (p:aU×Int×Int),i<k->fs[i]?=some p->∀s',Nx w p.1 s'->s'∈fs.map (·.1)
section
variable{w:cx}{n:Nat}{f:aU}{S:aE}{Q:Res->aE->Prop}
def Cm.all{fs:List (aU×Int×Int)}(x:Cm w n f fs.length fs){s:aU}(h:Rc w f s):s∈fs.map (·.1):=by
 induction h with
 | refl=>
   let#[o,h,e]:=x.hd
   show Qkq.mpr #[_,mQg e,L]
 | step _ d c=>
   let#[p,b,rfl]:=Qkq.mp c
   let#[i,a]:=List.getElem?_of_mem b
   show x.cl i p (gQs.mp a).1 a _ d
def Bx(o:cA w){s:aU}(x:cN w n s):(mB w s).length<=4:=by
 let a:=List.length_filter_le (λh:Nat=> !decide ((h:Int)∈held s)&& !zB w s h) (List.range s.af.length)
 let b:=x.lh
 let c:=o.l4
 rw[QVq] at a
 unfold mB
 omega
def Cm.add{k:Nat}{fs:List (aU×Int×Int)}{s':aU}{a b:Int}(x:Cm w n f k fs)(t:s'∉fs.map (·.1))(r:Rc w f s')(m:Gd w (n+fs.length) s')(v:k<=fs.length):Cm w n f k (fs++ [(s',a,b)]):=by
 show#[?_,?_,λi p g=>?_,λi p s g q l=>?_]
 ·let#[o,h,e]:=x.hd
  show#[o,h,by rw[QHq (gQs.mp e).1];show e]
 ·rw[Qzq,List.nodup_append]
  show#[x.nd,by simp,λc u d j=>?_]
  have j:d=s':=by simpa using j
  subst j
  show λz=>t (z▸u)
 ·by_cases c:i<fs.length
  ·rw[QHq c] at g
   show x.rc i p g
  ·rw[QQq (!0)] at g
   have z:i-fs.length=0:=by have:=(gQs.mp g).1;simp at this;omega
   rw[z] at g
   cases g
   have:i=fs.length:=by omega
   subst this
   show#[r,m]
 ·rw[QHq (!0)] at g
  rw[Qzq]
  show mQa.mpr (.inl (x.cl i p s g q l))
def Hq(o:cA w)(x:Gd w n f){most:Nat}(hm:most<=400)(hn:n<=300)
  (q:∀(fs:List (aU×Int×Int)) (g:aE),l6 S g->g[S.length+1]?=some (.lst (fs.map D1))->(∃k,Cm w n f k fs/\(fs.length<=most->k=fs.length))->fs.length<=500->Q (.d (if fs.length<=most then .ref (S.length+1) else .non)) g):Fn oZ [w.d,f.d,.int most] S Q:=by
 show Mc ?_
 unfold yG
 show aG (bE (OT ?_))
 show aG (kE (Jy (ax L #[_,_,L,aS,ax L #[_,_,f.p,L,aS,f.num,#[f.nu,Nat.zero_le _],?_]])))
 have e0:(S++ [O.sett []]).set S.length (.sett (if oX [] f.p=true then [] else []++ [f.d]))=S++ [O.sett [f.d]]:=by
  rw[List.set_append_right _ _ (Qmq _)]
  simp[oX]
 show T _ _ ((S++ [O.sett []]).set S.length (.sett (if oX [] f.p=true then [] else []++ [f.d]))) _
 rw[e0]
 show aG (bE (cG (cR (aw (cb (aw (ax L (aw (qB (dI #[_,L,aw (qB (dI #[_,L,aI #[by show 3<=_;decide,aI #[by show 1<=_;decide,?_]]]))]))))))))))
 show aG (bE (dI ?_))
 have R:(S++ [O.sett [f.d]]).length=S.length+1:=by simp
 have a1:((S++ [O.sett [f.d]])++ [O.lst [D1 (f,-1,-1)]])[S.length]?=some (.sett [f.d]):=aZ aS
 have W:((S++ [O.sett [f.d]])++ [O.lst [D1 (f,-1,-1)]])[S.length+1]?=some (.lst [D1 (f,-1,-1)]):=by rw[<-R];show aS
 have a4:l6 S ((S++ [O.sett [f.d]])++ [O.lst [D1 (f,-1,-1)]]):=l6.refl.app.app
 show T _ [some w.d,some f.d,some (.int most),some (.ref S.length),some (.ref (S++ [O.sett [f.d]]).length),some (.int 0),none,none,none,none] ((S++ [O.sett [f.d]])++ [O.lst [D1 (f,-1,-1)]]) _
 rw[R]
 generalize (S++ [O.sett [f.d]])++ [O.lst [D1 (f,-1,-1)]]=S1 at a1 W a4|-
 have b4:Cm w n f 0 [(f,-1,-1)]:=by
  show#[#[_,_,L],by simp,λi p J=>?_,λi p hi=>absurd hi (Nat.not_lt_zero _)]
  cases i with
  |zero=>cases J;show#[.refl,x]
  |succ i=>simp at J
 have a3:∀(fs:List (aU×Int×Int)) (g:aE) (k:Nat) (a5 a6 M K Z:Option D),l6 S g->g[S.length+1]?=some (.lst (fs.map D1))->Cm w n f k fs->(fs.length<=most->k=fs.length)->fs.length<=500->
   T (cB (sM (aK (bf LY (et (aP (au 4))) (au 2))) (au 4) (cF .non))) [some w.d,some f.d,some (.int most),some (.ref S.length),some (.ref (S.length+1)),a5,a6,M,K,Z] g (λo=>match o with|.nx _ g=>Q (.d .non) g|.rt d g=>Q (.d d) g|.rl l g=>Q (.l l) g|_=>False):=by
  intro fs g k a5 a6 M K Z X hf I hk hl
  let qq:=q fs g X hf #[k,I,hk] hl
  show dM (Nu (bZ (b_ (qF (bQ (ax L (bF hf (ax L (p9 ?_)))))))))
  rw[lQm]
  show bD (λc=>?_) (λc=>?_)
  ·have c:fs.length<=most:=by have:=QZq c;omega
   rw[Qhq c] at qq
   show ax L qq
  ·have c:¬fs.length<=most:=λz=>by have:=QaQ c;omega
   rw[Quq c] at qq
   show dI qq
 show aG (MI (λm r g=>∃(fs:List (aU×Int×Int)) (k:Nat) (a6 M K Z:Option D),r= [some w.d,some f.d,some (.int most),some (.ref S.length),some (.ref (S.length+1)),some (.int k),a6,M,K,Z]/\l6 S g/\g[S.length]?=some (.sett ((fs.map (·.1)).map aU.d))/\g[S.length+1]?=some (.lst (fs.map D1))/\Cm w n f k fs/\k<=fs.length/\m+k=most/\fs.length<=most+4) (λm r g hI=>?_) 500 most _ _ (!0) #[[(f,-1,-1)],0,_,_,_,_,L,a4,a1,W,b4,Nat.zero_le _,L,by simp])
 let#[fs,k,a6,M,K,Z,rfl,X,hS,hF,I,hk,hmk,hfl]:=hI
 show kL (bZ (b_ (ax L (qF (bQ (ax L (bF hF (p9 ?_))))))))
 rw[lQm]
 show bD (λc=>?_) (λc=>?_)
 ·have c:k<fs.length:=by have:=QZq c;omega
  show bZ (b_ (qF (bQ (ax L (bF hF (ax L (p9 ?_)))))))
  rw[lQm]
  show bD (λH=>?_) (λH=>?_)
  ·have H:fs.length<=most:=by have:=QZq H;omega
   obtain⟨m',rfl⟩:∃m',m=m'+1:=⟨m-1,by omega⟩
   show⟨m',L,?_⟩
   obtain⟨p,J⟩:∃p,fs[k]?=some p:=#[_,gQe c]
   let#[b1,F]:=I.rc k p J
   show aG (bE (b_ (b_ (ax L (ax L (cE (d:=D1 p) hF (aQ (by rw[gQm,J];rfl)) (dI (aB (d:=p.1.d) L ?_))))))))
   let G:=F.1.mays o (!0)
   let b5:=Bx o F.1
   show aG (fP (ja (je (j8 (aw (ax L (aw (ax L (aI ?_)))))))))
   show G _ _ ?_
   show#[λj r t=>∃(a:List (aU×Int×Int)) (b7 b8 b9:Option D),r= [some w.d,some f.d,some (.int most),some (.ref S.length),some (.ref (S.length+1)),some (.int k),some p.1.d,b7,b8,b9]/\l6 S t/\t[S.length]?=some (.sett ((a.map (·.1)).map aU.d))/\t[S.length+1]?=some (.lst (a.map D1))/\Cm w n f k a/\fs <+: a/\a.length<=fs.length+j/\∀i h,i<j->(mB w p.1)[i]?=some h->∀b e,iT w p.1 h b e->b∈a.map (·.1),#[fs,_,_,_,L,X,hS,hF,I,List.prefix_refl _,Qmq _,λi h hi=>absurd hi (Nat.not_lt_zero _)],λ_ _ _ _=>trivial,?_,?_]
   ·rintro j d r t hd ⟨a,b7,b8,b9,rfl,be2,hS2,hF2,cm2,pre,gl,done⟩
    rw[gQm] at hd
    let#[h,hh,rfl]:=oQm.mp hd
    let hj:=(gQs.mp hh).1
    let A:=mQg hh
    let#[b,e,s,b0,_]:=F.next o (!0) A
    let b3:=pre.length_le
    have U:∀(v:List (aU×Int×Int)),a <+: v->b∈v.map (·.1)->∀i h0,i<j+1->(mB w p.1)[i]?=some h0->∀s1 e1,iT w p.1 h0 s1 e1->s1∈v.map (·.1):=λv u b2 i h0 hi h1 s1 e1 B=>by
     by_cases ci:i=j
     ·subst ci
      rw[hh] at h1
      cases h1
      rw[u5 B s]
      show b2
     ·show(List.IsPrefix.map (·.1) u).subset (done i h0 (!0) h1 s1 e1 B)
    show aR ?_
    show aG (vQ (bO (aw (ax L (aw (ax L (aw (ax L (aI ?_)))))))))
    show s _ _ ?_
    show ee L (az (aR (az (aR (bo ?_)))))
    show fE (bZ (N7 (ax L (ax L #[_,_,_,b.p,L,L,hS2,b.num,#[b.nu,by rw[lQm,lQm];omega],?_]))))
    show bD (λC=>?_) (λC=>?_)
    ·have C:¬oX ((a.map (·.1)).map aU.d) b.p=true:=by simpa using C
     have a0:b∉a.map (·.1):=λz=>C (B3.mpr z)
     show aG (kE (Jy (ax L #[_,_,L,hS2,ax L #[_,_,b.p,L,hS2,b.num,#[b.nu,by rw[lQm,lQm];omega],?_]])))
     rw[Quq C]
     have y:(t.set S.length (.sett ((a.map (·.1)).map aU.d++ [b.d])))[S.length+1]?=some (.lst (a.map D1)):=fJ (!0) hF2
     have P:(t.set S.length (.sett ((a.map (·.1)).map aU.d++ [b.d])))[S.length]?=some (.sett ((a.map (·.1)).map aU.d++ [b.d])):=fc hS2
     have a2:l6 S (t.set S.length (.sett ((a.map (·.1)).map aU.d++ [b.d]))):=be2.put (Qmq _)
     show T _ _ (t.set S.length (.sett ((a.map (·.1)).map aU.d++ [b.d]))) _
     generalize t.set S.length (.sett ((a.map (·.1)).map aU.d++ [b.d]))=S3 at y P a2|-
     show kE (wN (ax L #[_,_,L,y,aw (cb (aw (ax L (aw (ax L (aw (ax L (aI #[by show 3<=_;decide,aI ?_]))))))))]))
     show#[_,y,j0 (by rw[lQm];show aL (!0)) ?_]
     show#[a++ [(b,(k:Int),(h:Int))],_,_,_,L,a2.put (!0),fJ (!0) (by rw[Qzq,Qzq];show P),?_,cm2.add a0 (.step b1 #[h,e,A,s]) (b0.mono (!0)) (!0),pre.trans (List.prefix_append _ _),by rw[lQa];simp;omega,U _ (List.prefix_append _ _) (by rw[Qzq];simp)]
     rw[fc y,Qzq]
     rfl
    ·have C:oX ((a.map (·.1)).map aU.d) b.p=true:=by simpa using C
     show dg #[a,_,_,_,L,be2,hS2,hF2,cm2,pre,by omega,U a (List.prefix_refl _) (B3.mp C)]
   ·rintro r t ⟨a,b7,b8,b9,rfl,be2,hS2,hF2,cm2,pre,gl,done⟩
    rw[lQm] at gl done
    show Pn (m:=(k:Int)) L (dI #[1,L,?_])
    let b3:=pre.length_le
    show#[a,k+1,_,_,_,_,L,be2,hS2,hF2,#[cm2.hd,cm2.nd,cm2.rc,λi p' hi u b Y=>?_],by omega,by omega,by omega]
    by_cases ci:i=k
    ·subst ci
     have:p'=p:=by
      have:=cK pre J
      rw[u] at this
      show QdQ this
     subst this
     let#[h,e,A,s]:=Y
     let#[i',N]:=List.getElem?_of_mem A
     show done i' h (gQs.mp N).1 N b e s
    ·show cm2.cl i p' (!0) u b Y
  ·have H:¬fs.length<=most:=λz=>by have:=QaQ H;omega
   show a3 fs g k _ _ _ _ _ X hF I (λz=>absurd z H) (!0)
 ·have c:¬k<fs.length:=λz=>by have:=QaQ c;omega
  show a3 fs g k _ _ _ _ _ X hF I (λ_=>by omega) (!0)
end
section
variable{w:cx}{n h:Nat}{s:aU}{S:aE}{Q:Res->aE->Prop}
def BU(o:cA w)(x:cN w n s)(k:n<=800)(q:Q (.l ((held s).map D.int)) S):Fn cD [s.d] S Q:=by
 let m:=o.l1
 let t:=o.l2
 let p:=x.lr
 let r:=x.lp
 show jE k (!0) (!0) x.ps (λc b=>?_) q
 let#[i,j,e]:=QbQ b
 have g:s.aj[i]?=some c:=by rw[gQe j,e]
 have f:w.aj[i]?=some (w.aj[i]'(!0)):=gQe (!0)
 let a:=x.rm i _ c f g
 have:=(o.rm _ (mQg f)).l2
 have:=a.lb
 show#[a.br,a.bl,by omega,a.bb]
def IQ(o:cA w)(x:Gd w n s):(held s).length<=4:=by
 let j:=o.l4
 let k:=x.1.lh
 have d:((held s).map Int.toNat).Nodup:=by
  rw[List.nodup_iff_pairwise_ne,List.pairwise_map]
  show List.Pairwise.imp_of_mem (λ{a b} c hb ne z=>?_) (List.nodup_iff_pairwise_ne.mp (Q2.nd x.2))
  let#[g,f,_]:=Q2.hv x.2 a c
  let#[l,i,_]:=Q2.hv x.2 b hb
  show ne (!0)
 have:=ST.oK d (m:=List.range s.af.length) λy e=>by
  let#[a,c,rfl]:=Qkq.mp e
  let#[g,f,hl]:=Q2.hv x.2 a c
  show List.mem_range.mpr (!0)
 rw[lQm,QVq] at this
 omega
def Mz(w:cx)(s:aU)(g:List Int):Prop:=∀y,y∈g↔∀a,Rc w s a->y∈held a
def Ii(o:cA w)(x:Gd w n s)(hn:n<=300){most:Nat}(hm:most<=400)
  (Z:∀g:List Int,Mz w s g->g.length<=4->(∃fs:List aU,fs.Nodup/\fs.length<=most/\∀s',Rc w s s'->s'∈fs)->(∀s',Rc w s s'->Gd w (n+most) s')->Q (.d (cy g)) S)
  (q2:(∃fs:List aU,fs.Nodup/\most<fs.length/\∀s'∈fs,Rc w s s')->Q (.d .non) S):Fn vz [w.d,s.d,.int most] S Q:=by
 show cc ?_
 unfold Gr
 show aG (bE (bO (aw (ax L (aw (ax L (aw (ax L (aI ?_)))))))))
 show Hq o x hm hn λfs U H I C X=>?_
 let#[k,f,F]:=C
 by_cases c:fs.length<=most
 ·let F:=F c
  subst F
  rw[Qhq c]
  show aG (fE (bZ (b_ (ax L (dI (qQ ?_))))))
  show q5 ?_
  show bD (λc=>by cases c) (λ_=>dg ?_)
  show aG (bE (cG (Lp (je (j8 (aw (ax L (aI ?_))))))))
  show BU o x.1 (!0) ?_
  let J:=IQ o x
  show#[L,held s,L,by omega,?_]
  have a0:(gK (held s)).length<=4:=by rw[(iV _).length_eq];show J
  let bl:=H.len
  have R:S.length+1<U.length:=(gQs.mp I).1
  show aG (fP (ja (bQ (ax L (bF (aZ I) ?_)))))
  show#[λj b l=>∃(r:Nat) (A B v u:Option D),b= [some w.d,some s.d,some (.int most),some (.ref (S.length+1)),some (.ref r),A,B,v,u]/\l6 S l/\l[S.length+1]?=some (.lst (fs.map D1))/\l[r]?=some (.lst (((gK (held s)).filter λy=>(fs.take j).all λp=>decide (y∈held p.1)).map D.int)),?_,λ_ _ _ h=>?_,?_,?_]
  ·show#[U.length,_,_,_,_,L,H.app,aZ I,?_]
   rw[List.filter_eq_self.mpr (λ_ _=>by rw[List.take_zero];rfl)]
   show aS
  ·let#[r,A,B,v,u,_,_,h,_]:=h
   show h
  ·rintro j d b l P ⟨r,A,B,v,u,rfl,be2,hF2,hr2⟩
   rw[gQm] at P
   let#[p,e,rfl]:=oQm.mp P
   let#[Y,N]:=f.rc j p e
   let hj:=(gQs.mp e).1
   show ee L (az (aR (az (aR (az (aR (bo ?_)))))))
   show aG (bE (cG (j8 (aw (ax L (aI ?_))))))
   show BU o N.1 (!0) ?_
   have t:(l++ [O.lst ((held p.1).map D.int)])[r]?=some (.lst (((gK (held s)).filter λy=>(fs.take j).all λp=>decide (y∈held p.1)).map D.int)):=aZ hr2
   show bE (cG (i7 (α:=Int) (λb=>∃a,b= [a,some (.ref l.length)]) D.int D.int (λy=>decide (y∈held p.1)) #[none,L] (ja (bQ (ax L (bF t ?_))))))
   show#[(gK (held s)).filter λy=>(fs.take j).all λp=>decide (y∈held p.1),L,t,by have:=List.length_filter_le (λy=>(fs.take j).all λp=>decide (y∈held p.1)) (gK (held s));omega,λy M b K=>?_,?_]
   ·let#[a,rfl]:=K
    show aR #[L,#[_,L],?_]
    show bZ (HJ (ax L (bQ (ax L (bF aS #[_,_,L,jV _,?_])))))
    show _/\Ec (.int y) ((held p.1).map V.int)=_/\_
    rw[wb]
    show#[L,L,λ_=>ax L #[L,L]]
   ·show#[(l++ [O.lst ((held p.1).map D.int)]).length,_,_,_,_,L,be2.app.app,aZ (aZ hF2),?_]
    rw[aS,List.filter_filter]
    congr 3
    show List.filter_congr λy _=>?_
    rw[QYq,e]
    simp[Bool.and_comm]
  ·rintro b l ⟨r,A,B,v,u,rfl,be2,hF2,hr2⟩
   rw[lQm,QEq] at hr2
   show dM (eS (d_ (bQ (ax L (bF hr2 #[L,?_])))))
   show tT be2 (λk z=>(nomatch z)) (ji _) (Z _ (λy=>?_) ?_ #[fs.map (·.1),f.nd,by rw[lQm];show c,λs' G=>f.all G] λs' G=>?_)
   ·rw[List.mem_filter,QUq]
    constructor
    ·rintro⟨_,W⟩ s' m
     let#[p,e,rfl]:=Qkq.mp (f.all m)
     show QZq (W p e)
    ·intro M
     show#[(iV _).mem_iff.mpr (M s .refl),λp e=>Qeq ?_]
     let#[i,q]:=List.getElem?_of_mem e
     show M p.1 (f.rc i p q).1
   ·have:=List.length_filter_le (λy=>fs.all λp=>decide (y∈held p.1)) (gK (held s))
    omega
   ·let#[p,e,rfl]:=Qkq.mp (f.all G)
    let#[i,q]:=List.getElem?_of_mem e
    have:=(gQs.mp q).1
    show(f.rc i p q).2.mono (!0)
 ·rw[Quq c]
  show aG (fE (bZ (b_ (ax L (dI (qQ ?_))))))
  show q5 ?_
  show bD (λ_=>?_) (λc=>by cases c)
  show dM (dI ?_)
  show tT H (λk z=>(nomatch z)) L (q2 #[fs.map (·.1),f.nd,by rw[lQm];omega,λs' m=>?_])
  let#[p,e,rfl]:=Qkq.mp m
  let#[i,q]:=List.getElem?_of_mem e
  show(f.rc i p q).1
noncomputable def EG(r:Nat×aU×Option Int):D:=.tup [.int r.1,r.2.1.d,Mn r.1 r.2.2]
def zZ(o:cA w)(x:Gd w n s)(v:n<=800)(q:∀f:List (Nat×aU×Option Int),f.length<=4->(∀r∈f,r.1∈mB w s/\iT w s r.1 r.2.1 r.2.2/\Gd w (n+1) r.2.1)->Q (.l (f.map EG)) S):Fn gC [w.d,s.d] S Q:=by
 let y:=x.1.mays o v
 let B:=Bx o x.1
 show cc ?_
 unfold kR
 show aG (bE (cG (cR (aI #[by show 0<=_;decide,?_]))))
 show aG (fP (ja (je (j8 (aw (ax L (aw (ax L (aI ?_)))))))))
 show y _ _ ?_
 show#[λj g p=>(∃a b c,g= [some w.d,some s.d,some (.ref S.length),a,b,c])/\l6 S p/\∃f:List (Nat×aU×Option Int),f.length=j/\(∀r∈f,r.1∈mB w s/\iT w s r.1 r.2.1 r.2.2/\Gd w (n+1) r.2.1)/\p[S.length]?=some (.lst (f.map EG)),#[#[_,_,_,L],l6.refl.app,[],L,λ_ z=>(nomatch z),aS],λ_ _ _ _=>trivial,?_,?_]
 ·rintro j d g p u ⟨⟨a,b,c,rfl⟩,be,f,hrl,hrs,hS⟩
  rw[gQm] at u
  let#[h,i,rfl]:=oQm.mp u
  let C:=(gQs.mp i).1
  let i:=mQg i
  let#[A,e,k,t,_]:=x.next o v i
  show aR ?_
  show aG (vQ (bO (aw (ax L (aw (ax L (aw (ax L (aI ?_)))))))))
  show A8 y i k ?_
  show ee L (az (aR (az (aR (bo ?_)))))
  show kE (wN (ax L #[_,_,L,hS,?_]))
  show aw (cb (aw (ax L (aw (ax L (aw (ax L (aI #[by show 3<=_;decide,aI ?_]))))))))
  show#[_,hS,j0 (by rw[lQm];show aL (!0)) ?_]
  show#[#[_,_,_,L],be.put (Qmq _),f++ [(h,A,e)],by simp[hrl],λr m=>?_,?_]
  ·rcases mQa.mp m with m|m
   ·show hrs r m
   ·rw[Qfq.mp m];show#[i,k,t]
  ·rw[fc hS,Qzq]
   rfl
 ·rintro g p ⟨⟨a,b,c,rfl⟩,be,f,hrl,hrs,hS⟩
  rw[lQm] at hrl
  show dM (ax L ?_)
  show F5 be (Qmq _) hS (a_ λr _=>by erw[EG,cn,bP,BF,aU.low,Bool.and_true]) (q f (!0) hrs)
end
end W28
namespace Rg
noncomputable def LR(g:Nat->Option Nat)(a f:Nat):Nat->Nat->List Nat->Option (List Nat)
 |0,_,_=>none
 | k+1,h,r=>match g h with
   |none=>none
   |some v=>if Nat.ble f h&&Nat.blt r.length a then if Nat.beq v f then some (r++ [h]) else LR g a f k v (r++ [h]) else none
noncomputable def DF(g:Nat->Option Nat)(f:Nat):Nat->Nat->List Nat->Option (List Nat)
 |0,_,_=>none
 | k+1,h,r=>match g h with
   |none=>none
   |some v=>if Nat.beq v f&&(r++ [h]).all (Nat.ble f) then some (r++ [h]) else DF g f k v (r++ [h])
noncomputable def look(t:List (Option Nat))(h:Nat):Option Nat:=t.getD h none
noncomputable def cnt(t:List (Option Nat)):Nat:=(t.filter (·.isSome)).length
noncomputable def tabs(n:Nat):Nat->List (List (Option Nat))
 |0=> [[]]
 |k+1=>(tabs n k).flatMap λt=>(none::(List.range n).map some).map (·::t)
noncomputable def Oy:List Nat->Bool
 | []=>true
 |x::l=> !l.any (Nat.beq x)&&Oy l
noncomputable def NA(n:Nat)(t:List (Option Nat))(f:Nat):Bool:=
 let r:_:=LR (look t) (cnt t) f 5 f []
 r ==DF (look t) f n f []&&match r with
   |none=>true
   |some l=>l.head? ==some f&&l.all (λh=>Nat.blt h n)&&Nat.ble l.length 4
noncomputable def L4(n:Nat)(t:List (Option Nat)):Bool:=(List.range n).all (NA n t)&&Oy ((List.range n).flatMap λf=>(LR (look t) (cnt t) f 5 f []).getD [])
def all1:(tabs 1 1).all (L4 1)=true:=by decide +kernel
def all2:(tabs 2 2).all (L4 2)=true:=by decide +kernel
def PD:(tabs 3 3).all (L4 3)=true:=by decide +kernel
def OU:(tabs 4 4).all (L4 4)=true:=by decide +kernel
theorem B6{n:Nat}:∀{t:List (Option Nat)},(∀o∈t,∀v,o=some v->v<n)->t∈tabs n t.length
 | [],_=>by simp[tabs]
 | o::t,h=>by
   show QOq.mpr #[t,B6 λo a=>h o (Qpq _ a),Qkq.mpr #[o,?_,L]]
   cases o with
   |none=>show QBq ..
   |some v=>show Qpq _ (Qkq.mpr #[v,List.mem_range.mpr (h _ (QBq ..) v L),L])
theorem JG:∀{l:List Nat},Oy l=true->l.Nodup
 | [],_=>List.nodup_nil
 | x::l,h=>by
   erw[Oy,QCq,Bool.not_eq_true',List.any_eq_false] at h
   rw[List.nodup_cons]
   show#[λm=>h.1 x m (Nat.beq_refl x),JG h.2]
def Kl{n:Nat}{t:List (Option Nat)}(c:0<n)(b:n<=4)(hl:t.length=n)(a:∀o∈t,∀v,o=some v->v<n):L4 n t=true:=by
 let m:=B6 a
 rw[hl] at m
 have:n=1\/n=2\/n=3\/n=4:=by omega
 rcases this with rfl|rfl|rfl|rfl
 ·show QUq.mp all1 t m
 ·show QUq.mp all2 t m
 ·show QUq.mp PD t m
 ·show QUq.mp OU t m
noncomputable def way(g:Nat->Option Nat)(a f:Nat):Option (List Nat):=LR g a f 5 f []
def IH{n a:Nat}{g:Nat->Option Nat}(p:0<n)(r:n<=4)(m:∀h v,g h=some v->h<n/\v<n)(x:a=((List.range n).filter λh=>(g h).isSome).length):
  (∀f,f<n->DF g f n f []=way g a f/\∀l,way g a f=some l->l.head? =some f/\(∀h∈l,h<n)/\l.length<=4)/\((List.range n).flatMap λf=>(way g a f).getD []).Nodup:=by
 let t:_:=(List.range n).map g
 have q:t.length=n:=by simp[t]
 have e:look t=g:=by
  funext h
  unfold look
  by_cases c:h<n
  ·simp[t,Qlq,c]
  ·have:g h=none:=by
    cases e:g h with
    |none=>rfl
    |some v=>show absurd (m h v e).1 c
   simp[t,Qlq,c,this]
 have j:cnt t=a:=by
  rw[x]
  show((List.map g (List.range n)).filter (·.isSome)).length=_
  rw[List.filter_map,lQm]
  rfl
 let ok:=Kl (t:=t) p r q λo u v i=>by
  let#[h,_,rfl]:=Qkq.mp u
  show(m h v i).2
 unfold L4 at ok
 rw[QCq,QUq] at ok
 let#[b,k]:=ok
 rw[e,j] at k
 show#[λf s=>?_,JG k]
 let b:=b f (List.mem_range.mpr s)
 erw[NA,e,j,QCq,beq_iff_eq] at b
 show#[b.1.symm,λl hl=>?_]
 let d:=b.2
 unfold way at hl
 rw[hl] at d
 erw[QCq,beq_iff_eq,QUq] at d
 show#[d.1.1,λh w=>Nat.le_of_ble_eq_true (d.1.2 h w),Nat.le_of_ble_eq_true d.2]
end Rg
namespace DL
open L2
theorem zip_map{α a:Type}(f:α->D)(g:a->D):∀(xs:List α) (ys:List a),yW (xs.map f) (ys.map g)=(xs.zip ys).map λp=>D.tup [f p.1,g p.2]
 | [],_=>rfl
 |_::_,[]=>rfl
 | x::xs,y::ys=>by
   have:=zip_map f g xs ys
   erw[yW,QDq,List.zipWith_cons_cons,List.zip_cons_cons] at this|-
   rw[this]
end DL
namespace W28
open L2 DL
section
variable{S S0:aE}{k:Nat}{Q:Res->aE->Prop}
def B2{j:cv}{n:Nat}{f:fT}{Q:D->aE->Prop}(m:j[0]?=some (some (.ref k)))(u:0<n)(w:n<1000)
  (p:E f j S λds e=>ds.length=n/\Ex k S0 e/\∀(d:D) (i:aE),d∈ds->Ex k S0 i->Ex k e i->Q d i):E (bf kc (bA (bq f)) (aA ay (ar (au 0) (ar (cF (.int n)) av)))) j S Q:=by
 show b_ (cG (cR (p.mono λds e r=>?_)))
 let#[hl,x,h]:=r
 show#[nQl (aL (!0)),?_]
 show bO (aw (ax m (aw (dI (aI ?_)))))
 let v:=x.lt
 show bH (x.app (G:= [O.lst ds])) (!0) (!0) λd i t s l o=>?_
 have g:d<ds.length:=by omega
 show cE (l.keep _ _ (!0) aS) (aQ (gQe g)) ?_
 have y:Ex k e e:=by let#[a,b,c,q]:=x.pot;show Ex.refl q
 show h _ _ (List.getElem_mem g) s (y.app.trans l)
noncomputable def sy(o a:Str)(more:Bool):List Rw:=.do_ none o a (.num 0)::if more then [.tell (.num 1)] else []
noncomputable def Ao(nm b c a o:Str)(more:Bool):Rm:=#[nm,b,[],[],[(c,sy o a more),(a,[.tell (.num 2)])]]
def LM(ws:X6)(e d:Str)(b:Nat)(r:Rm):Prop:=∃(c o:Str) (a:Bool),(c="at once" \/c="when free")/\(∃i,i<b/\ws[i]?=some o)/\r=Ao r.name c e d o a
def Ln{ds:List D}{n:Nat}{Q:D->Prop}(b:ds≠[])(a:ds.length*n<=sizeLine)(c:n<1000)(q:Q (.tup (List.replicate n ds).flatten)):Op (yl S (.tup ds) (.int n)) Q:=#[_,by erw[yl];rw[Qhq #[by omega,by omega,b,by simpa using a]];simp,q]
def Ic(x:Ex k S0 S)(h:∀(w:cx) (g:aE),cA w->Jm w->Ex k S0 g->Ex k S g->g.length=S.length->Q (.d w.d) g):Fn eN [.ref k] S Q:=by
 have y:Ex k S S:=by let#[a,b,c,hh]:=x.pot;show Ex.refl hh
 let kl:=x.lt
 show cc ?_
 unfold fX
 show aG (bE (cG (j8 (aw (ax L (aw (dI (aI ?_))))))))
 show Fn eG [.ref k,.int ((12:Nat):Int)] S _
 show zK y (!1) λt S1 c1 d3 e6 d4 e1 f0 l1=>?_
 dsimp only[bM,bg,bN,cP,c7,hJ]
 have e2:Ex k S (S1++ [O.lst (t.map D.str)]):=e1.app
 have a3:(S1++ [O.lst (t.map D.str)])[S1.length]?=some (.lst (t.map D.str)):=aS
 have b3:S.length<=S1.length:=by omega
 generalize (S1++ [O.lst (t.map D.str)])=S2 at e2 a3|-
 generalize S1.length=lw at a3 b3|-
 have Z:lw≠k:=by omega
 obtain⟨M,d1⟩:∃M,t[8]?=some M:=⟨_,gQe (!0)⟩
 obtain⟨K,d7⟩:∃K,t[9]?=some K:=⟨_,gQe (!0)⟩
 have Y:mi (t.map D.str) 8=some (.str M):=aQ (j:=8) (by rw[gQm,d1];rfl)
 have a1:mi (t.map D.str) 9=some (.str K):=aQ (j:=9) (by rw[gQm,d7];rfl)
 show aG (bE (b_ (dI (bO (aw (ax L (aw (dI (aI ?_)))))))))
 show bH e2 (!1) (!1) λv C hv e3 c5 _=>?_
 show jB ?_
 obtain⟨e,c3⟩:∃n:Nat,1+v=n:=#[_,L]
 rw[show(1:Int)+(v:Int)=(e:Int) by omega]
 have e5:1<=e:=by omega
 have d9:e<=4:=by omega
 let b1:=c5.keep _ _ Z a3
 show aG (EA (aw (cG (cR (aI #[by show 0<=_;decide,aw (cG (cR (aI #[by show 0<=_;decide,aI #[_,_,L,?_]])))])))))
 have e7:Ex k S (C++ [O.lst []]++ [O.lst []]):=e3.app.app
 have b0:(C++ [O.lst []]++ [O.lst []])[lw]?=some (.lst (t.map D.str)):=aZ (aZ b1)
 have a6:(C++ [O.lst []]++ [O.lst []])[C.length]?=some (.lst (([]:List Rm).map Rm.d)):=aZ aS
 have a5:(C++ [O.lst []]++ [O.lst []])[C.length+1]?=some (.lst (([]:List (List (Str×Nat)×List Rw)).map fV)):=by have:=aS (S:=C++ [O.lst []]) (o:=O.lst []);rw[show(C++ [O.lst []]).length=C.length+1 by simp] at this;show this
 show T _ [some (.ref k),some (.ref lw),some (.int e),some (.ref C.length),some (.ref (C++ [O.lst []]).length),none,none,none,none,none] _ _
 rw[show(C++ [O.lst []]).length=C.length+1 by simp]
 let d5:=e3.len
 let c2:=(gQs.mp b1).1
 generalize (C++ [O.lst []]++ [O.lst []])=S7 at e7 b0 a6 a5|-
 generalize C.length=lr at a6 a5 d5 c2|-
 show aG (fP (il (ax L #[(e:Int),L,by omega,?_])))
 show#[λj F g=>(∃b5 b6 b7 X,F= [some (.ref k),some (.ref lw),some (.int e),some (.ref lr),some (.ref (lr+1)),b5,b6,b7,X,none])/\∃m:List Rm,m.length=j/\(∀(i:Nat) (r:Rm),m[i]?=some r->t[i]?=some r.name/\LM t M K e r)/\g[lr]?=some (.lst (m.map Rm.d))/\g[lr+1]?=some (.lst (([]:List (List (Str×Nat)×List Rw)).map fV))/\g[lw]?=some (.lst (t.map D.str))/\Ex k S g,#[#[_,_,_,_,L],[],L,λi r A=>by simp at A,a6,a5,b0,e7],λ_ _ _ _=>trivial,?_,?_]
 ·rintro j d F g G ⟨⟨b5,b6,b7,X,rfl⟩,m,hrl,hrs,hR,hH,hW,ex⟩
  let#[rfl,hj]:=du G
  have y':Ex k g g:=by let#[a,b,c,hh]:=ex.pot;show Ex.refl hh
  obtain⟨nm,a9⟩:∃nm,t[j]?=some nm:=⟨_,gQe (!0)⟩
  show aR ?_
  show aG (bE (b_ (ax L (B2 (S0:=g) (n:=3) L (!1) (!1) ?_))))
  show aw (b_ (b_ (ax L (dI (jB (ax L (kX (!0) ?_)))))))
  rw[show((j:Int)+1)%(e:Int)=(((j+1)%e:Nat):Int) by push_cast;rfl]
  show aw (ax L (aw (bO (aw (ax L (aw (ax L (aI ?_))))))))
  show bH y' (!0) (!0) λu S8 hu e8 d2 _=>aI ⟨rfl,e8,λd S9 G e9 _=>?_⟩
  obtain⟨o,ho,rfl⟩:∃o:Nat,o<e/\d=.int o:=by
   erw[Qsq,QXq,or_false] at G
   rcases G with rfl|rfl|rfl
   ·show⟨_,Nat.mod_lt _ (!0),L⟩
   ·show⟨_,hj,L⟩
   ·show⟨u,by omega,L⟩
  obtain⟨s,B⟩:∃z,t[o]?=some z:=⟨_,gQe (!0)⟩
  show cE (e9.keep _ _ Z hW) (aQ (by rw[gQm,B];rfl)) ?_
  show aG (bE (cb (aw (cb (aw (dI (aw (dI (aw (ax L (aw (b_ (ax L (dI (cE (e9.keep _ _ Z hW) a1 (aw (dI (aI ⟨by show 5<=_;decide,aI ⟨by show 1<=_;decide,?_⟩⟩))))))))))))))))))
  show aG (T.mono (Q:=λo=>∃(f:Bool) (SA:aE),o=.nx [some (.ref k),some (.ref lw),some (.int e),some (.ref lr),some (.ref (lr+1)),some (.int j),some (.str s),some (.tup ((sy s K f).map Rw.d)),X,none] SA/\Ex k g SA) ?_ ?_)
  ·show fE (bZ (b_ (bO (aw (ax L (aw (dI (aI ?_))))))))
   show bH e9 (!1) (!1) λv SA hv eA e4 _=>?_
   show dI (fU ?_)
   show bD (λc=>?_) (λc=>?_)
   ·show bE (b_ (ax L (cb (aw (cb (aw (dI (aw (dI (aI ⟨by show 2<=_;decide,aI ⟨by show 1<=_;decide,?_⟩⟩))))))))))
    show dN (by show 2<=_;decide) ⟨true,SA,L,eA⟩
   ·show dg ⟨false,SA,L,eA⟩
  rintro _ ⟨f,SA,rfl,eA⟩
  dsimp only[bM,bg,bN,cP,c7,hJ]
  show aG (bE (dR (n:=2) (xs:= [.str "at once",.str "when free"]) L eA (!1) (!1) L (by symm;show⟨rfl,L⟩) λd SB G N _ _=>?_))
  obtain⟨W,a2,rfl⟩:∃W:Str,(W="at once" \/W="when free")/\d=.str W:=by
   erw[Qsq,QXq,or_false] at G
   rcases G with rfl|rfl
   ·show#[_,.inl L,L]
   ·show#[_,.inr L,L]
  let P:=N.keep _ _ Z hW
  let a4:=N.keep _ _ (!0) hR
  show kE (wN (ax L #[_,_,L,a4,?_]))
  show aw (cb (aw (b_ (ax L (ax L (cE P (aQ (by rw[gQm,a9];rfl)) ?_))))))
  show aw (ax L (aw (cb (aI #[by show 0<=_;decide,aw (cb (aI #[by show 0<=_;decide,?_]))]))))
  show aw (cb (aw (cb (aw (b_ (ax L (dI (cE P Y (aw (ax L (aI #[by show 2<=_;decide,?_])))))))))))
  show aw (cb (aw (b_ (ax L (dI (cE P a1 (aw (cb (aw (cb (aw (dI (aw (dI (aI #[by show 2<=_;decide,aI #[by show 1<=_;decide,aI #[by show 2<=_;decide,aI #[by show 2<=_;decide,aI #[by show 5<=_;decide,aI ?_]]]]])))))))))))))))
  show#[_,a4,j0 (by rw[lQm];show aL (!0)) ?_]
  show#[#[_,_,_,_,L],m++ [Ao nm W M K s f],by simp[hrl],λi r' I=>?_,?_,fJ (!0) (N.keep _ _ (!0) hH),fJ (!0) P,(ex.trans N).put (!0) kl]
  ·by_cases c:i<m.length
   ·rw[QHq c] at I
    show hrs i r' I
   ·rw[QQq (!0)] at I
    have hi:i-m.length=0:=by
     have:=(gQs.mp I).1
     simp at this
     omega
    rw[hi] at I
    cases I
    have:i=m.length:=by omega
    rw[this,hrl]
    show#[a9,W,s,f,a2,#[o,ho,B],L]
  ·rw[fc a4,Qzq]
   rfl
 rintro F S8 ⟨⟨b5,b6,b7,X,rfl⟩,m,hrl,hrs,hR8,hH8,hW8,e8⟩
 rw[dF] at hrl
 have H:∀{i:Nat} {z q:Str},i<e->t[i]?=some z->(q=M\/q=K)->(z,q)∈bG m:=λ{i z q} hi hz hq=>by
  let c6:=gQe (l:=m) (i:=i) (!0)
  let#[g1,W,o,f,_,_,A]:=hrs i _ c6
  rw[hz] at g1
  rw[QdQ g1]
  show QOq.mpr ⟨m[i],List.getElem_mem _,?_⟩
  rw[A]
  erw[Ao,QDq,List.map_nil,Qsq,Prod.mk.injEq,true_and,QXq,or_false]
  show hq
 have b4:∀{i:Nat} {z:Str},i<e->t[i]?=some z->(z,M)∈bG m/\(z,K)∈bG m:=λhi hz=>⟨H hi hz (.inl L),H hi hz (.inr L)⟩
 show aG (fP (il (b_ (dI (bO (aw (ax L (aw (dI (aI ?_))))))))))
 show bH e8 (!1) (!1) λv SD hv eD a0 _=>?_
 show jB ?_
 obtain⟨nh,e0⟩:∃n:Nat,1+v=n:=#[_,L]
 rw[show(1:Int)+(v:Int)=(nh:Int) by omega]
 show#[(nh:Int),L,by omega,?_]
 show#[λj F g=>(∃b5 b6 b7 X b9,F= [some (.ref k),some (.ref lw),some (.int e),some (.ref lr),some (.ref (lr+1)),b5,b6,b7,X,b9])/\∃J:List (List (Str×Nat)×List Rw),J.length=j/\(∀p∈J,xN (bG m) [] [] p)/\g[lr+1]?=some (.lst (J.map fV))/\g[lr]?=some (.lst (m.map Rm.d))/\g[lw]?=some (.lst (t.map D.str))/\Ex k S g,#[#[_,_,_,_,_,L],[],L,λ_ h=>(nomatch h),a0.keep _ _ (!0) hH8,a0.keep _ _ (!0) hR8,a0.keep _ _ Z hW8,eD],λ_ _ _ _=>trivial,?_,?_]
 ·rintro j d F g G ⟨⟨b5,b6,b7,X,b9,rfl⟩,J,hhl,hhs,hH,hR,hW,ex⟩
  let#[rfl,hj]:=du G
  have y':Ex k g g:=by let#[a,b,c,hh]:=ex.pot;show Ex.refl hh
  show aR ?_
  show aG (bE (b_ (ax L (B2 (S0:=g) (n:=2) L (!1) (!1) ?_))))
  show aw (b_ (ax L (ax L (kX (!0) ?_))))
  rw[show(j:Int)%(e:Int)=((j%e:Nat):Int) by push_cast;rfl]
  show aw (bO (aw (ax L (aw (ax L (aI ?_))))))
  show bH y' (!0) (!0) λu S8 hu e8 d2 _=>aI ⟨rfl,e8,λd S9 G e9 _=>?_⟩
  obtain⟨o,ho,rfl⟩:∃o:Nat,o<e/\d=.int o:=by
   erw[Qsq,QXq,or_false] at G
   rcases G with rfl|rfl
   ·show⟨_,Nat.mod_lt _ (!0),L⟩
   ·show⟨u,by omega,L⟩
  obtain⟨s,B⟩:∃z,t[o]?=some z:=⟨_,gQe (!0)⟩
  let R:=e9.keep _ _ Z hW
  show cE R (aQ (by rw[gQm,B];rfl)) ?_
  show aG (bE (cb (aw (cb (aw (dI (aw (dI (aw (ax L (aw ?_)))))))))))
  show dR (n:=3) (xs:= [.str M,.str M,.str K]) L e9 (!1) (!1) L (aw (b_ (ax L (dI (cE R Y (aw (b_ (ax L (dI (cE R Y (aw (b_ (ax L (dI (cE R a1 (aI ⟨rfl,L⟩)))))))))))))))) λd SA G eA _ _=>?_
  obtain⟨U,c4,rfl⟩:∃U:Str,(U=M\/U=K)/\d=.str U:=by
   erw[Qsq,QXq,or_false] at G
   rcases G with rfl|rfl|rfl
   ·show⟨_,.inl L,L⟩
   ·show⟨_,.inl L,L⟩
   ·show⟨_,.inr L,L⟩
  show aw (dI (aI ⟨by show 5<=_;decide,aI ⟨by show 1<=_;decide,?_⟩⟩))
  let c9:=eA.keep _ _ (!0) hH
  show kE (wN (ax L ⟨_,_,L,c9,?_⟩))
  show aw (cb (aw (cb (aI ⟨by show 0<=_;decide,?_⟩))))
  show aw (b_ (ax L (b_ (dI (Mj (aw (b_ (bO (aw (ax L (aw (dI (aI ?_)))))))))))))
  show bH eA (!1) (!1) λv SB hv N d8 _=>?_
  show dI (fU (aI (rX (jB ?_))))
  obtain⟨n,b2,d6,en⟩:∃n:Nat,1<=n/\n<=2/\(1:Int)+(if decide ((v:Int)=0)=true then 1 else 0)=n:=by
   by_cases c:(v:Int)=0
   ·show#[2,by omega,by omega,by rw[Qhq (by simpa using c)];rfl]
   ·show#[1,by omega,by omega,by rw[Quq (by simpa using c)];rfl]
  rw[en]
  show Ln (by simp) (by show 1*n<=sizeLine;rw[Nat.one_mul];show nQl (aL (!0))) (!0) ?_
  show aI #[by show 2<=_;decide,aI ?_]
  let a7:=N.keep _ _ (!0) hH
  show#[_,a7,j0 (by rw[lQm];show aL (!0)) ?_]
  have er:(List.replicate n [(Rw.do_ none s U (.num 0)).d]).flatten=(List.replicate n (Rw.do_ none s U (.num 0))).map Rw.d:=by
   rw[QlQ]
   clear en b2 d6
   induction n with
   |zero=>rfl
   |succ n ih=>erw[QNq,List.flatten_cons,ih];rfl
  show#[#[_,_,_,_,_,L],J++ [([],List.replicate n (.do_ none s U (.num 0)))],by simp[hhl],λq hq=>?_,?_,fJ (!0) (N.keep _ _ (!0) hR),fJ (!0) (N.keep _ _ Z hW),(ex.trans N).put (!0) kl]
  ·rcases mQa.mp hq with hq|hq
   ·show hhs q hq
   ·rw[Qfq.mp hq]
    show#[λ_ h=>(nomatch h),Nat.zero_le _,by show(List.replicate n _).length<=9;rw[QIq];omega,by show 0<(List.replicate n _).length;rw[QIq];omega,λr A=>?_]
    rw[(List.mem_replicate.mp A).2]
    show#[λ_ z=>(nomatch z),H ho B c4,Nat.zero_le _,by decide]
  ·rw[fc a7,Qzq]
   show some (O.lst (J.map fV++ [.tup [.tup [],.tup (List.replicate n [(Rw.do_ none s U (.num 0)).d]).flatten]]))=_
   rw[er]
   rfl
 rintro F SE ⟨⟨b5,b6,b7,X,b9,rfl⟩,J,hhl,hhs,hH,hR,hW,eE⟩
 rw[dF] at hhl
 have a8:cA ⟨m,[],[],J⟩:=by
  show#[names_nodup c1 λi r A=>(hrs i r A).1,by show m.length<=4;omega,Nat.zero_le _,Nat.zero_le _,by show J.length<=4;omega,by show 0<J.length;omega,λ_ h=>(nomatch h),λ_ h=>(nomatch h),λr A=>?_,hhs]
  let#[i,hi]:=List.getElem?_of_mem A
  obtain⟨-,W,o,f,a2,⟨i',c0,ho⟩,er⟩:=hrs i r hi
  rw[er]
  show#[a2,λ_ h=>(nomatch h),Nat.zero_le _,Nat.zero_le _,by show 2<=6;omega,λ_ h=>(nomatch h),λp hp=>?_]
  rcases Qsq.mp hp with rfl|hp
  ·show#[λr A=>?_,by cases f <;>simp[sy]]
   rcases Qsq.mp A with rfl|A
   ·show#[λ_ z=>(nomatch z),H c0 ho (.inr L),Nat.zero_le _,by decide]
   ·cases f with
    |true=>rw[Qfq.mp A];show#[L,by show 1<=9;omega,by decide]
    |false=>show(nomatch A)
  ·rw[Qfq.mp hp]
   show#[λr A=>?_,by show 1<=12;omega]
   rw[Qfq.mp A]
   show#[L,by show 2<=9;omega,by decide]
 show dM (cb (aw (eS (d_ (bQ (ax L (bF hR #[L,?_])))))))
 show aw (cb (aI #[by show 0<=_;decide,aw (cb (aI #[by show 0<=_;decide,aw (eS (d_ (bQ (ax L (bF hH #[L,?_])))))]))]))
 show aI #[by show 4<=_;decide,?_]
 show qS eE kl (λk z=>(nomatch z)) (eL (cx.low #[m,[],[],J])) λa b c=>?_
 show h #[m,[],[],J] _ a8 (vA d3 d4 λi r A=>(hrs i r A).1) x.set y.set (by simp)
def Dt(x:Ex k S0 S)(h:∀(w:cx) (e:aE),cA w->Jm w->Ex k S0 e->Ex k S e->e.length=S.length->Q (.d w.d) e):Fn fI [.ref k] S Q:=by
 have y:Ex k S S:=by let#[a,b,c,p]:=x.pot;show Ex.refl p
 let j:=x.lt
 show cc ?_
 unfold jW
 show aG (fE (bZ (b_ (bO (aw (ax L (aw (dI (aI ?_)))))))))
 show bH y (!1) (!1) λv B r i t A=>?_
 show dI (fU ?_)
 show bD (λc=>?_) (λc=>?_)
 ·show dM (bO (aw (ax L (aw (b_ (dI (bO (aw (ax L (aw (dI (aI ?_))))))))))))
  show bH i (!1) (!1) λv u r m l C=>?_
  show jB (aI ?_)
  rw[show(1:Int)+(v:Int)=((1+v:Nat):Int) by omega]
  show Fh m (!0) (!0) λw q o s f g n=>?_
  show qS f j (λk z=>(nomatch z)) (eL (cx.low w)) λa b c=>h w _ o s x.set y.set (by simp)
 ·show dg (dM (bO (aw (ax L (aI ?_)))))
  show Ic i λw q o s f g n=>?_
  show qS f j (λk z=>(nomatch z)) (eL (cx.low w)) λa b c=>h w _ o s x.set y.set (by simp)
end
noncomputable def ent(p:Rm×cC):List (Int×Str×Int):=p.2.row.map λh=>(h,p.1.name,p.2.within)
noncomputable def ents(w:cx)(s:aU):List (Int×Str×Int):=(w.aj.zip s.aj).flatMap ent
noncomputable def HR(e:Int×Str×Int):Key×D:=(.inl e.1,.tup [.str e.2.1,.int e.2.2])
noncomputable def nx(w:cx)(s:aU)(h:Nat):Option (Int×Str×Int):=(ents w s).find? λe=>decide (e.1=(h:Int))
noncomputable def Ab(w:cx)(s:aU)(h:Nat):Option Nat:=(nx w s h).map λe=>e.2.2.toNat
noncomputable def G3(w:cx)(s:aU)(h:Nat):Str:=((nx w s h).map λe=>e.2.1).getD ""
section
variable{w:cx}{n h:Nat}{s:aU}{S:aE}{Q:Res->aE->Prop}
theorem zip_rows:∀{a:List Rm} {b:List cC},b.length=a.length->((a.zip b).flatMap ent).map (·.1)=b.flatMap (·.row)
 | [],[],_=>rfl
 | x::a,y::b,h=>by
   rw[List.zip_cons_cons,QSq,Qzq,zip_rows (a:=a) (b:=b) (by simpa using h),QSq]
   congr 1
   show(y.row.map _).map _=_
   rw[QPq]
   show List.map_id' _
 | [],_::_,h=>by simp at h
 |_::_,[],h=>by simp at h
theorem yt{α b:Type}{f g:α->List b}(h:∀a,(f a).Sublist (g a)):∀l:List α,(l.flatMap f).Sublist (l.flatMap g)
 | []=>QjQ _
 |a::l=>by rw[QSq,QSq];show(h a).append (yt h l)
def wR(x:cN w n s)(a:k0 w s):((ents w s).map (·.1)).Nodup:=by
 unfold ents
 rw[zip_rows x.lr.symm]
 show(Q2.nd a).sublist ?_
 show(yt (g:=aO) (λr=>?_) s.aj).trans (List.sublist_append_right _ _)
 unfold aO
 rw[Qvq]
 show List.sublist_append_left _ _
def lX(x:cN w n s)(d:k0 w s){e:Int×Str×Int}(he:e∈ents w s):(∃g:Nat,e.1=g/\g<s.af.length)/\∃g:Nat,e.2.2=g/\g<s.af.length:=by
 let#[p,f,j]:=QOq.mp he
 let#[y,a,rfl]:=Qkq.mp j
 let#[i,l]:=List.getElem?_of_mem f
 let#[m,b]:=List.getElem?_zip_eq_some.mp l
 show#[?_,?_]
 ·show Q2.hv d y (mQa.mpr (.inr (QOq.mpr #[p.2,mQg b,?_])))
  unfold aO
  show mQa.mpr (.inl (mQa.mpr (.inl a)))
 ·rcases Q2.r2 d i p.2 b with c|⟨g,k,hl,_⟩
  ·have:=(Q2.r1 d i p.2 b c).1
   rw[this] at a
   cases a
  ·show#[g,k,hl]
def iY{e:Int×Str×Int}(a:nx w s h=some e):e∈ents w s/\e.1=(h:Int):=by
 unfold nx at a
 show#[List.mem_of_find?_eq_some a,by simpa using List.find?_some a]
def B8(a:nx w s h=none){e:Int×Str×Int}(he:e∈ents w s):e.1≠(h:Int):=by
 unfold nx at a
 have:=List.find?_eq_none.mp a e he
 simpa using this
def Lw(x:cN w n s)(d:k0 w s){v:Nat}(a:Ab w s h=some v):h<s.af.length/\v<s.af.length:=by
 unfold Ab at a
 let#[e,b,rfl]:=oQm.mp a
 let#[m,i]:=iY b
 let#[#[g,j,hl],k,f,c]:=lX x d m
 show#[by omega,by omega]
def zg(x:cN w n s)(d:k0 w s):(ents w s).length=((List.range s.af.length).filter λh=>(Ab w s h).isSome).length:=by
 have e:(ents w s).length=((ents w s).map λe=>e.1.toNat).length:=by rw[lQm]
 rw[e]
 show List.Perm.length_eq ((List.perm_ext_iff_of_nodup ?_ ?_).mpr λa=>?_)
 ·rw[List.nodup_iff_pairwise_ne,List.pairwise_map]
  let i:=wR x d
  rw[List.nodup_iff_pairwise_ne,List.pairwise_map] at i
  show List.Pairwise.imp_of_mem (λ{a b} ha hb ne z=>?_) i
  let#[#[g,j,_],_]:=lX x d ha
  let#[#[p,l,_],_]:=lX x d hb
  show ne (!0)
 ·show List.nodup_range.filter _
 ·rw[Qkq,List.mem_filter,List.mem_range]
  constructor
  ·rintro⟨e,c,rfl⟩
   let#[#[g,j,hl],_]:=lX x d c
   show#[by omega,?_]
   unfold Ab
   rw[Option.isSome_map]
   cases k:nx w s e.1.toNat with
   |some _=>rfl
   |none=>show absurd (!0) (B8 k c)
  ·rintro⟨hl,f⟩
   unfold Ab at f
   rw[Option.isSome_map,Option.isSome_iff_exists] at f
   let#[e,c]:=f
   let#[m,o]:=iY c
   show#[e,m,by omega]
noncomputable def AL(w:cx)(s:aU)(f:Nat):Option (List Nat):=Rg.way (Ab w s) (ents w s).length f
def GA(o:cA w)(x:cN w n s)(a:k0 w s):(∀f,f<s.af.length->Rg.DF (Ab w s) f s.af.length f []=AL w s f/\∀l,AL w s f=some l->l.head? =some f/\(∀h∈l,h<s.af.length)/\l.length<=4)/\((List.range s.af.length).flatMap λf=>(AL w s f).getD []).Nodup:=
 Rg.IH (by have:=o.l0;have:=x.lh;omega) (by have:=o.l4;have:=x.lh;omega) (λh v e=>Lw x a e) (zg x a)
def BZ(o:cA w)(x:cN w n s)(a:k0 w s):(ents w s).length<=4:=by
 rw[zg x a]
 show QAq (List.length_filter_le _ _) ?_
 rw[QVq]
 have:=o.l4
 have:=x.lh
 omega
def HH{l:List (Int×Str×Int)}{e:Int×Str×Int}(h:e.1∉l.map (·.1)):putD (l.map HR) (.inl e.1) (.tup [.str e.2.1,.int e.2.2])=(l++ [e]).map HR:=by
 unfold putD
 rw[Quq]
 ·rw[Qzq]
  rfl
 ·rw[List.any_map]
  intro z
  let#[a,c,b]:=List.any_eq_true.mp z
  have b:(Sum.inl a.1:Key)=.inl e.1:=QZq b
  show h (Qkq.mpr #[a,c,Sum.inl.inj b])
def CP{l:List (Int×Str×Int)}{k:Int}:jk (l.map HR) (.inl k)=(l.find? λe=>decide (e.1=k)).map λe=>.tup [.str e.2.1,.int e.2.2]:=by
 unfold jk
 rw[List.find?_map,Option.map_map]
 have:((λa:Key×D=>decide (a.1=Sum.inl k))∘HR)=λe=>decide (e.1=k):=by
  funext e
  show decide ((Sum.inl e.1:Key)=Sum.inl k)=_
  simp
 rw[this]
 rfl
end
section
variable{w:cx}{n h:Nat}{s:aU}{S:aE}{Q:Res->aE->Prop}
def FE(o:cA w)(x:cN w n s)(N:k0 w s)(q:Q (.d (.ref S.length)) (S++ [.dct ((ents w s).map HR)])):Fn g8 [w.d,s.d] S Q:=by
 let X:=o.l1
 let Y:=x.lr
 let C:=wR x N
 let J:=BZ o x N
 show Mc ?_
 unfold jS
 show aG (bE (NY ?_))
 apply aG (fP (ED ?_))
 show aB L ?_
 apply df (ds:=w.aj.map Rm.d) ?_
 show aB L ?_
 show df (ds:=s.aj.map cC.d) ?_
 show#[#[trivial,by erw[lQm];omega],?_]
 rw[zip_map]
 show#[λj l t=>(∃a b c d e f g,l= [some w.d,some s.d,some (.ref S.length),a,b,c,d,e,f,g])/\t=S++ [.dct ((((w.aj.zip s.aj).take j).flatMap ent).map HR)],#[#[_,_,_,_,_,_,_,L],L],λ_ _ _ _=>#[trivial,trivial],?_,?_]
 ·rintro j d l t u ⟨⟨a,b,c,P,e,f,g,rfl⟩,rfl⟩
  rw[gQm] at u
  let#[p,R,rfl]:=oQm.mp u
  have v:(w.aj.zip s.aj).take (j+1)=(w.aj.zip s.aj).take j++ [p]:=by rw[QYq,R];rfl
  have m:∃r,ents w s=((w.aj.zip s.aj).take j).flatMap ent++(ent p++r):=by
   show#[((w.aj.zip s.aj).drop (j+1)).flatMap ent,?_]
   unfold ents
   conv=>lhs;rw[<-List.take_append_drop (j+1) (w.aj.zip s.aj),v]
   rw[List.flatMap_append,List.flatMap_append,Qvq]
   simp
  let#[r,M]:=m
  rw[M,Qzq,Qzq] at C
  rw[M,lQa,lQa] at J
  have A:((w.aj.zip s.aj).take (j+1)).flatMap ent=((w.aj.zip s.aj).take j).flatMap ent++ent p:=by
   rw[v,List.flatMap_append]
   simp
  generalize ((w.aj.zip s.aj).take j).flatMap ent=pre at C J A|-
  show ee L (az (aR (az (ee L (az (aR (az (aR (az (aR (az (aR (az (aR (bo (bo ?_))))))))))))))))
  show fP (ja (bQ (ax L (df (ds:=p.2.row.map D.int) ?_))))
  show#[λi l t=>(∃g,l= [some w.d,some s.d,some (.ref S.length),some p.1.d,some (cy p.2.vals),some (.int p.2.within),some (cy p.2.row),some (cy p.2.ag),some (.tup (p.2.aa.map dW)),g])/\t=S++ [.dct ((pre++(ent p).take i).map HR)],#[#[_,L],by rw[List.take_zero,List.append_nil]],λ_ _ _ _=>trivial,?_,?_]
  ·rintro i d l t u ⟨⟨g,rfl⟩,rfl⟩
   rw[gQm] at u
   let#[y,K,rfl]:=oQm.mp u
   let W:=(gQs.mp K).1
   have I:(ent p)[i]?=some (y,p.1.name,p.2.within):=by unfold ent;rw[gQm,K];rfl
   have B:(ent p).length=p.2.row.length:=by unfold ent;rw[lQm]
   show aR ?_
   show Nk (cb (aw (b_ (ax L (dI (aB (d:=.str p.1.name) L (aw (ax L (aI #[by show 2<=_;decide,?_])))))))))
   show ax L (ax L #[_,_,_,L,L,aS,?_,?_])
   ·rw[lQm,lQa,Qxq]
    show aL (!0)
   ·show#[#[_,L],?_]
    have U:y∉(pre++(ent p).take i).map (·.1):=by
     rw[Qzq]
     intro z
     rcases mQa.mp z with z|z
     ·show(List.nodup_append.mp C).2.2 y z y (mQa.mpr (.inl (Qkq.mpr #[_,mQg I,L]))) L
     ·let H:=(List.nodup_append.mp (List.nodup_append.mp C).2.1).1
      rw[List.map_take] at z
      let#[k,G]:=List.getElem?_of_mem z
      let F:=(gQs.mp G).1
      rw[Qxq] at F
      rw[List.getElem?_take_of_lt (!0)] at G
      have:=iu H G (show((ent p).map (·.1))[i]?=some y by rw[gQm,I];rfl)
      omega
    rw[HH (e:=(y,p.1.name,p.2.within)) U,QYq,I,List.set_append_right _ _ (Qmq _)]
    simp
  ·rintro l t ⟨⟨g,rfl⟩,rfl⟩
   have B:(ent p).length=p.2.row.length:=by unfold ent;rw[lQm]
   show#[#[_,_,_,_,_,_,_,L],?_]
   rw[lQm,<-B,QEq,A]
 ·rintro l t ⟨⟨a,b,c,P,e,f,g,rfl⟩,rfl⟩
  rw[lQm,QEq]
  show dM (ax L ?_)
  show q
noncomputable def Bv(w:cx)(s:aU)(h:Nat):D:=.tup [.int h,.str (G3 w s h)]
noncomputable def KA(w:cx)(s:aU):Option (List Nat)->D
 |none=>.non
 |some l=>.tup (l.map (Bv w s))
def Lh(r:Option (List Nat)):cn 0 (KA w s r)=true:=by
 cases r with
 |none=>rfl
 |some l=>erw[KA,cn];show a_ λ_ _=>rfl
def Hw(o:cA w)(x:cN w n s)(J:k0 w s){k f:Nat}(I:S[k]?=some (.dct ((ents w s).map HR)))(q:Q (.d (KA w s (AL w s f))) S):Fn kh [.ref k,.int f] S Q:=by
 let X:=BZ o x J
 let F:=(gQs.mp I).1
 show cc ?_
 unfold ur
 show aG (bE (cG (cR (aI #[by show 0<=_;decide,?_]))))
 show aG (bE (ax L ?_))
 show aG (JA (λm B v=>∃(i:Nat) (j:List Nat) (a b:Option D),B= [some (.ref k),some (.int f),some (.ref S.length),some (.int i),a,b]/\l6 S v/\v[S.length]?=some (.lst (j.map (Bv w s)))/\m+j.length=4/\Rg.LR (Ab w s) (ents w s).length f (m+1) i j=AL w s f) (λm B v P=>?_) 5 4 _ _ (!1) #[f,[],_,_,L,l6.refl.app,aS,L,L])
 let#[i,j,a,b,rfl,be,hS,hm,hR]:=P
 have r:v[k]?=some (.dct ((ents w s).map HR)):=by rw[be.eq k F];show I
 have t:AL w s f=none->T (cB (cF .non)) [some (.ref k),some (.int f),some (.ref S.length),some (.int i),a,b] v (hJ S Q):=λp=>by
  show dM (dI ?_)
  rw[p] at q
  show tT be (λk z=>(nomatch z)) L q
 show kL (bZ (JP (ax L (ax L #[_,_,_,L,L,r,?_]))))
 rw[CP]
 rw[Rg.LR] at hR
 cases p:nx w s i with
 | none=>
   have C:((ents w s).find? λe=>decide (e.1=(i:Int)))=none:=p
   rw[C]
   have G:Ab w s i=none:=by unfold Ab;rw[p];rfl
   rw[G] at hR
   show t hR.symm
 | some e=>
   have C:((ents w s).find? λe=>decide (e.1=(i:Int)))=some e:=p
   have G:Ab w s i=some e.2.2.toNat:=by unfold Ab;rw[p];rfl
   let#[#[Y,N,_],g,M,W]:=lX x J (iY p).1
   have R:e.2.2.toNat=g:=by omega
   have U:G3 w s i=e.2.1:=by unfold G3;rw[p];rfl
   rw[C]
   rw[G] at hR
   dsimp only at hR
   show q5 ?_
   show if true=true then _ else _
   rw[Qhq L]
   show kL (bZ (b_ (ax L (ax L (p9 ?_)))))
   show bD (λc=>?_) (λc=>?_)
   · have c:f<=i:=by have:=QZq c;omega
     show bZ (b_ (qF (bQ (ax L (bF hS (LJ (ax L ⟨_,_,L,r,p9 ?_⟩)))))))
     rw[lQm,lQm]
     rw[show Nat.ble f i=true from Nat.ble_eq_true_of_le c,Bool.true_and] at hR
     show bD (λu=>?_) (λu=>?_)
     · have u:j.length<(ents w s).length:=by have:=QZq u;omega
       rw[show Nat.blt j.length (ents w s).length=true from Nat.ble_eq_true_of_le u,Qhq L,R] at hR
       show aG (vQ (M_ (ax L (ax L ⟨_,_,_,_,L,L,r,by rw[CP,C];rfl,?_⟩))))
       show ee L (az (aR (az (aR (bo ?_)))))
       show aG (kE (wN (ax L ⟨_,_,L,hS,aw (cb (aw (ax L (aw (ax L (aI ⟨by show 2<=_;decide,aI ?_⟩))))))⟩)))
       show⟨_,hS,j0 (by rw[lQm];show aL (!0)) ?_⟩
       have K:j.map (Bv w s)++ [.tup [.int i,.str e.2.1]]=(j++ [i]).map (Bv w s):=by rw[Qzq];show _=_++ [Bv w s i];unfold Bv;rw[U]
       rw[K]
       have A:(v.set S.length (.lst ((j++ [i]).map (Bv w s))))[S.length]?=some (.lst ((j++ [i]).map (Bv w s))):=fc hS
       show aG (fE (bZ (b_ (ax L (ax L ?_)))))
       rw[M]
       show fU ?_
       show bD (λl=>?_) (λl=>?_)
       · have l:g=f:=by have:=QZq l;omega
         subst l
         rw[show Nat.beq g g=true from Nat.beq_refl g,Qhq L] at hR
         show dM (eS (d_ (bQ (ax L (bF A ⟨rfl,?_⟩)))))
         rw[<-hR] at q
         show tT (be.put (Qmq _)) (λk z=>(nomatch z)) (Lh (w:=w) (s:=s) (some (j++ [i]))) q
       · have l:¬g=f:=λz=>by rw[z] at l;simp at l
         rw[show Nat.beq g f=false from by cases y:Nat.beq g f with|false=>rfl|true=>show absurd (Nat.eq_of_beq_eq_true y) l,Quq (!1)] at hR
         show dg (bE (ax L ?_))
         obtain⟨H,rfl⟩:∃H,m=H+1:=#[m-1,by omega]
         show#[H,L,g,j++ [i],_,_,L,be.put (Qmq _),A,by rw[lQa];simp;omega,hR]
     · have u:¬j.length<(ents w s).length:=λz=>by have:=QaQ u;omega
       rw[show Nat.blt j.length (ents w s).length=false from by cases y:Nat.blt j.length (ents w s).length with|false=>rfl|true=>show absurd (Nat.le_of_ble_eq_true y) u,Quq (!1)] at hR
       show t hR.symm
   · have c:¬f<=i:=λz=>by have:=QaQ c;omega
     rw[show Nat.ble f i=false from by cases y:Nat.ble f i with|false=>rfl|true=>show absurd (Nat.le_of_ble_eq_true y) c,Bool.false_and,Quq (!1)] at hR
     show t hR.symm
end
end W28
namespace DL
open L2
def JF{b:cv}{S:aE}{a:Bool}{f:bp}{g:d0}{Q:D->aE->Prop}(h:E f b S λx c=>E g b c λp S2=>∃v vs,my x=some v/\gy p.1=some vs/\v.depth<=60/\Q (.bl (if a then !vs.any (PyData.eqv · v) else vs.any (PyData.eqv · v))) S2):E (zR a f g) b S Q:=by
 let#[x,c,k,p,S2,i,v,vs,e,d,j,q]:=h
 show#[_,S2,by unfold zR;rw[k];erw[Qbq];rw[i];erw[Qbq];rw[e,d];erw[Qbq];rw[Qhq j],q]
def Fo(j:Nat):iG 0 (j:Int)=(List.range j).map λf:Nat=>D.int f:=by
 show List.ext_getElem? λi=>?_
 by_cases h:i<j
 ·let e:=gQe (l:=iG 0 (j:Int)) (i:=i) (by rw[dF];show h)
  let#[a,_]:=du e
  rw[e,a,gQm,List.getElem?_range h]
  rfl
 ·rw[List.getElem?_eq_none (by rw[dF];omega),List.getElem?_eq_none (by rw[lQm,QVq];omega)]
end DL
namespace W28
open L2 DL
section
variable{w:cx}{n h:Nat}{s:aU}{S:aE}{Q:Res->aE->Prop}
noncomputable def pA(w:cx)(s:aU):List (List Nat):=(List.range s.af.length).filterMap (AL w s)
noncomputable def vE(w:cx)(s:aU)(l:List Nat):D:=.tup (l.map (Bv w s))
noncomputable def Ox(w:cx)(s:aU)(f:Nat):Bool:=(AL w s f).isSome
def G6(l:List Nat):(l.filter (Ox w s)).map (λf=>KA w s (AL w s f))=(l.filterMap (AL w s)).map (vE w s):=by
 induction l with
 |nil=>rfl
 | cons f l a=>
   unfold Ox at a|-
   cases e:AL w s f with
   |none=>rw[List.filter_cons_of_neg (by rw[e];decide),List.filterMap_cons_none e,a]
   |some r=>rw[List.filter_cons_of_pos (by rw[e];rfl),List.filterMap_cons_some e,QDq,QDq,a,e];rfl
def IJ:cn 0 (.tup ((pA w s).map (vE w s)))=true:=by
 erw[cn]
 show a_ λr _=>by unfold vE;erw[cn];show a_ λ_ _=>rfl
def yO(o:cA w)(x:cN w n s)(e:k0 w s)(q:Q (.d (.tup ((pA w s).map (vE w s)))) S):Fn pE [w.d,s.d] S Q:=by
 let i:=o.l4
 let j:=x.lh
 show cc ?_
 unfold A3
 show aG (bE (bO (aw (ax L (aw (ax L (aI ?_)))))))
 show FE o x e ?_
 apply aG (bE (cG (i7 (α:=Nat) (λb=>∃a,b= [a,some (.ref S.length)]) (λf=>D.int f) (λf=>KA w s (AL w s f)) (λ_=>true) #[none,L] (il ?_))))
 show aB L ?_
 show df (ds:=s.af.map Ac) ?_
 show#[(s.af.length:Int),by rw[lQm],by omega,?_]
 show#[List.range s.af.length,Fo _,trivial,by rw[QVq];omega,λf g b c=>?_,?_]
 ·let#[a,rfl]:=c
  show aR #[L,#[_,L],fF #[L,L,λ_=>?_]]
  show bO (aw (ax L (aw (ax L (aI ?_)))))
  show Hw o x e aS #[L,L]
 ·rw[List.filter_eq_self.mpr (λ_ _=>rfl)]
  show dM (eS (je (i7 (α:=Nat) (λb=>∃a,b= [a]) (λf=>KA w s (AL w s f)) (λf=>KA w s (AL w s f)) (Ox w s) #[none,L] (ja (bQ (ax L (bF aS ?_)))))))
  show#[List.range s.af.length,L,aS,by rw[QVq];omega,λf g b c=>?_,?_]
  ·let#[a,rfl]:=c
   show aR #[L,#[_,L],?_]
   show bZ (b_ (ax L (dI (qQ ?_))))
   show#[L,?_,λ_=>ax L #[L,L]]
   unfold Ox
   cases AL w s f <;>rfl
  ·rw[G6]
   show tT (l6.refl.app.app) (λk z=>(nomatch z)) IJ ?_
   show q
end
section
variable{w:cx}{n h:Nat}{s:aU}{S:aE}{Q:Res->aE->Prop}
noncomputable def Kx(w:cx)(s:aU)(h:Nat):PyData:=.tuple [.int h,.str (G3 w s h)]
noncomputable def Jq(w:cx)(s:aU)(l:List Nat):PyData:=.tuple (l.map (Kx w s))
def LH(c:Jm w):PyData.strOk (G3 w s h)=true:=by
 unfold G3
 cases d:nx w s h with
 |none=>decide +kernel
 | some e=>
   let#[p,a,b]:=QOq.mp (iY d).1
   let#[y,_,rfl]:=Qkq.mp b
   show c.2 _ (Qkq.mpr #[p.1,(QeQ (show(p.1,p.2)∈_ from a)).1,L])
def KM(a:Jm w):my (Bv w s h)=some (Kx w s h):=by
 unfold Bv Kx
 simp[my,gy,LH a]
theorem BJ(a:Jm w):∀l:List Nat,gy (l.map (Bv w s))=some (l.map (Kx w s))/\PyData.depthAll (l.map (Kx w s))<=3
 | []=>#[L,by simp[PyData.depthAll]]
 | h::l=>by
   let#[b,c]:=BJ a l
   show#[by erw[QDq,gy];rw[KM a,b];rfl,?_]
   erw[QDq,PyData.depthAll]
   have:(Kx w s h).depth<=3:=by simp[Kx,PyData.depth,PyData.depthAll]
   omega
def Gc(b:Jm w)(l:List Nat):my (vE w s l)=some (Jq w s l)/\(Jq w s l).depth<=60:=by
 let#[a,c]:=BJ (s:=s) b l
 show#[by unfold vE Jq;erw[my];rw[a];rfl,?_]
 unfold Jq
 erw[PyData.depth]
 omega
theorem CM(a:Jm w):∀l:List (List Nat),gy (l.map (vE w s))=some (l.map (Jq w s))
 | []=>rfl
 |r::l=>by erw[QDq,gy];rw[(Gc a r).1,CM a l];rfl
end
end W28
namespace Rg
theorem w4{g:Nat->Option Nat}{f:Nat}:∀{k h:Nat} {r l:List Nat},DF g f k h r=some l->r++ [h] <+: l
 |0,h,r,l,e=>by cases e
 | k+1,h,r,l,e=>by
   rw[DF] at e
   cases a:g h with
   |none=>rw[a] at e;cases e
   | some v=>
     rw[a] at e
     dsimp only at e
     split at e
     · cases e;show List.prefix_refl _
     · show(List.prefix_append _ _).trans (w4 e)
theorem yp{g:Nat->Option Nat}{f:Nat}:∀{k h:Nat} {r l:List Nat},DF g f k h r=some l->f∈r++ [h]->∀x∈l,x∈r\/∃v,g x=some v/\v∈l
 |0,h,r,l,e,_,_,_=>by cases e
 | k+1,h,r,l,e,hf,x,a=>by
   rw[DF] at e
   cases b:g h with
   |none=>rw[b] at e;cases e
   | some v=>
     rw[b] at e
     dsimp only at e
     split at e
     · rename_i c
       cases e
       rw[QCq] at c
       have:v=f:=Nat.eq_of_beq_eq_true c.1
       rcases mQa.mp a with a|a
       · show .inl a
       · rw[Qfq.mp a]
         show .inr #[v,b,by rw[this];show hf]
     · rcases yp e (mQa.mpr (.inl hf)) x a with a|a
       · rcases mQa.mp a with a|a
         · show .inl a
         · rw[Qfq.mp a]
           show .inr #[v,b,(w4 e).subset (by simp)]
       · show .inr a
theorem vw{g g':Nat->Option Nat}{f:Nat}:∀{k h:Nat} {r l:List Nat},DF g f k h r=some l->(∀x∈l,g' x=g x)->DF g' f k h r=some l
 |0,h,r,l,e,_=>by cases e
 | k+1,h,r,l,e,ha=>by
   let b:=ha h ((w4 e).subset (by simp))
   rw[DF] at e|-
   rw[b]
   cases a:g h with
   |none=>rw[a] at e;cases e
   | some v=>
     rw[a] at e
     dsimp only at e|-
     split
     · rename_i c;rw[Qhq c] at e;show e
     · rename_i c;rw[Quq c] at e;show vw e ha
end Rg
namespace W28
open L2 DL
section
variable{w:cx}{n m h:Nat}{s s':aU}{S:aE}{Q:Res->aE->Prop}
def KR(w:cx)(s s':aU):Prop:=∀l∈pA w s,l∈pA w s'/\∀g∈l,G3 w s' g=G3 w s g/\(g:Int)∈held s'
def yX{e:Int×Str×Int}(he:e∈ents w s):e.1∈held s:=by
 let#[p,a,b]:=QOq.mp he
 let#[y,c,rfl]:=Qkq.mp b
 show mQa.mpr (.inr (QOq.mpr #[p.2,(QeQ (show(p.1,p.2)∈_ from a)).2,?_]))
 unfold aO
 show mQa.mpr (.inl (mQa.mpr (.inl c)))
def Nl(x:cN w n s)(l:k0 w s){e:Int×Str×Int}{g:Nat}(he:e∈ents w s)(c:e.1=(g:Int)):nx w s g=some e:=by
 cases f:nx w s g with
 |none=>show absurd c (B8 f he)
 | some p=>
   let#[o,k]:=iY f
   let#[i,d]:=List.getElem?_of_mem he
   let#[j,b]:=List.getElem?_of_mem o
   have:i=j:=iu (wR x l) (a:=e.1) (by rw[gQm,d];rfl) (by rw[gQm,b,c,<-k];rfl)
   subst this
   rw[d] at b
   cases b
   rfl
def BB(o:cA w)(x:Gd w n s){l:List Nat}(hl:l∈pA w s):∃f,f<s.af.length/\Rg.DF (Ab w s) f s.af.length f []=some l/\∀g∈l,∃e,nx w s g=some e/\(g:Int)∈held s/\∃v∈l,e.2.2=(v:Int):=by
 let#[f,c,e]:=List.mem_filterMap.mp hl
 let c:=List.mem_range.mp c
 let a:=((GA o x.1 x.2).1 f c).1
 rw[e] at a
 show#[f,c,a,λg q=>?_]
 rcases Rg.yp a (by simp) g q with z|⟨v,k,d⟩
 ·cases z
 ·unfold Ab at k
  let#[r,b,rfl]:=oQm.mp k
  let#[j,p]:=iY b
  let#[_,t,i,_]:=lX x.1 x.2 j
  show#[r,b,by rw[<-p];show yX j,_,d,?_]
  rw[i]
  rfl
def KR.refl(o:cA w)(x:Gd w n s):KR w s s:=λl hl=>⟨hl,λg c=>by
 let#[f,_,_,b]:=BB o x hl
 let#[e,_,a,_]:=b g c
 show#[L,a]⟩
def Je(o:cA w)(x:Gd w n s)(y:Gd w m s')(hm:h∈mB w s)(A:Kp h s s'):KR w s s':=λl hl=>by
 let#[f,hf,k,N]:=BB o x hl
 have r:(h:Int)∉held s:=by
  let R:=(List.mem_filter.mp hm).2
  rw[QCq] at R
  intro z
  have:=R.1
  rw[Qeq z] at this
  cases this
 have b:∀g∈l,∃e,nx w s g=some e/\nx w s' g=some e:=λg q=>by
  let#[e,W,_,v,hv,H]:=N g q
  let#[_,_,G,_]:=N v hv
  have a0:v≠h:=λz=>r (z▸G)
  let#[me,Z]:=iY W
  let#[p,hp,C]:=QOq.mp me
  let#[U,u,K]:=Qkq.mp C
  let#[i,hi]:=List.getElem?_of_mem hp
  let#[i1,M]:=List.getElem?_zip_eq_some.mp hi
  let I:=(gQs.mp M).1
  obtain⟨a,j⟩:∃a,s'.aj[i]?=some a:=#[_,gQe (by rw[A.2.1];show I)]
  have P:p.2.within=(v:Int):=by rw[<-H,<-K]
  let#[X,d]:=A.2.2 i p.2 a M j (by rw[P];omega) (by rw[P];omega)
  have F:e∈ents w s':=by
   show QOq.mpr #[(p.1,a),mQg (i:=i) (List.getElem?_zip_eq_some.mpr #[i1,j]),Qkq.mpr #[U,?_,?_]]
   ·rcases d with d|d
    ·rw[show(p.1,a).2.row=a.row from L,d];show u
    ·rw[show(p.1,a).2.row=a.row from L,d];show mQa.mpr (.inl u)
   ·rw[<-K]
    show(U,p.1.name,a.within)=_
    rw[X]
  show#[e,W,Nl y.1 y.2 F Z]
 have c:Rg.DF (Ab w s') f s'.af.length f []=some l:=by
  rw[A.1]
  show Rg.vw k λg q=>?_
  let#[e,J,B]:=b g q
  unfold Ab
  rw[J,B]
 have t:f<s'.af.length:=by rw[A.1];show hf
 show#[List.mem_filterMap.mpr #[f,List.mem_range.mpr t,by rw[<-((GA o y.1 y.2).1 f t).1];show c],λg q=>?_]
 let#[e,J,B]:=b g q
 let#[Y,d]:=iY B
 show#[by unfold G3;rw[J,B],by rw[<-d];show yX Y]
def KR.trans{d b:aU}(x:KR w s d)(y:KR w d b):KR w s b:=λl hl=>by
 let#[f,e]:=x l hl
 let#[i,c]:=y l f
 show#[i,λg a=>#[(c g a).1.trans (e g a).1,(c g a).2]]
def KR.all(o:cA w)(x:Gd w n s){N:Nat}(j:N<=800)(i:∀s',Rc w s s'->Gd w N s')(r:Rc w s s'):KR w s s':=by
 induction r with
 |refl=>show KR.refl o x
 | step g a f=>
   let b:=i _ g
   let#[d,h,c,e]:=b.nx o j a
   show f.trans (Je o b d c e)
def KR.told(x:KR w s s'):∀l∈pA w s,vE w s l=vE w s' l/\l∈pA w s':=λl hl=>by
 let#[b,a]:=x l hl
 show#[?_,b]
 unfold vE
 congr 1
 show List.map_congr_left λg c=>?_
 unfold Bv
 rw[(a g c).1]
noncomputable def JK(w:cx)(s:aU):List Int:=(pA w s).flatten.map λh:Nat=>(h:Int)
def KR.af(x:KR w s s'):∀y∈JK w s,y∈held s':=λy b=>by
 let#[g,c,rfl]:=Qkq.mp b
 let#[l,hl,a]:=List.mem_flatten.mp c
 show((x l hl).2 g a).2
def Hl(b:h∈mB w s):(h:Int)∉held s:=by
 let a:=(List.mem_filter.mp b).2
 rw[QCq] at a
 intro z
 have:=a.1
 rw[Qeq z] at this
 cases this
end
end W28
namespace DL
open L2
theorem y6:∀l:List Int,gy (l.map D.int)=some (l.map PyData.int)
 | []=>rfl
 |a::l=>by erw[QDq,gy,my];rw[y6 l];rfl
theorem any_ints(y:Int):∀l:List Int,(l.map PyData.int).any (PyData.eqv · (.int y))=decide (y∈l)
 | []=>by simp
 | a::l=>by
   rw[QDq,List.any_cons,any_ints y l]
   by_cases c:a=y
   · subst c;simp[PyData.eqv]
   · have:¬y=a:=λz=>c z.symm
     simp[PyData.eqv,c,this]
def GI{a:cv}{S:aE}{f:bp}{g:d0}{Q:D->aE->Prop}(h:E f a S λx b=>E g a b λp S2=>∃(y:Int) (l:List Int),x=.int y/\p.1=l.map D.int/\Q (.bl (decide (y∈l))) S2):E (zR false f g) a S Q:=by
 show JF (h.mono λx b h=>h.mono λp S2 d=>?_)
 let#[y,l,c,e,q]:=d
 subst c
 show#[.int y,l.map PyData.int,L,by rw[e];show y6 l,by simp[PyData.depth],?_]
 rw[any_ints]
 show q
end DL
namespace W28
open L2 DL
def CI{c:cv}{S S0:aE}{k i u v:Nat}{xs:List D}{Q:D->aE->Prop}(l:c[u]?=some (some (.ref k)))(f:c[v]?=some (some (.ref i)))(x:Ex k S0 S)(hi:i≠k)(g:S[i]?=some (.lst xs))(o:0<xs.length)(p:xs.length<1000)
  (h:∀(d:D) (b:aE),d∈xs->Ex k S0 b->Ex k S b->Q d b):E (bf kc (au v) (aA ay (ar (au u) (ar (et (aP (au v))) av)))) c S Q:=by
 show b_ (ax f (bO (aw (ax l (aw (qF (bQ (ax f (bF g (aI ?_))))))))))
 show bH x (by show(0:Int)<xs.length;omega) (by show(xs.length:Int)<1000000;omega) λd b j n e m=>?_
 have a:d<xs.length:=by have:(d:Int)<(xs.length:Int):=j;omega
 show cE (e.keep _ _ hi g) (aQ (gQe a)) ?_
 show h _ _ (List.getElem_mem a) n e
def Gb{w:cx}(o:cA w):Gd w 1 (bU w):=#[DC o,k0.begun o]
def Hx{w:cx}{S S0:aE}{k m:Nat}{Q:Res->aE->Prop}(o:cA w)(x:Ex k S0 S)(W:m<=40)(q:∀(f:List D) (s:aU) (g:aE),Gd w (1+m) s->Ex k S0 g->Q (.d (.tup [.tup f,s.d])) g):Fn jU [.ref k,w.d,.int m] S Q:=by
 have y:Ex k S S:=by let#[a,b,c,H]:=x.pot;show Ex.refl H
 let B:=x.lt
 show cc ?_
 unfold nT
 show aG (EA (aw (bO (aw (ax L (aI ?_))))))
 show Eu o ?_
 show aw (cG (cR (aI #[by show 0<=_;decide,aI #[_,_,L,?_]])))
 show aG (fP (il (ax L #[_,L,by omega,?_])))
 show#[λj l g=>∃(s:aU) (f:List Nat) (v A t p:Option D),l= [some (.ref k),some w.d,some (.int m),some s.d,some (.ref S.length),v,A,t,p]/\Gd w (1+j) s/\Ex k S g/\g[S.length]?=some (.lst (f.map Gp))/\f.length<=j,#[bU w,[],_,_,_,_,L,Gb o,y.app,aS,Qmq _],λ_ _ _ _=>trivial,?_,?_]
 ·rintro j d l g n ⟨s,f,v,A,t,p,rfl,gd,ex,hS,hl⟩
  let#[rfl,hj]:=du n
  let M:=ex.len
  show aR ?_
  show aG (bE (cG (j8 (aw (ax L (aw (ax L (aI ?_))))))))
  show zZ o gd (!0) λe J u=>?_
  show fE (bZ (wU (bQ (ax L (bF aS #[#[L,aS],?_])))))
  let C:=(gQs.mp hS).1
  cases e with
  | nil=>
    show q5 ?_
    show bD (λc=>by cases c) (λ_=>dg ?_)
    show#[s,f,_,_,_,_,L,gd.mono (!0),ex.app,aZ hS,by omega]
  | cons F e=>
    show q5 ?_
    show bD (λ_=>?_) (λc=>by cases c)
    show aG (vQ (CI (k:=k) (i:=g.length) (xs:=(F::e).map EG) L L ex.app (!0) aS (by rw[lQm];simp) (by rw[lQm];omega) λd P n N G=>?_))
    let#[r,I,rfl]:=Qkq.mp n
    let#[U,R,K]:=u r I
    have h:P[S.length]?=some (.lst (f.map Gp)):=G.keep _ _ (!0) (aZ hS)
    show ee L (az (aR (az (aR (az (aR (bo ?_)))))))
    show kE (wN (ax L #[_,_,L,h,aw (ax L (aI ?_))]))
    show#[_,h,j0 (by rw[lQm];show aL (!0)) ?_]
    show#[r.2.1,f++ [r.1],_,_,_,_,L,K.mono (!0),N.put (Qmq _) B,?_,by rw[lQa];simp;omega]
    rw[fc h,Qzq]
    rfl
 ·rintro l g ⟨s,f,v,A,t,p,rfl,gd,ex,hS,hl⟩
  rw[dF] at gd
  show dM (cb (aw (eS (d_ (bQ (ax L (bF hS #[L,aw (ax L (aI #[by show 2<=_;decide,?_]))])))))))
  show qS ex B (λk z=>(nomatch z)) (eL ?_) λa b c=>q _ s _ gd x.set
  erw[cn,bP,aU.low,Bool.and_true]
  show a_ λ_ _=>rfl
noncomputable def qE:Option (List Int)->D
 |none=>.non
 |some g=>cy g
def NT(w:cx)(n:Nat)(s:aU)(most:Nat):Option (List Int)->Prop
 |some g=>Mz w s g/\g.length<=4/\(∃b:List aU,b.Nodup/\b.length<=most/\∀a,Rc w s a->a∈b)/\∀a,Rc w s a->Gd w (n+most) a
 |none=>∃b:List aU,b.Nodup/\most<b.length/\∀a∈b,Rc w s a
def yy{w:cx}{n:Nat}{s:aU}{S:aE}{Q:Res->aE->Prop}(o:cA w)(x:Gd w n s)(j:n<=300){most:Nat}(b:most<=400)(q:∀a,NT w n s most a->Q (.d (qE a)) S):Fn vz [w.d,s.d,.int most] S Q:=
 Ii o x j b (λg f c i e=>q (some g) #[f,c,i,e]) λh=>q none h
def yj{d:cv}{S:aE}{v:Nat}{e:d0}{l g:List Int}{Q:D->aE->Prop}(o:mE [none,some v] d= [none,some (cy g)])(j:E e d S λp f=>f=S/\p.1=l.map D.int/\p.2.stays S p.1)(hl:l.length<=1000)(h:∀y∈l,y∈g)(q:Q (.bl true) S):
  E (uJ (fg (bx [none,some v] (gQ e) (bB 0) bI (zR false (au 0) (aP (au 1)))))) d S Q:=by
 show Jl (je (i7 (α:=Int) (λb=>∃a,b= [a,some (cy g)]) D.int (λ_=>.bl true) (λ_=>true) #[none,o] (ja (j.mono λp f m=>?_))))
 let#[n,i,r]:=m
 subst n
 show#[l,i,r,hl,λy k b c=>?_,?_]
 ·let#[a,rfl]:=c
  show aR #[L,#[_,L],fF #[L,L,λ_=>?_]]
  show GI (ax L (bQ (ax L (df (ds:=g.map D.int) #[y,g,L,L,?_,L]))))
  rw[Qeq (h y k)]
 ·show#[L,List.replicate l.length true,?_,?_]
  ·rw[<-rV]
   congr 1
   rw[List.filter_eq_self.mpr (λ_ _=>rfl),List.map_const']
  ·have:(List.replicate l.length true).all id=true:=by simp
   rw[this]
   show q
def GZ{w:cx}{n:Nat}{s:aU}(o:cA w)(x:Gd w n s):(pA w s).length<=4/\∀l∈pA w s,l.length<=4:=by
 let b:=o.l4
 let c:=x.1.lh
 show#[?_,λl hl=>?_]
 ·unfold pA
  show QAq (List.length_filterMap_le _ _) ?_
  rw[QVq]
  omega
 ·let#[f,a,e]:=List.mem_filterMap.mp hl
  show(((GA o x.1 x.2).1 f (List.mem_range.mp a)).2 l e).2.2
def y0{p0 a0 a1 a2 a3 a4 a5 a6 a7 a8 a9 a10 a11 a12 a13:Option D}:∃z:Nat->Option D,[p0,a0,a1,a2,a3,a4,a5,a6,a7,a8,a9,a10,a11,a12,a13]= [p0,z 0,z 1,z 2,z 3,z 4,z 5,z 6,z 7,z 8,z 9,z 10,z 11,z 12,z 13]:=#[λi=>[a0,a1,a2,a3,a4,a5,a6,a7,a8,a9,a10,a11,a12,a13].getD i none,rfl]
def x0{p0 p1 p2 p3 a0 a1 a2 a3 a4 a5 a6 a7 a8 a9 a10:Option D}:∃z:Nat->Option D,[p0,p1,p2,p3,a0,a1,a2,a3,a4,a5,a6,a7,a8,a9,a10]= [p0,p1,p2,p3,z 0,z 1,z 2,z 3,z 4,z 5,z 6,z 7,z 8,z 9,z 10]:=#[λi=>[a0,a1,a2,a3,a4,a5,a6,a7,a8,a9,a10].getD i none,rfl]
def FB:∀ns:List Int,ns.length<=63->∃q,GQ [.ref 0] [.frz (ns.map D.int)]=some (.d (.bl true),q):=by
 intro ns f0
 suffices h:Fn GQ [.ref 0] [.frz (ns.map D.int)] λr _=>r=.d (.bl true) by
  let#[r,q,e,rfl]:=h
  show⟨q,e⟩
 show cc ?_
 unfold JW
 show aG (fP ?_)
 apply il ?_
 apply E_ L ?_
 show FK ?_
 show jB ?_
 obtain⟨m,hm,e0⟩:∃m:Nat,(1:Int)+(if (((ns.map D.int).length:Nat):Int)<4 then(((ns.map D.int).length:Nat):Int) else 4)=(m:Int)/\m<=5:=by
  show#[((1:Int)+(if (((ns.map D.int).length:Nat):Int)<4 then(((ns.map D.int).length:Nat):Int) else 4)).toNat,?_,?_] <;>(repeat' split) <;>omega
 show#[m,congrArg D.int hm,by omega,?_]
 show#[λn f q=>(∃ke:Nat->Option D,f= [some (.ref 0),ke 0,ke 1,ke 2,ke 3,ke 4,ke 5,ke 6,ke 7,ke 8,ke 9,ke 10,ke 11,ke 12,ke 13])/\q[0]?=some (.frz (ns.map D.int)),#[y0,L],λ_ _ _ _=>trivial,?_,?_]
 ·rintro n d f S K ⟨⟨ke,rfl⟩,hS⟩
  let#[rfl,hn7]:=du K
  apply aR ?_
  apply LO (!0) hS λpa pb=>?_
  have C:Ex S.length (S++ [o8 pa pb 0]) (S++ [o8 pa pb 0]):=Ex.refl aS
  have b9:(S++ [o8 pa pb 0])[0]?=some (.frz (ns.map D.int)):=aZ hS
  have h0:0≠S.length:=by
   have:=(gQs.mp hS).1
   omega
  show Fn fI [.ref S.length] (S++ [o8 pa pb 0]) _
  generalize S.length=kp at C h0|-
  generalize S++ [o8 pa pb 0]=S1 at C b9|-
  show Dt C λw S2 ok so x2 _ _=>?_
  let l4:=ok.l4
  apply fP (il ?_)
  show#[(2:Nat),L,by decide,?_]
  show#[λ_ f q=>(∃z7:Nat->Option D,f= [some (.ref 0),some (.int n),some (.ref kp),some w.d,z7 0,z7 1,z7 2,z7 3,z7 4,z7 5,z7 6,z7 7,z7 8,z7 9,z7 10])/\Ex kp S1 q,#[x0,x2],λ_ _ _ _=>trivial,?_,?_]
  ·rintro mm d f q K ⟨⟨z7,rfl⟩,hex⟩
   let#[rfl,hm2]:=du (j:=2) K
   show aR ?_
   show aG (bE (b_ (bO (aw (ax L (aw (ax L (aw (bO (aw (ax L (aw (dI (aI ?_))))))))))))))
   show bH hex (!1) (!1) λdd S3 c0 e3 _ _=>?_
   show aI ?_
   show Hx ok e3 (by have:(dd:Int)<16:=c0;omega) λhs s S4 J e4=>?_
   show dI (aB (d:=s.d) L ?_)
   have J:Gd w 20 s:=J.mono (by have:(dd:Int)<16:=c0;omega)
   let lh:=J.1.lh
   show aG (vQ (cb (aw (bO (aw (ax L (aw (ax L (aI ?_)))))))))
   show yO ok J.1 J.2 ?_
   show aw (bO (aw (ax L (aw (ax L (aw (dI (aI ?_))))))))
   show yy ok J (!0) (most:=100) (!0) λM H=>?_
   show aI #[by show 2<=_;decide,?_]
   show ee L (az (aR (az (aR (bo ?_)))))
   let#[e1,c6]:=GZ ok J
   have W:∀j,(((pA w s).take j).flatten).length<=16:=λj=>by
    have d9:∀m:List (List Nat),(∀l∈m,l.length<=4)->m.flatten.length<=4*m.length:=by
     intro m
     induction m with
     |nil=>intro _;simp
     | cons a m ih=>
       intro hm
       let h1:=hm a (QBq ..)
       let h2:=ih λl hl=>hm l (Qpq _ hl)
       rw[List.flatten_cons,lQa,Qnq]
       omega
    let h1:=d9 ((pA w s).take j) λl hl=>c6 l (List.mem_of_mem_take hl)
    rw[Qxq] at h1
    omega
   show aG (bE (cG (cR (aI #[by show 0<=_;decide,?_]))))
   have d5:kp<S4.length:=e4.lt
   have e5:Ex kp S1 (S4++ [O.lst []]):=e4.app
   have b5:(S4++ [O.lst []])[S4.length]?=some (.lst []):=aS
   have d4:kp<S1.length:=C.lt
   have b7:S1.length<=S4.length:=e4.len
   generalize S4++ [O.lst []]=S5 at e5 b5|-
   generalize S4.length=L8 at b5 d5 b7|-
   show aG (fP (ja (bQ (ax L (df (ds:=(pA w s).map (vE w s)) ?_)))))
   show#[λj f q=>(∃F,f= [some (.ref 0),some (.int n),some (.ref kp),some w.d,some (.int mm),some s.d,some (.tup ((pA w s).map (vE w s))),some (qE M),some (.ref L8),F,z7 6,z7 7,z7 8,z7 9,z7 10])/\Ex kp S1 q/\q[L8]?=some (.lst ((((pA w s).take j).flatten).map λh:Nat=>D.int h)),#[#[_,L],e5,b5],λ_ _ _ _=>trivial,?_,?_]
   ·rintro j d f q K ⟨⟨F,rfl⟩,hex,p⟩
    rw[gQm] at K
    let#[l,hl,rfl]:=oQm.mp K
    let e8:=c6 l (mQg hl)
    show aR ?_
    show kE (B1 (ax L #[_,_,L,p,je (i7 (α:=Nat) (λf=>∃a,f= [a]) (Bv w s) (λh=>.int h) (λ_=>true) #[none,L] (ja (bQ (ax L (df (ds:=l.map (Bv w s)) ?_)))))]))
    show#[l,L,trivial,by omega,λy hy f b6=>?_,?_]
    ·let#[a,rfl]:=b6
     show aR #[L,#[_,L],fF #[L,L,λ_=>b_ (ax L (dI (aB (d:=.int y) L #[L,L])))]]
    ·rw[List.filter_eq_self.mpr (λ_ _=>rfl)]
     show#[_,p,#[L,?_],?_]
     ·rw[lQm,lQm]
      have:=W j
      show nQl (aL (!0))
     ·show#[#[_,L],hex.put b7 d4,?_]
      rw[fc p,QYq,hl]
      simp
   rintro f q ⟨⟨F,rfl⟩,hex,p⟩
   let fl:=W (pA w s).length
   rw[lQm,QEq] at p
   rw[QEq] at fl
   have p:q[L8]?=some (.lst ((JK w s).map D.int)):=by rw[p];unfold JK;rw[QPq];rfl
   have rl:(JK w s).length<=16:=by unfold JK;rw[lQm];show fl
   have c1:E (gD (aK (bf (mz true) (au 7) (cF .non))) (sP (lC (uJ (fg (bx [none,some 7] (gQ (aP (au 8))) (bB 0) bI (zR false (au 0) (aP (au 1))))))))) [some (.ref 0),some (.int n),some (.ref kp),some w.d,some (.int mm),some s.d,some (.tup ((pA w s).map (vE w s))),some (qE M),some (.ref L8),F,z7 6,z7 7,z7 8,z7 9,z7 10] q λk S2=>S2=q/\k=false:=by
    show kL (bZ (b_ (ax L (dI (qQ ?_)))))
    cases M with
    |none=>show#[L,L]
    | some g=>
      show q5 ?_
      show bD (λ_=>?_) (λc=>by cases c)
      show A2 (CA (yj (l:=JK w s) (g:=g) L (bQ (ax L (bF p #[L,L,p]))) (!0) (λy hy=>?_) (um #[L,L])))
      show(H.1 y).mpr λG d6=>?_
      show(KR.all ok J (N:=120) (!0) (λG h=>H.2.2.2 G h) d6).af y hy
   show aG (fE (c1.mono λk S2 U=>?_))
   let#[P,Q]:=U
   subst P Q
   show bD (λc=>by cases c) (λ_=>dg ?_)
   apply aG (fP (il ?_))
   show#[(15:Nat),L,by decide,?_]
   show#[λj f q=>∃(G:aU) (F u v A t B:Option D),f= [some (.ref 0),some (.int n),some (.ref kp),some w.d,some (.int mm),some G.d,some (.tup ((pA w s).map (vE w s))),some (qE M),some (.ref L8),F,u,v,A,t,B]/\Gd w (20+j) G/\Rc w s G/\KR w s G/\Ex kp S1 q/\q[L8]?=some (.lst ((JK w s).map D.int)),#[s,_,_,_,_,_,_,L,J,.refl,KR.refl ok J,hex,p],λ_ _ _ _=>trivial,?_,?_]
   ·rintro j d f S3 K ⟨G,F,u,v,A,t,B,rfl,gd',rc',kr',hex,p⟩
    let#[rfl,hj]:=du (j:=15) K
    have e9:kp<S3.length:=hex.lt
    let e7:=(gQs.mp p).1
    show aR ?_
    show aG (bE (cG (j8 (aw (ax L (aw (ax L (aI ?_))))))))
    show zZ ok gd' (!0) λI e2 d8=>?_
    have c3:∀(x:aU) (S6:aE) (F u v A t B:Option D),Gd w (20+j+1) x->KR w s x->E (sP (lC (uJ (fg (bx [none,some 3,some 5] (gQ (aP (au 6))) (bB 0) bI (zR false (au 0) (aP (aA pE (ar (au 1) (ar (au 2) av)))))))))) [some (.ref 0),some (.int n),some (.ref kp),some w.d,some (.int mm),some x.d,some (.tup ((pA w s).map (vE w s))),some (qE M),some (.ref L8),F,u,v,A,t,B] S6 λk S2=>S2=S6/\k=false:=by
     intro x S6 F u v A t B b8 R
     show A2 (CA (Jl (je (i7 (α:=List Nat) (λf=>∃a,f= [a,some w.d,some x.d]) (vE w s) (λ_=>.bl true) (λ_=>true) #[none,L] (ja (bQ (ax L (df (ds:=(pA w s).map (vE w s)) ?_))))))))
     show#[pA w s,L,trivial,by omega,λl hl f b6=>?_,?_]
     ·let#[a,rfl]:=b6
      show aR #[L,#[_,L],fF #[L,L,λ_=>?_]]
      show JF (ax L (bQ (bO (aw (ax L (aw (ax L (aI ?_))))))))
      show yO ok b8.1 b8.2 ?_
      show df (ds:=(pA w x).map (vE w x)) ?_
      let#[t1,t2]:=R.told l hl
      let#[p1,p2]:=Gc (s:=x) so l
      rw[t1]
      show#[_,_,p1,CM so _,p2,?_,L]
      have:((pA w x).map (Jq w x)).any (PyData.eqv · (Jq w x l))=true:=List.any_eq_true.mpr #[Jq w x l,Qkq.mpr #[l,t2,L],SeqAt.eqv_refl _ (sE p1)]
      rw[this]
      rfl
     ·show#[L,List.replicate (pA w s).length true,?_,?_]
      ·rw[<-rV]
       congr 1
       rw[List.filter_eq_self.mpr (λ_ _=>rfl),List.map_const']
      ·have:(List.replicate (pA w s).length true).all id=true:=by simp
       rw[this]
       show um #[L,L]
    show aG (fE (bZ (wU (bQ (ax L (bF aS #[#[L,aS],?_]))))))
    cases I with
    | nil=>
      show q5 ?_
      show bD (λc=>by cases c) (λ_=>dg ?_)
      show fE ((c3 G _ _ _ _ _ _ _ (gd'.mono (!0)) kr').mono λk S2 U=>?_)
      let#[P,Q]:=U
      subst P Q
      show bD (λc=>by cases c) (λ_=>dg ?_)
      show#[G,_,_,_,_,_,_,L,gd'.mono (!0),rc',kr',hex.app,aZ p]
    | cons r0 I=>
      show q5 ?_
      show bD (λ_=>?_) (λc=>by cases c)
      show aG (vQ (CI (k:=kp) (i:=S3.length) (xs:=(r0::I).map EG) L L hex.app (!0) aS (by rw[lQm];simp) (by rw[lQm];omega) λd S6 K e6 d7=>?_))
      let#[r,hr,rfl]:=Qkq.mp K
      let#[h1,h2,h3]:=d8 r hr
      have X:S6[L8]?=some (.lst ((JK w s).map D.int)):=d7.keep _ _ (!0) (aZ p)
      have d1:Nx w G r.2.1:=#[r.1,r.2.2,h1,h2]
      let#[_,h',d2,d3]:=gd'.nx ok (!0) d1
      have R:KR w s r.2.1:=kr'.trans (Je ok gd' h3 d2 d3)
      let Y:=Hl h1
      show ee L (az (aR (az (aR (az (aR (bo ?_)))))))
      have c4:E (Fp (aK (zR false (au 12) (aP (au 8)))) (gD (aK (bf (mz true) (au 7) (cF .non))) (aK (zR false (au 12) (aP (au 7)))))) [some (.ref 0),some (.int n),some (.ref kp),some w.d,some (.int mm),some r.2.1.d,some (.tup ((pA w s).map (vE w s))),some (qE M),some (.ref L8),F,some (.int j),some (.ref S3.length),some (.int r.1),some (Mn r.1 r.2.2),B] S6 λk S2=>S2=S6/\k=false:=by
        show Cf (bZ (GI (ax L (bQ (ax L (bF X #[_,_,L,L,?_]))))))
        rw[Qdq (λz=>Y (kr'.af _ z))]
        show q5 ?_
        show bD (λc=>by cases c) (λ_=>?_)
        show kL (bZ (b_ (ax L (dI (qQ ?_)))))
        cases M with
        |none=>show#[L,L]
        | some g=>
          show q5 ?_
          show bD (λ_=>?_) (λc=>by cases c)
          show bZ (GI (ax L (bQ (ax L (df (ds:=g.map D.int) #[_,g,L,L,?_])))))
          rw[Qdq (λz=>Y ((H.1 _).mp z _ rc'))]
          show#[L,L]
      show fE (c4.mono λk S2 U=>?_)
      let#[P,Q]:=U
      subst P Q
      show bD (λc=>by cases c) (λ_=>dg ?_)
      show fE ((c3 r.2.1 _ _ _ _ _ _ _ h3 R).mono λk S2 U=>?_)
      let#[P,Q]:=U
      subst P Q
      show bD (λc=>by cases c) (λ_=>dg ?_)
      show#[r.2.1,_,_,_,_,_,_,L,h3,.step rc' d1,R,e6,X]
   ·rintro f S3 ⟨G,F,u,v,A,t,B,rfl,gd',rc',kr',hex,p⟩
    rw[dF (j:=15)] at gd'
    show aG (bE (bO (aw (ax L (aw (ax L (aw (dI (aI ?_)))))))))
    show yy ok gd' (!0) (most:=100) (!0) λc2 Z=>?_
    have c5:E (gD (aK (bf (mz true) (au 7) (cF .non))) (Fp (aK (bf (mz false) (au 14) (cF .non))) (sP (lC (uJ (fg (bx [none,some 14] (gQ (aP (au 7))) (bB 0) bI (zR false (au 0) (aP (au 1)))))))))) [some (.ref 0),some (.int n),some (.ref kp),some w.d,some (.int mm),some G.d,some (.tup ((pA w s).map (vE w s))),some (qE M),some (.ref L8),F,u,v,A,t,some (qE c2)] S3 λk S2=>S2=S3/\k=false:=by
     show kL (bZ (b_ (ax L (dI (qQ ?_)))))
     cases M with
     |none=>show#[L,L]
     | some g=>
       show q5 ?_
       show bD (λ_=>?_) (λc=>by cases c)
       show Cf (bZ (b_ (ax L (dI (qQ ?_)))))
       cases c2 with
       | none=>
         exfalso
         let#[_,_,#[fs,n1,n2,n3],_]:=H
         let#[gs,m1,m2,m3]:=Z
         have:= @ST.oK aU (λa b=>Classical.propDecidable (a=b)) gs fs m1 λx a0=>n3 x (rc'.trans (m3 x a0))
         omega
       | some g2=>
         show q5 ?_
         show bD (λc=>by cases c) (λ_=>?_)
         show A2 (CA (yj (l:=g) (g:=g2) L (bQ (ax L (df (ds:=g.map D.int) #[L,L,trivial]))) (by have:=H.2.1;omega) (λy hy=>?_) (um #[L,L])))
         show(Z.1 y).mpr λx a0=>(H.1 y).mp hy x (rc'.trans a0)
    show fE (c5.mono λk S2 U=>?_)
    let#[P,Q]:=U
    subst P Q
    show bD (λc=>by cases c) (λ_=>dg ?_)
    show#[x0,hex]
  ·rintro f q ⟨⟨z7,rfl⟩,hex⟩
   show#[y0,hex.keep _ _ h0 b9]
 ·rintro f q ⟨⟨ke,rfl⟩,hS⟩
  symm
  let hl:=(gQs.mp hS).1
  show h_ (S2:= [.frz (ns.map D.int)]) #[by show 1<=q.length;omega,λk o hk e=>?_] ?_ (λk z=>(nomatch z)) L L
  ·have hk:k<1:=hk
   have:k=0:=by omega
   subst this
   rw[hS] at e
   show .inl e
  ·cases q with
   |nil=>simp at hl
   | cons a l=>
     simp at hS
     subst hS
     rfl
end W28
open PySem PySem.W PyProof.Rows L2 DL
theorem PySem.Challenge.cw_calledroom_k45_whole_rings_stay_holds : PySem.Challenge.rw_calledroom_k45_whole_rings_stay.Holds := by
  w_on; o_law; k_head; (case hw => w_witness2)
  k_fill
  show DL.Mg (l := PySem.Challenge.rw_calledroom_k45_whole_rings_stay) (k := 16) rfl rfl #[rfl, by decide, by decide] (λw h Y => PySem.W.kIn_of Y) (λw => ?nl) ?F
  case nl => rfl
  case F =>
    intro w mg fa h KX G hmg
    refine' W28.all_mk KX G hmg ?_ ?_ ?_ ?_ ?_ ?_ ?_ ?_ ?_ ?_ ?_ ?_ ?_ ?_ ?_ ?_ ?_ ?_ ?_ ?_ ?_ ?_ ?_ ?_ ?_ ?_ ?_ ?_ ?_ ?_ ?_ ?_ ?_ ?_ ?_ ?_ ?_ ?_ ?_ ?_ ?_ ?_ ?_ ?_ ?_ ?_ ?_ ?_ ?_ ?_ ?_ ?_ ?_ ?_ ?_ ?_ ?_ ?_ ?_ ?_ ?_ ?_ ?_ ?_ ?_ ?_ ?_ ?_ ?_ ?_ ?_ ?_ ?_ ?_ ?_ ?_ ?_ ?_ ?_ ?_ ?_ ?_ ?_ ?_ ?_ ?_ ?_ W28.FB
    any_goals first | show DL.bh.of (by k_is) (by k_is) (by k_is) (by k_is) | k_is
