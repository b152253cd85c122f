import PyProof.Rows.All
import Wide.FinOn
import KE.KEqDict
import KE.KSortTup
import KE.KUnpack
import KE.KDictOf
import KE.KFromBytes
import KE.KIsAll
import PySem.Challenge.RW_calledroom_k42_rings_known_by_hand
set_option Elab.async false
set_option linter.all false
set_option compiler.extract_closed false
set_option maxRecDepth 100000
set_option maxHeartbeats 8000000
namespace PySem.W.Fast
def cA:=trivial
def tw12631975301423021495:=cA
def tw17456181562280139566:=cA
def tw4006051459215538802:=cA
def tw7900933832982590717:=cA
def tw13768467687417745080:=cA
def tw12078338701832118096:=cA
def tw9926504376658739434:=cA
def tw3647473185760758059:=cA
def tw15749528243990623303:=cA
def tw14121996983172414223:=cA
def tw16180615529845317762:=cA
def tw10176015523338103158:=cA
def tw11224770769393290701:=cA
def tw11139198528358963894:=cA
def tw2008024575320820829:=cA
def tw14986794730893098837:=cA
def tw12008802233168952606:=cA
def tw8934617306260693807:=cA
def tw3767956658216953788:=cA
def tw16521932575295418731:=cA
def tw16028851750362294865:=cA
def tw17504744254937457710:=cA
def tw6895900879709030208:=cA
def tw1869692649036971895:=cA
def tw13742661247314572249:=cA
def tw8923812133153806144:=cA
def tw13472592499430140885:=cA
def tw6976442849095433266:=cA
def tw14712059294732301557:=cA
def tw102641809816166504:=cA
def tw16374140434889607906:=cA
def tw9533960043493883512:=cA
def tw8640650500508019629:=cA
def tw11576793154305397143:=cA
def tw13025578909514285284:=cA
def tw7406831637354378453:=cA
def tw11318679403837572943:=cA
def tw12551238640534624137:=cA
def tw12419106816168650073:=cA
def tw18330464774082558187:=cA
def tw8430461991125401314:=cA
def tw8793277774226369991:=cA
def tw1398823958587907150:=cA
def tw9217657391279115050:=cA
def tw9733435685199307438:=cA
def tw1471147949675053193:=cA
def tw13666027144958333966:=cA
def tw17827255741399429922:=cA
def tw10579473439527738530:=cA
def tw2889498633484067800:=cA
def tw11764311282972523907:=cA
def tw17217526401968568014:=cA
def tw8777357999878257723:=cA
def tw15470685146161292080:=cA
def tw1010487770509232592:=cA
def tw17848270441763358916:=cA
def tw17880061349300690657:=cA
def tw12744715635081872874:=cA
def tw3097203381358998323:=cA
def tw4385546922920651018:=cA
def tw15317689913242028946:=cA
def tw12531532920925758367:=cA
def tw7154393231272431168:=cA
def tw8434868321364212047:=cA
def tw16364363426078796057:=cA
def tw15161653042951735472:=cA
def tw5130014570633865044:=cA
def tw7095665596067877052:=cA
def tw15673354086308024517:=cA
def tw17380941891156540094:=cA
def tw7389900159452052705:=cA
def tw2817795697387670114:=cA
def tw15902643938541834336:=cA
def tw13484645884662862843:=cA
def tw18300439343861387924:=cA
def tw345366434052076997:=cA
def tw12726135844756721529:=cA
def tw728992190901444924:=cA
def tw4176111888135599952:=cA
def tw9590938749408257341:=cA
def tw11691566563664375243:=cA
def tw15783936560642447145:=cA
def tw15103671338852045615:=cA
def tw14806849167782129195:=cA
def tw17454822346258806751:=cA
def tw140941666328617323:=cA
def tw9740392496191192020:=cA
def tw15730040341894879700:=cA
def tw13306219967966124540:=cA
def tw3148783435009424201:=cA
def tw11855445765604455553:=cA
def tw8028151546235382369:=cA
def tw7379344231474875356:=cA
def tw3928779030476302745:=cA
def tw14469599909137946749:=cA
def tw14299321188889337366:=cA
def tw7026851704607629800:=cA
def tw4636586544864057777:=cA
def tw11865738381800693797:=cA
def tw10193446311116101155:=cA
def tw12903812873451039354:=cA
def tw240074087530834469:=cA
def tw8956318842684784380:=cA
def tw12697617860597345671:=cA
def tw15912830165275201587:=cA
def tw5749132204476372937:=cA
def tw16764551519064627935:=cA
def tw14813882864520311935:=cA
def tw12693119460610292930:=cA
def tw2136138239972275540:=cA
def tw11797197253622017930:=cA
def tw14483156184683145707:=cA
def tw12370971327327657160:=cA
def tw11718806371904657370:=cA
def tw4219778604942748276:=cA
def tw8214125872755892277:=cA
def tw9439308912875257223:=cA
def tw3613369729923505587:=cA
def tw1776378598875568441:=cA
def tw8029058946785704521:=cA
def tw1721602310894809815:=cA
def tw3096860455094526956:=cA
def tw3995999106973431075:=cA
def tw13588957939025234589:=cA
def tw6899616913648887090:=cA
def tw11166863866232490677:=cA
def tw18071621828555225283:=cA
def tw6500487123640256316:=cA
def tw14372263776355951384:=cA
def tw7020897517441741879:=cA
def tw13985827312372259027:=cA
def tw11850745606406051120:=cA
def tw16337523640294746133:=cA
def tw7999815345425268228:=cA
def tw12114636025456334734:=cA
def tw17808689535591968404:=cA
def tw4831472683402428401:=cA
def tw18300889519054046013:=cA
def tw9860016698572896328:=cA
def tw6345182775628546131:=cA
def tw2159110618202799088:=cA
def tw16602419803041087737:=cA
def tw14649036558285636394:=cA
def tw14450024646430931126:=cA
def tw8468474110631263390:=cA
def tw6980200576871956416:=cA
def tw1248276321058801595:=cA
def tw15749412666221318023:=cA
def tw4906057473928082892:=cA
def tw9928354270963109435:=cA
def tw4701824457508645772:=cA
def tw8184419330718715862:=cA
def tw12834811478445426283:=cA
def tw9497807857891357698:=cA
def tw2741559539524323138:=cA
def tw5481544282468553895:=cA
def tw25934877977854506:=cA
def tw2408106101144683254:=cA
def tw17514885186335684724:=cA
def tw10928667085340607439:=cA
def tw816447272809730300:=cA
def tw8334963919954968866:=cA
def tw5054191102973295935:=cA
def tw16649720735908666882:=cA
def tw3285459088996924135:=cA
def tw18218055519506669579:=cA
def tw1106658045143138692:=cA
def tw12915323620583816715:=cA
def tw4850244330920154689:=cA
def tw3539295934647359439:=cA
def tw7263682339501968442:=cA
def tw12557417406561487292:=cA
def tw14563644462484539427:=cA
def tw658650667654310259:=cA
def tw14169781816291449654:=cA
def tw16052641844655919869:=cA
def tw10010662907402593354:=cA
def tw10121699430713436160:=cA
def tw1261051898407338046:=cA
def tw11524643101262323980:=cA
def tw12922656047726111405:=cA
def tw15121780306649797763:=cA
def tw949998280980039599:=cA
def tw13428969702520041211:=cA
def tw17320478176234485714:=cA
def tw10931672366598824544:=cA
def tw14810752521051079862:=cA
def tw12576188797688647980:=cA
def tw10987281911639238306:=cA
def tw1948833702691802471:=cA
def tw16778645928006137755:=cA
def tw13215754612916966465:=cA
def tw3183615668469053733:=cA
def tw15722617586302531841:=cA
def tw12494746037769281250:=cA
def tw12914537519733811916:=cA
def tw2106690763241446652:=cA
def tw6802403012947263455:=cA
def tw7931603119291527530:=cA
def tw3539562690541985730:=cA
def tw7827064820401893163:=cA
def tw16796471012401988432:=cA
def tw1794350899449938845:=cA
def tw9440404979070678469:=cA
def tw10743617073644006877:=cA
def tw7295174517175167752:=cA
def tw9973746895615827878:=cA
def tw15648010295019952160:=cA
def tw4839869992966111158:=cA
def tw15325252024841515883:=cA
def tw4663124657919930121:=cA
def tw17211416590377353736:=cA
def tw13177518795131144796:=cA
def tw6607788459678747796:=cA
def tw18218299132723179443:=cA
def tw13034726106044367668:=cA
def tw6876085079023910959:=cA
def tw13048270048984195979:=cA
def tw7633599997125379776:=cA
def tw15287556199261815318:=cA
def tw2459188181021557406:=cA
def tw10874174059965155700:=cA
def tw1359742754440583530:=cA
def tw15165473888837035557:=cA
def tw14631392980540883150:=cA
def tw2699935278975247033:=cA
def tw2692183006386827937:=cA
def tw18203407021391860448:=cA
def tw11785193603650379708:=cA
def tw7013960614829228574:=cA
def tw4867306918591805403:=cA
def tw5420569524679605058:=cA
def tw13635562874434288673:=cA
end PySem.W.Fast
set_option bootstrap.genMatcherCode false
set_option genSizeOf false
def cC(h:True:=by first|show .inl L|show .inr L|assumption):=h
def cL(h:True:=by decide):=h
def cS(h:True:=by first|show nobehind _ (!1) (!1)|rfl):=h
def db(h:True:=by rfl):=h
def dl(h:True:=by intro _;rfl):=h
def dL(h:True:=by first|show Or.inl L|show Or.inr (Or.inl L)|show Or.inr (Or.inr L)):=h
def dO(h:True:=by intro _ _;rfl):=h
def ec(h:True:=by size_fits):=h
def ef(h:True:=by first|show Or.inl L|show Or.inr L):=h
def ei(h:True:=by decide +kernel):=h
def ej(h:True:=by first|decide|omega):=h
def el(h:True:=by repeat (first|show BS|show lq ?_)):=h
def em(h:True:=by first|exact λa b c d e f=>rfl|exact λa b c d e f g=>rfl|exact λa b c d e f g h=>rfl|exact λa b c d e f g h i=>rfl|exact λa b c d e f g h i j=>rfl|exact λa b c d e f g h i j k=>rfl|exact λa b c d e f g h i j k l=>rfl):=h
set_option compiler.extract_closed false
open Lean in
def pQ9:Nat->Syntax->MacroM (TSyntax `rcasesPat)
 |0,_=>Macro.throwUnsupported
 |n+1,s=>match s with
  |`(#[$a,*])=>do
   let b<-a.getElems.mapM λx=>do
    let p<-pQ9 n x
    `(Parser.Tactic.rcasesPatLo|$p:rcasesPat)
   `(rcasesPat|⟨$b,*⟩)
  |`($i:ident)=>`(rcasesPat|$i:ident)
  |`(_)=>`(rcasesPat|_)
  |_=>Macro.throwUnsupported
theorem z5{P:Prop}(h:∀G:Prop,(P->G)->G):P:=h P id
open Lean in
local macro_rules|`(tactic|let#[$a,*]:=$e)=>do
 let p<-pQ9 9 (<-`(#[$a,*]))
 if a.getElems.size<4 then `(tactic|set_option tactic.hygienic false in obtain $p:rcasesPat:=$e) else
 `(tactic|first|(refine z5 fun G k=>?_;(set_option tactic.hygienic false in obtain $p:rcasesPat:=$e);refine k ?_;clear k G)|set_option tactic.hygienic false in obtain $p:rcasesPat:=$e)
local macro_rules|`(#[$a,*])=>`(⟨$a,*⟩)
open Lean in
local macro_rules|`(fun $a*=>$b)=>do
 if a.any (·.raw.isOfKind `Lean.Parser.Term.hole) then
  let c:=a.map λx=>if x.raw.isOfKind `Lean.Parser.Term.hole then ⟨mkIdent `z0⟩ else x
  `(fun $c*=>$b) else Macro.throwUnsupported
open Lean Parser.Tactic in
local macro_rules|`(tactic|erw[$a,*]$[$l:location]?)=>do
 let b<-a.getElems.mapM λr=>match r with
  |`(rwRule|$t:term)=>`(simpLemma|$t:term)
  |`(rwRule|←$t:term)=>`(simpLemma|←$t:term)
  |_=>Macro.throwUnsupported
 let c:Syntax.TSepArray `Lean.Parser.Tactic.simpLemma ",":=.ofElems b
 `(tactic|simp only[$c,*]$[$l:location]?)
local macro_rules|`(!0)=>`(by omega)
local macro_rules|`(!1)=>`(by decide)
open PySem PySem.Spec
abbrev X0:=Value->Shared->Prop
abbrev X1:=PySem.W.Frag
abbrev X2:=List (Addr×Obj)
abbrev X3:=Str->Option Value
abbrev X4:=Shared
abbrev X5:=List Value
abbrev X6:=List Str
abbrev X7:=List Addr
abbrev X8:=Addr
abbrev X9:=Program
abbrev X_:=Around
abbrev Xa:=Array Value
abbrev Xb:=Option Int
abbrev Xc:=World
abbrev Xd:=Value
abbrev Xe:=Heap
abbrev Xf:=Bool->Shared->Prop
abbrev L{α:Sort u}{a:α}:a=a:=rfl
local macro_rules|`(tactic|let $x:ident:=$e)=>`(tactic|have $x:ident:=$e)
noncomputable section
local macro_rules|`(tactic|omega)=>`(tactic|lia)
local macro_rules|`(tactic|show $e)=>`(tactic|refine $e)
open PySem PySem.Spec
abbrev gQm:=@List.getElem?_map
abbrev lQm:=@List.length_map
abbrev mQg:=@List.mem_of_getElem?
abbrev oQm:=@Option.map_eq_some_iff
abbrev gQe:=@List.getElem?_eq_getElem
abbrev gQs:=@List.getElem?_eq_some_iff
abbrev lQa:=@List.length_append
abbrev nQl:=@Nat.le_of_lt
abbrev mQa:=@List.mem_append
abbrev Qaq:=@PySem.wpAny_bind
abbrev Qbq:=@Option.bind_some
abbrev Qcq:=@PySem.Heap.get?_push_of_some
abbrev Qdq:=@decide_eq_false
abbrev Qeq:=@decide_eq_true
abbrev Qfq:=@List.mem_singleton
abbrev Qgq:=@PySem.wpAny_pure
abbrev Qhq:=@if_pos
abbrev Qiq:=@PySem.Heap.lt_size
abbrev Qjq:=@List.size_toArray
abbrev Qkq:=@List.mem_map
abbrev Qlq:=@List.getD_eq_getElem?_getD
abbrev Qmq:=@Nat.le_refl
abbrev Qnq:=@List.length_cons
abbrev Qoq:=@List.mem_append_right
abbrev Qpq:=@List.mem_cons_of_mem
abbrev Qqq:=@Nat.lt_of_lt_of_le
abbrev Qrq:=@PySem.Heap.get?_push_size
abbrev Qsq:=@List.mem_cons
abbrev Qtq:=@Bool.false_ne_true
abbrev Quq:=@if_neg
abbrev Qvq:=@List.append_assoc
abbrev Qwq:=@Nat.ne_of_lt
abbrev Qxq:=@List.length_take
abbrev Qyq:=@List.getElem?_set_self
abbrev Qzq:=@List.map_append
abbrev QAq:=@Nat.le_trans
abbrev QBq:=@List.mem_cons_self
abbrev QCq:=@Bool.and_eq_true
abbrev QDq:=@List.map_cons
abbrev QEq:=@List.take_length
abbrev QFq:=@PySem.W.mg_none_of
abbrev QGq:=@List.length_nil
abbrev QHq:=@List.getElem?_append_left
abbrev QIq:=@List.length_replicate
abbrev QJq:=@List.Perm.append_right
abbrev QKq:=@List.getElem?_set_ne
abbrev QLq:=@PySem.wpAny_holding
abbrev QMq:=@PySem.wpAny_field
abbrev QNq:=@List.replicate_succ
abbrev QOq:=@List.mem_flatMap
abbrev QPq:=@List.map_map
abbrev QQq:=@List.getElem?_append_right
abbrev QRq:=@PySem.wpAny_mono
abbrev QSq:=@List.flatMap_cons
abbrev QTq:=@List.mem_or_eq_of_mem_set
abbrev QUq:=@List.all_eq_true
abbrev QVq:=@List.length_range
abbrev QWq:=@List.drop_eq_getElem_cons
abbrev QXq:=@List.not_mem_nil
abbrev QYq:=@List.take_add_one
abbrev QZq:=@of_decide_eq_true
abbrev QaQ:=@of_decide_eq_false
abbrev QbQ:=@List.getElem_of_mem
abbrev QcQ:=@List.mem_of_getLast?
abbrev QdQ:=@Option.some.inj
abbrev QeQ:=@List.of_mem_zip
abbrev QfQ:=@List.getLast?_map
abbrev QgQ:=@PySem.wpAny_ite_false
abbrev QhQ:=@PySem.wpAny_newObj_type
abbrev QiQ:=@PySem.wpAny_callSpecial?_slot
abbrev QjQ:=@List.Sublist.refl
abbrev QkQ:=@List.eq_of_mem_replicate
abbrev QlQ:=@List.map_replicate
namespace L2
open PyProof.Rows
abbrev Key:=Sum Int Str
noncomputable def qd:Key->Value->Bool
 |.inl k,v=>Value.isInt k v
 |.inr x,v=>Value.isStrOf x v
noncomputable def Re(w:Xc):Key->Int
 |.inl k=>hashInt k
 |.inr x=>hashStr w x
def cR:∀{k:Key} {v:Xd},qd k v=true->(∃i t,k=Sum.inl i/\v=Value.int i t)\/(∃x t,k=Sum.inr x/\v=Value.str x t)
 | .inl i,v,h=>by
   let#[t,e]:=Value.isInt_shape (k:=i) (v:=v) h
   show .inl #[i,t,L,e]
 | .inr x,v,h=>by
   let#[t,e]:=Value.isStrOf_shape (x:=x) (v:=v) h
   show .inr #[x,t,L,e]
def DM(i:Int)(t:Tok):qd (.inl i) (.int i t)=true:=by simp[qd,Value.isInt]
def pJ(x:Str)(t:Tok):qd (.inr x) (.str x t)=true:=by simp[qd,Value.isStrOf]
def Me(a b:Int):decide ((Sum.inl a:Key)=Sum.inl b)=(a==b):=by
 by_cases e:a=b
 ·subst e;simp
 ·have h:¬(Sum.inl a:Key)=Sum.inl b:=λq=>e (Sum.inl.inj q)
  rw[Qdq h]
  show(beq_eq_false_iff_ne.mpr e).symm
def Mn(a b:Str):decide ((Sum.inr a:Key)=Sum.inr b)=decide (a=b):=by
 by_cases e:a=b
 ·subst e;simp
 ·have h:¬(Sum.inr a:Key)=Sum.inr b:=λq=>e (Sum.inr.inj q)
  rw[Qdq h,Qdq e]
def LO(a:Int)(b:Str):decide ((Sum.inl a:Key)=Sum.inr b)=false:=Qdq (λq=>nomatch q)
def LA(a:Str)(b:Int):decide ((Sum.inr a:Key)=Sum.inl b)=false:=Qdq (λq=>nomatch q)
noncomputable def bA(prog:X9)(w:Xc):PySem.KeyKind prog w Key where
 is:=qd
 hash:=Re w
 inj:=λv a b g f=>by
  rcases cR g with⟨i,t,rfl,rfl⟩|⟨x,t,rfl,rfl⟩
  ·rcases cR f with⟨j,u,rfl,e⟩|⟨y,u,rfl,e⟩
   ·injection e with c _;rw[c]
   ·show nomatch e
  ·rcases cR f with⟨j,u,rfl,e⟩|⟨y,u,rfl,e⟩
   ·show nomatch e
   ·injection e with c _;rw[c]
 byValue:=λk v h=>by
  rcases cR h with⟨i,t,rfl,rfl⟩|⟨x,t,rfl,rfl⟩ <;>rfl
 pyHash:=λd h=>by
  rcases cR d with⟨i,t,rfl,rfl⟩|⟨x,t,rfl,rfl⟩
  ·show wpAny_pyHash_int h
  ·show wpAny_pyHash_str h
 eqBool:=λl d h=>by
  rcases cR l with⟨i,t,rfl,rfl⟩|⟨x,t,rfl,rfl⟩
  ·rcases cR d with⟨j,u,rfl,rfl⟩|⟨y,u,rfl,rfl⟩
   ·rw[Me] at h;show wpAny_eqBool_int h
   ·rw[LO] at h;show SeqAt.EqAt.int_str i t y u _ _ _ _ h
  ·rcases cR d with⟨j,u,rfl,rfl⟩|⟨y,u,rfl,rfl⟩
   ·rw[LA] at h;show SeqAt.EqAt.str_int x t j u _ _ _ _ h
   ·rw[Mn] at h;show wpAny_eqBool_str h
 «strs»:=λk x t v h=>by
  rcases cR h with⟨i,u,rfl,e⟩|⟨y,u,rfl,e⟩
  ·show nomatch e
  ·injection e with c _
   subst c
   cases v <;>rfl
def Av(prog:X9)(w:Xc)(i:Int)(t:Tok):(bA prog w).is (.inl i) (.int i t)=true:=DM i t
def yN(prog:X9)(w:Xc)(x:Str)(t:Tok):(bA prog w).is (.inr x) (.str x t)=true:=pJ x t
inductive V where
 |non|bl (b:Bool)|int (i:Int)|str (x:Str)|byt (b:Array UInt8)|flt (b:UInt64)|ref (a:X8)|ty (n:String)
 deriving DecidableEq
def RelV:V->Value->Prop
 |.non,u=>u=Value.none
 |.bl b,u=>u=Value.bool b
 |.int i,u=>∃t,u=Value.int i t
 |.str x,u=>∃t,u=Value.str x t
 |.byt b,u=>∃t,u=Value.bytes b t
 |.flt b,u=>∃t,u=Value.float b t
 |.ref a,u=>u=Value.ref a
 |.ty n,u=>u=Value.type n
abbrev bo:List V->List Value->Prop:=Paired RelV
def bo.length(r:bo xs a):xs.length=a.length:=Paired.length r
theorem bo.get:∀{xs:List V} {a:X5} {i:Nat} {x:V},bo xs a->xs[i]?=some x->∃u,a[i]?=some u/\RelV x u
 |_,_,_,_,.nil,e=>by simp at e
 |_,_,0,_,.cons r _,e=>by simp at e;subst e;show#[_,L,r]
 | _,_,i+1,x,.cons _ t,e=>by
   let#[u,c,b]:=bo.get (i:=i) (x:=x) t (by simpa using e)
   show#[u,by simpa using c,b]
theorem bo.set(r:RelV x u):∀{xs:List V} {a:X5} (i:Nat),bo xs a->bo (xs.set i x) (a.set i u)
 |_,_,_,.nil=>.nil
 |_,_,0,.cons _ t=>.cons r t
 |_,_,i+1,.cons q t=>.cons q (bo.set r i t)
theorem bo.append:∀{xs ys:List V} {a ws:X5},bo xs a->bo ys ws->bo (xs++ys) (a++ws)
 |_,_,_,_,.nil,s=>s
 |_,_,_,_,.cons r t,s=>.cons r (bo.append t s)
theorem bo.take:∀{xs:List V} {a:X5} (n:Nat),bo xs a->bo (xs.take n) (a.take n)
 |_,_,0,_=>.nil
 |_,_,_+1,.nil=>.nil
 |_,_,n+1,.cons r t=>.cons r (bo.take n t)
theorem bo.drop:∀{xs:List V} {a:X5} (n:Nat),bo xs a->bo (xs.drop n) (a.drop n)
 |_,_,0,r=>r
 |_,_,_+1,.nil=>.nil
 |_,_,n+1,.cons _ t=>bo.drop n t
def ud:Option V->Option Value->Prop
 |some v,some u=>RelV v u
 |none,none=>True
 |_,_=>False
def KV:List (κ×V)->List (κ×Value)->Prop:=Paired λ(p:κ×V) (q:κ×Value)=>p.1=q.1/\RelV p.2 q.2
noncomputable def kV:Key->V
 |.inl i=>.int i
 |.inr x=>.str x
inductive HO where
 |lst (xs:List V)
 |tup (xs:List V)
 |dK (kvs:List (Key×V))|dT (kvs:List (List Key×V))
 |set (S:Int->Bool) (n:Nat)
 |ins (C dx:X8) (fs:List (Str×V))
 |own (x:X8)
 |xd (fs:List (Str×V))
 |met (f x:X8)
 |rng (lo hi:Int)
 |frz (o:Obj) (u:HO)
 |tbl (ps:Xa)
 |ext (φ:Heap->Prop)
abbrev Hp:=Addr->Option HO
noncomputable def upd(H:Hp)(a:X8)(o:HO):Hp:=λb=>if b=a then some o else H b
def aR:upd H a o a=some o:=by unfold upd;rw[Qhq L]
def aM(h:b≠a):upd H a o b=H b:=by unfold upd;rw[Quq h]
def Gz{H:Hp}(h:H a=some o)(h':H b=some u)(d:o≠u):a≠b:=by
 intro e;subst e;rw[h] at h';show d (QdQ h')
def eD{H:Hp}(h:H a=some o)(h':H b=none):a≠b:=by
 intro e;subst e;rw[h] at h';cases h'
def tF(h:Xe)(a:X8)(items:Xa):Prop:=∃o,h.get? a=some o/\o.cls=.type "tuple" /\o.dict=none/\∃n,o.data=.seq items n
def tF.it(x:tF h a items):IsTup h a items:=by
 let#[o,e,c,_,d]:=x
 show#[o,e,c,d]
def tF.new(h:Xe)(items:Xa):tF (h.push {cls:=.type "tuple",data:=.seq items}) h.objs.size items:=#[_,Qrq _ L,L,L,_,L]
section
variable(P:X9)(w:Xc)
def bR(H:Hp)(h:Xe)(a:X8):HO->Prop
 |.lst d=>d.length<=sizeLine/\∃(c:X5) (n:Nat),bo d c/\h.get? a=some {cls:=.type "list",data:=.seq c.toArray n}
 |.tup d=>d.length<=sizeLine/\∃c:List Value,bo d c/\tF h a c.toArray
 |.dK b=>b.length<=sizeLine/\(a==sysModules)=false/\∃l,KV b l/\h.DictOf (bA P w) a l
 |.dT b=>b.length<=sizeLine/\(a==sysModules)=false/\∃d:List (List Key×Addr×Value),
   Paired (λ(p:List Key×V) (q:List Key×Addr×Value)=>p.1=q.1/\H q.2.1=some (.tup (p.1.map kV))/\RelV p.2 q.2.2) b d∧
   ∃o r z,h.get? a=some o/\o.ExactDict/\o.data=.dict r z/\r.toList=d.map (entryOfKey<|tupleKind<|bA P w)/\(d.map (·.1)).Nodup
 |.set S n=>h.SetOf (intKind P w) a S n
 |.ins C i g=>H i=some (.own a)/\g.length<=1000/\i≠a/\h.get? a=some (PySem.W.instObj C i)∧
   ∃e,h.Ns1 i e/\(∀f,ud (g.lookup f)<|e f)/\PySem.Within e (g.map (·.1))
 |.own _=>∃o,h.get? a=some o
 |.xd g=>∃e,h.Ns1 a e/\∀f,ud (g.lookup f) (e f)
 |.rng A y=>∃t u v,h.get? a=some {cls:=.type "range",data:=.fields (List.toArray [.int A t,.int y u,.int 1 v])}
 |.frz o u=>h.get? a=some o/\bR H h a u
 |.tbl s=>h.get? a=some {cls:=.none,data:=.fields s}
 |.met f x=>h.get? a=some (PySem.W.methodObj (.ref f)<|.ref x)
 |.ext j=>j h/\(∃o,h.get? a=some o)/\∀m k:Heap,j m->(∀o,m.get? a=some o->k.get? a=some o)->j k
def m4(H:Hp)(h:Xe):Prop:=∀a o,H a=some o->bR P w H h a o
end
theorem bR.lt(x:bR P w H h a o):a<h.objs.size:=by
 cases o with
 |lst c=>let#[_,_,_,_,e]:=x;show Qiq e
 |tup c=>let#[_,_,_,p]:=x;show p.it.lt
 |dK b=>let#[_,_,_,_,o,_,_,e,_]:=x;show Qiq e
 |dT b=>let#[_,_,_,_,o,_,_,e,_]:=x;show Qiq e
 |set S n=>let#[o,_,_,_,e,_]:=x;show Qiq e
 |ins C m d=>let#[_,_,_,e,_]:=x;show Qiq e
 |own y=>let#[_,e]:=x;show Qiq e
 |xd d=>let#[_,#[_,_,_,e,_],_]:=x;show Qiq e
 |rng q l=>let#[_,_,_,e]:=x;show Qiq e
 |frz k u=>let#[e,_]:=x;show Qiq e
 |tbl j=>show Qiq (show h.get? a=some _ from x)
 |met f y=>show Qiq (show h.get? a=some _ from x)
 |ext i=>let#[_,#[_,e],_]:=x;show Qiq e
theorem Paired.mapP{F G:α->c->Prop}:∀{l₁:List α} {l₂:List c},Paired F l₁ l₂->(∀a b,F a b->G a b)->Paired G l₁ l₂
 |_,_,.nil,_=>.nil
 |_,_,.cons r t,f=>.cons (f _ _ r) (Paired.mapP t f)
def bR.stay{g:Hp}{h':Xe}(x:bR P w H h a o)(k:∀b u,(b=a\/H b=some (.own a))->h.get? b=some u->h'.get? b=some u)
  (M:∀b,H b=some (.own a)->g b=some (.own a)) (ht:∀b xs,H b=some (.tup xs)->g b=some (.tup xs)):bR P w g h' a o:=by
 induction o with
 |lst xs=>let#[z,m,n,r,e]:=x;show#[z,m,n,r,k _ _ (.inl L) e]
 |tup xs=>let#[z,m,r,i,e,c]:=x;show#[z,m,r,i,k _ _ (.inl L) e,c]
 |dK s=>let#[z,y,I,r,i,j,l,e,c]:=x;show#[z,y,I,r,i,j,l,k _ _ (.inl L) e,c]
 | dT s=>
   let#[z,y,xs,r,i,j,l,e,c]:=x
   show#[z,y,xs,Paired.mapP r λp q z=>#[z.1,ht _ _ z.2.1,z.2.2],i,j,l,k _ _ (.inl L) e,c]
 |set S n=>let#[i,j,l,t,e,c]:=x;show#[i,j,l,t,k _ _ (.inl L) e,c]
 | ins C X N=>
   let#[d,z,J,e,A,#[B,j,l,K,c],r]:=x
   show#[M _ d,z,J,k _ _ (.inl L) e,A,#[B,j,l,k _ _ (.inr d) K,c],r]
 |own y=>let#[i,e]:=x;show#[i,k _ _ (.inl L) e]
 |xd N=>let#[A,#[B,j,l,e,c],r]:=x;show#[A,#[B,j,l,k _ _ (.inl L) e,c],r]
 |rng Y U=>let#[t,u,v,e]:=x;show#[t,u,v,k _ _ (.inl L) e]
 |frz i u Q=>let#[e,q]:=x;show#[k _ _ (.inl L) e,Q q]
 | tbl F=>
   have e:h.get? a=some {cls:=.none,data:=.fields F}:=x
   show h'.get? a=some {cls:=.none,data:=.fields F}
   show k a _ (.inl L) e
 | met f y=>
   have e:h.get? a=some (PySem.W.methodObj (.ref f)<|.ref y):=x
   show h'.get? a=some (PySem.W.methodObj (.ref f)<|.ref y)
   show k a _ (.inl L) e
 |ext R=>let#[p,#[o,e],G]:=x;show#[G _ _ p λo q=>k _ _ (.inl L) q,#[o,k _ _ (.inl L) e],G]
def m4.lt(x:m4 P w H h)(e:H a=some o):a<h.objs.size:=(x a o e).lt
def m4.fresh(x:m4 P w H h)(e:h.objs.size<=a):H a=none:=by
 cases q:H a with
 |none=>rfl
 |some u=>show absurd (Qqq (x.lt q) e) (Nat.lt_irrefl _)
def m4.kept{h':Xe}(x:m4 P w H h)(k:∀b u,h.get? b=some u->h'.get? b=some u):m4 P w H h':=λa o e=>
 (x a o e).stay (λb u _ q=>k b u q) (λ_ q=>q) λ_ _ q=>q
def m4.laid{h':Xe}(x:m4 P w H h)(k:∀b u,h.get? b=some u->h'.get? b=some u)(j:h.objs.size<=a)(d:bR P w (upd H a o) h' a o):m4 P w (upd H a o) h':=λb u e=>by
 let i:=x.fresh j
 by_cases f:b=a
 ·subst f;rw[aR] at e;cases e;show d
 ·rw[aM f] at e
  show(x b u e).stay (λc v _ q=>k c v q) (λc q=>by rw[aM (eD q i)];show q) λc l q=>by rw[aM (eD q i)];show q
def Rd(H:Hp)(a:X8)(u:HO):Prop:=H a=some u\/∃o,H a=some (.frz o u)
def Rd.ok(r:Rd H a u)(x:m4 P w H h):bR P w H h a u:=by
 rcases r with r|⟨o,r⟩
 ·show x a u r
 ·let#[_,q]:=x a _ r
  show q
def OK:Option HO->Prop
 |some (.lst _)=>True
 |some (.dK _)=>True
 |some (.dT _)=>True
 |some (.set _ _)=>True
 |some (.ins _ _ _)=>True
 |some (.ext _)=>True
 |_=>False
def m4.write{h':Xe}(ok:m4 P w H h)(j:OK (H x))(he:e=x\/H e=some (.own x))(k:∀b u,b≠e->h.get? b=some u->h'.get? b=some u)(m:∃u,h'.get? e=some u)
  (n:bR P w (upd H x o') h' x o'):m4 P w (upd H x o') h':=λb u q=>by
 have d:∀c y,H c=some (.own y)->c≠x:=λc y r z=>by subst z;rw[r] at j;show j
 have f:∀c i,H c=some (.tup i)->c≠x:=λc i r z=>by subst z;rw[r] at j;show j
 by_cases g:b=x
 ·subst g;rw[aR] at q;cases q;show n
 ·rw[aM g] at q
  by_cases a:b=e
  ·have o:H b=some (.own x):=by
    rcases he with z|z
    ·show absurd (a.trans z) g
    ·rw[a];show z
   rw[q] at o;cases o
   let#[v,p]:=m
   show#[v,by rw[a];show p]
  ·show(ok b u q).stay (λc v l r=>k c v ?_ r) (λc r=>by rw[aM (d c b r)];show r) λc i r=>by rw[aM (f c i r)];show r
   rcases l with rfl|l
   ·show a
   ·rintro rfl
    rcases he with z|z
    ·show d c b l z
    ·rw[l] at z;cases z;show g L
structure Un(fs ex:X7)(H H':Hp)(h h':Xe):Prop where
 keep:∀b o,h.get? b=some o->H b=none->b∉fs->b∉ex->h'.get? b=some o
 slot:∀b o,h.get? b=some o->H b=none->b∈fs->b∉ex->∃sl,h'.get? b=some {o with slots:=sl}
 free:∀b o,h.get? b=some o->H b=none->b∉ex->H' b=none
 there:∀b o,h.get? b=some o->b∉ex->∃o',h'.get? b=some o'
 tups:∀b xs,H b=some (.tup xs)->H' b=some (.tup xs)
 frzs:∀b o u,H b=some (.frz o u)->H' b=some (.frz o u)
 tbls:∀b ps,H b=some (.tbl ps)->∃more,H' b=some (.tbl (ps++more))
def Un.any{fs:X7}{c:X7}{H:Hp}{H1:Hp}{h:Xe}{d:Xe}(u:Un fs c H H1 h d){b:X8}{j:Obj}(q:h.get? b=some j)(n:H b=none)(l:b∉c):∃sl,d.get? b=some {j with slots:=sl}:=by
 by_cases k:b∈fs
 ·show u.slot b j q n k l
 ·show#[j.slots,u.keep b j q n k l]
def Un.kept{h:Xe}{h':Xe}(k:∀b u,h.get? b=some u->h'.get? b=some u):Un fs c H H h h':=
 #[λb j q _ _ _=>k b j q,λb j q _ _ _=>#[j.slots,k b j q],λ_ _ _ n _=>n,λb j q _=>#[j,k b j q],λ_ _ q=>q,λ_ _ _ q=>q,λ_ l q=>#[(List.toArray []),by rw[q];simp]]
def Un.refl:Un fs c H H h h:=Un.kept λ_ _ q=>q
def Un.laid{H:Hp}{h:Xe}{h':Xe}(k:∀b u,h.get? b=some u->h'.get? b=some u)(l:h.objs.size<=a)(j:H a=none):Un fs c H (upd H a o) h h' where
 keep:=λb u q _ _ _=>k b u q
 slot:=λb u q _ _ _=>#[u.slots,k b u q]
 free:=λb u q n _=>by rw[aM (Qwq<|Qqq (Qiq q) l)];show n
 there:=λb u q _=>#[u,k b u q]
 tups:=λb m q=>by rw[aM (eD q j)];show q
 frzs:=λb u m q=>by rw[aM (eD q j)];show q
 tbls:=λb p q=>#[(List.toArray []),by rw[aM (eD q j),q];simp]
def Un.write{H:Hp}{h:Xe}{h':Xe}(l:OK (H x))(he:e=x\/H e=some (.own x))(k:∀b u,b≠e->h.get? b=some u->h'.get? b=some u)(p:∃u,h'.get? e=some u):Un fs c H (upd H x o) h h':=by
 have t:∀b,H b=none->b≠x:=λb n z=>by subst z;rw[n] at l;show l
 have s:∀b,H b=none->b≠e:=λb n z=>by
  subst z
  rcases he with r|r
  ·show t b n r
  ·rw[n] at r;cases r
 have m:∀b u,H b=some u->¬OK (some u)->b≠x:=λb u q nm z=>by subst z;rw[q] at l;show nm l
 show⟨λb u q n _ _=>k b u (s b n) q,λb u q n _ _=>⟨u.slots,k b u (s b n) q⟩,λb u q n _=>by rw[aM (t b n)];show n,λb u q _=>?_,
  λb v q=>by rw[aM (m b _ q λz=>z)];show q,λb u v q=>by rw[aM (m b _ q λz=>z)];show q,λb w q=>#[(List.toArray []),by rw[aM (m b _ q λz=>z),q];simp]⟩
 by_cases j:b=e
 ·subst j;show p
 ·show#[u,k b u j q]
noncomputable def PZ(h:Xe)(H:Hp):List Addr:=(List.range h.objs.size).filter λa=>(H a).isSome
noncomputable def yj(h:Xe)(H:Hp):Heap:=PySem.W.hideAll h (PZ h H)
def ER(h:Xe)(H:Hp):(yj h H).objs.size=h.objs.size:=PySem.W.hideAll_size _ _
def GZ{h:Xe}{H:Hp}(e:h.get? b=some o)(n:H b=none):(yj h H).get? b=some o:=
 PySem.W.hideAll_get _ e λa=>by
  have q:(H b).isSome=true:=(List.mem_filter.mp a).2
  rw[n] at q;simp at q
def HZ(e:(yj h H).get? b=some o):h.get? b=some o/\H b=none:=by
 have a:h.get? b=some o:=PySem.W.of_hideAll (PZ h H) e
 show#[a,?_]
 cases q:H b with
 |none=>rfl
 | some x=>
   have c:b∈PZ h H:=List.mem_filter.mpr #[List.mem_range.mpr<|Qiq a,by simp[q]]
   have z:(yj h H).get? b=none:=PySem.W.hideAll_none (PZ h H) c
   rw[z] at e;cases e
structure Mod(K:X1)(mg:X3)(base:Xe):Prop where
 kin:K.In base
 glob:base.Ns mainGlobals mg
 blt:∃mb,base.Ns builtinsNs mb/\∀x:Str,x≠"__name__" ->mb x=bootBuiltins x
 nolimit:base.NoLimit
structure Cx where
 prog:Program
 w:World
 K:PySem.W.Frag
 mg:Str->Option Value
 base:Heap
 A:Around
 N:List Str
 s₀:Shared
 H₀:Hp
 env:Env
 outer:List Env
 stack:List Env
 ex:List Addr
 fn:Str->Bool
 calm:Bool
 pn:List (Addr×Obj)
 xe:Value->Shared->Prop
noncomputable def GS(l:List Env):List Addr:=l.filterMap (·.frame)
noncomputable abbrev Cx.fs(X:Cx):List Addr:=GS X.outer
def IA(a:Scope)(x:Str):Prop:=a.names.lookup x=some .local\/a.names.lookup x=some .cell\/a.names.lookup x=some .free
def Loc(a:Scope)(x:Str):Prop:=a.names.lookup x=some .local\/a.names.lookup x=some .cell
def Look(env:Env)(h:Xe)(m:X3)(x:Str)(u:Xd):Prop:=
 (env.kindOf x=some .local/\m x=some u)\/((env.kindOf x=some .cell\/env.kindOf x=some .free)/\∃c,env.cells.lookup x=some c/\h.IsCell c (some u))
structure Cx.Ok(X:Cx):Prop where
 mod:Mod X.K X.mg X.base
 kind:X.env.scope.kind=.function
 glob:X.env.globals=mainGlobals
 blt:X.env.builtins=builtinsNs
 above:X.s₀.heap.objs.size<=X.env.locals
 inj:∀x y c,X.env.cells.lookup x=some c->X.env.cells.lookup y=some c->x=y
 has:∀x,(X.env.kindOf x=some .cell\/X.env.kindOf x=some .free)->∃c,X.env.cells.lookup x=some c
 cab:∀x c,X.fn x=true->X.env.cells.lookup x=some c->X.s₀.heap.objs.size<=c
 hd:X.calm=true->X.A.handled=none
 frames:X.A.frames=some X.stack
 stk:X.stack=X.outer\/(X.stack=X.env::X.outer/\X.env.frame=some X.env.locals)
 exf:∀b∈X.ex,b≠X.env.locals/\∀x c,X.env.cells.lookup x=some c->c≠b
 bs:∀b o,X.base.get? b=some o->X.s₀.heap.get? b=some o/\X.H₀ b=none
 bsz:X.base.objs.size<=X.s₀.heap.objs.size
 noex:∀b o,X.base.get? b=some o->b∉X.ex
 exfs:∀b∈X.ex,b∉X.fs
 funs:X.s₀.heap.FunFrames X.base X.outer
 frf:∀b∈X.fs,X.H₀ b=none
structure Inv(X:Cx)(pins:X2)(σ:List (Option V))(H:Hp)(s:X4):Prop where
 ok:X.Ok
 os:s.os=X.s₀.os
 bare:AllBare s.gens
 base:Un X.fs X.ex X.H₀ H X.s₀.heap s.heap
 loc:∃m,s.heap.Ns X.env.locals m/\∀(i:Nat) (x:Str) (v:V),X.N[i]?=some x->σ[i]?=some (some v)->IA X.env.scope x->∃u,RelV v u/\Look X.env s.heap m x u
 cell:∀x c,X.env.cells.lookup x=some c->∃v,s.heap.IsCell c v
 free:H X.env.locals=none
 freeC:∀x c,X.env.cells.lookup x=some c->H c=none
 pin:∀p∈X.pn++pins,s.heap.get? p.1=some p.2/\H p.1=none/\p.1≠X.env.locals/\p.1∉X.fs/\∀v,p.2.data≠.cell v
 hok:m4 X.prog X.w H s.heap
 len:σ.length=X.N.length
def Cx.Ok.nofr{X:Cx}(ok:X.Ok)(e:X.base.get? b=some o):b∉X.fs:=λa=>by
 have:=(ok.funs.mem a).1
 rw[e] at this;cases this
def Inv.bs(I:Inv X f σ H s):∀b o,X.base.get? b=some o->s.heap.get? b=some o/\H b=none:=λb o e=>
 #[I.base.keep b o (I.ok.bs b o e).1 (I.ok.bs b o e).2 (I.ok.nofr e)<|I.ok.noex b o e,I.base.free b o (I.ok.bs b o e).1 (I.ok.bs b o e).2<|I.ok.noex b o e]
def Inv.bk(I:Inv X f σ H s):∀b o,X.base.get? b=some o->s.heap.get? b=some o:=λb o e=>(I.bs b o e).1
def Inv.mod(I:Inv X f σ H s):Mod X.K X.mg X.base:=I.ok.mod
def Inv.kIn(I:Inv X f σ H s):X.K.In s.heap:=I.ok.mod.kin.keeps I.bk
def Inv.lt(I:Inv X f σ H s):X.env.locals<s.heap.objs.size:=let ⟨_,hn,_⟩:=I.loc;hn.lt
def Inv.sz(I:Inv X f σ H s):X.s₀.heap.objs.size<=s.heap.objs.size:=QAq I.ok.above (nQl I.lt)
def Inv.nofs(I:Inv X f σ H s)(h:s.heap.objs.size<=a):a∉X.fs:=λc=>by
 let#[_,o,b,_]:=I.ok.funs.mem c
 show absurd (Qqq (Qiq b)<|QAq I.sz h)<|Nat.lt_irrefl _
def Inv.cne(I:Inv X f σ H s):∀x c,X.env.cells.lookup x=some c->c≠X.env.locals:=λx c e z=>by
 let#[v,o,h,d]:=I.cell x c e
 let#[m,#[k,j,i,b,a,_],_]:=I.loc
 rw[z,b] at h;cases h;rw[a] at d;cases d
theorem Inv.funs(I:Inv X f σ H s):s.heap.FunFrames X.base X.outer:=by
 have h:∀(l:List Env),(∀b∈GS l,b∈X.fs)->X.s₀.heap.FunFrames X.base l->s.heap.FunFrames X.base l:=by
  intro l
  induction l with
  |nil=>intro _ _;trivial
  | cons m r t=>
    intro i hl
    let#[k,#[L,o,d,q,n,j],p]:=hl
    have c:L∈X.fs:=i L (by unfold GS;rw[List.filterMap_cons,d];show QBq)
    let#[sl,e]:=I.base.slot L o n (I.ok.frf L c) c λz=>I.ok.exfs L z c
    show#[k,#[L,_,d,q,e,j],t (λb a=>i b (by unfold GS;rw[List.filterMap_cons,d];show Qpq _ a)) p]
 show h X.outer (λ_ a=>a) I.ok.funs
def Inv.stack(I:Inv X f σ H s):s.heap.FunFrames X.base X.stack:=by
 rcases I.ok.stk with e|⟨e,a⟩
 ·rw[e];show I.funs
 ·rw[e]
  let#[m,b,_]:=I.loc
  show .cons (by rw[I.ok.kind];decide) a b ?_ I.funs
  show Heap.get?_none_of_le<|QAq I.ok.bsz I.ok.above
def Inv.stkSub(I:Inv X f σ H s):∀b∈GS X.stack,b∈X.env.locals::X.fs:=λb a=>by
 rcases I.ok.stk with e|⟨e,c⟩
 ·rw[e] at a;show Qpq _ a
 ·rw[e] at a
  unfold GS at a
  rw[List.filterMap_cons,c] at a
  show a
def Inv.stkFree(I:Inv X f σ H s):∀b∈GS X.stack,H b=none:=λb a=>by
 rcases Qsq.mp (I.stkSub b a) with e|a
 ·rw[e];show I.free
 ·let#[_,o,c,_]:=I.ok.funs.mem a
  show I.base.free b o c (I.ok.frf b a) λz=>I.ok.exfs b z a
def Inv.step{X:Cx}{f:X2}{σ:List (Option V)}{H:Hp}{g:Hp}{s:X4}{h':Xe}{g':Array GenState}{t':Nat}{d':Drawn}{ch:X7}(I:Inv X f σ H s)
  (A:∀b∈ch,(b∈X.ex\/X.s₀.heap.objs.size<=b)/\b≠X.env.locals/\(∀x c,X.env.cells.lookup x=some c->c≠b)/\∀p∈X.pn++f,p.1≠b)
  (y:∀b o,b≠X.env.locals->b∉X.fs->b∉ch->s.heap.get? b=some o->H b=none->h'.get? b=some o)
  (F:∀b o,b≠X.env.locals->b∈X.fs->b∉ch->s.heap.get? b=some o->H b=none->∃sl,h'.get? b=some {o with slots:=sl}) (h:∀b o,b∉ch->s.heap.get? b=some o->H b=none->g b=none)
  (J:∀b o,b∉ch->s.heap.get? b=some o->∃o',h'.get? b=some o')
  (Q:∀b xs,H b=some (.tup xs)->g b=some (.tup xs)) (N:∀b o u,H b=some (.frz o u)->g b=some (.frz o u)) (R:∀b ps,H b=some (.tbl ps)->∃more,g b=some (.tbl (ps++more)))
  (ns:∀m,s.heap.Ns X.env.locals m->h'.Ns X.env.locals m) (U:m4 X.prog X.w g h') (hg:AllBare g'):
  Inv X f σ g {s with heap:=h',gens:=g',drawn:=d',toks:=t'}:=by
 have M:∀b o,X.s₀.heap.get? b=some o->b≠X.env.locals:=λb o e=>Qwq (Qqq (Qiq e) I.ok.above)
 have B:∀b o,X.s₀.heap.get? b=some o->b∉X.ex->b∉ch:=λb o e a G=>by
  rcases(A b G).1 with z|z
  ·show a z
  ·show absurd (Qqq (Qiq e) z)<|Nat.lt_irrefl _
 have j:∀x c,X.env.cells.lookup x=some c->∀v,s.heap.IsCell c v->h'.IsCell c v:=λx c e v qq=>by
  let#[o,K,S]:=qq
  have t:c∉ch:=λz=>(A c z).2.2.1 x c e L
  by_cases hc:c∈X.fs
  ·let#[sl,q]:=F c o (I.cne x c e) hc t K (I.freeC x c e)
   show#[_,q,S]
  ·show#[o,y c o (I.cne x c e) hc t K<|I.freeC x c e,S]
 show#[I.ok,I.os,hg,#[λb o e n G a=>?_,λb o e n G a=>?_,λb o e n a=>?_,λb o e a=>?_,λb xs e=>Q b xs<|I.base.tups b xs e,λb o xs e=>N b o xs<|I.base.frzs b o xs e,λb ps e=>?_],?_,λx c e=>?_,?_,λx c e=>?_,λp Z=>?_,U,I.len]
 ·show y b o (M b o e) G (B b o e a) (I.base.keep b o e n G a)<|I.base.free b o e n a
 ·let#[sl,C]:=I.base.slot b o e n G a
  let#[W,P]:=F b _ (M b o e) G (B b o e a) C (I.base.free b o e n a)
  show#[W,P]
 ·let#[o',C]:=I.base.there b o e a
  show h b o' (B b o e a) C<|I.base.free b o e n a
 ·let#[o',C]:=I.base.there b o e a
  show J b o' (B b o e a) C
 ·let#[m1,C]:=I.base.tbls b ps e
  let#[m2,P]:=R b _ C
  show#[m1++m2,by rw[P,Array.append_assoc]]
 ·let#[m,hn,hl]:=I.loc
  show#[m,ns m hn,λi x v C P e3=>?_]
  let#[u,r,l]:=hl i x v C P e3
  show#[u,r,?_]
  rcases l with l|⟨k,c,e,z⟩
  ·show .inl l
  ·show .inr #[k,c,e,j x c e _ z]
 ·let#[v,z]:=I.cell x c e
  show#[v,j x c e v z]
 ·let#[m,#[o,_,_,K,_],_]:=I.loc
  show h _ o (λz=>(A _ z).2.1 L) K I.free
 ·let#[v,o,K,S]:=I.cell x c e
  show h c o (λz=>(A c z).2.2.1 x c e L) K<|I.freeC x c e
 ·let#[e,n,Y,nf,d]:=I.pin p Z
  have t:p.1∉ch:=λz=>(A p.1 z).2.2.2 p Z L
  show#[y p.1 p.2 Y nf t e n,h p.1 p.2 t e n,Y,nf,d]
def Inv.un(I:Inv X f σ H s)(u:Un X.fs [] H g s.heap h')(i:m4 X.prog X.w g h'):Inv X f σ g {s with heap:=h',toks:=t'}:=by
 let#[m,#[o,q,x,j,r],_]:=id I.loc
 let#[sl,l]:=u.any j I.free (by simp)
 show I.step (g':=s.gens) (d':=s.drawn) (ch:= []) (λ_ z=>nomatch z) (λb o _ c _ e n=>u.keep b o e n c (by simp)) (λb o _ c _ e n=>u.slot b o e n c (by simp)) (λb o _ e n=>u.free b o e n (by simp)) (λb o _ e=>u.there b o e (by simp)) u.tups u.frzs u.tbls (λv p=>by
  let#[t,h,d,a,k]:=p
  rw[j] at a;cases a
  show#[_,h,d,l,k]) i I.bare
def Inv.call(I:Inv X f σ H s)(u:Un (GS X.stack) ch H g s.heap h')(l:m4 X.prog X.w g h')(y:AllBare g')
  (h:∀b∈ch,(b∈X.ex\/X.s₀.heap.objs.size<=b)/\b≠X.env.locals/\(∀x c,X.env.cells.lookup x=some c->c≠b)/\∀p∈X.pn++f,p.1≠b):
  Inv X f σ g {s with heap:=h',gens:=g',drawn:=d',toks:=t'}:=by
 let#[m,#[o,B,G,q,r],_]:=id I.loc
 let#[sl,j]:=u.any q I.free λz=>(h _ z).2.1 L
 show I.step (ch:=ch) h (λb o j v a e n=>u.keep b o e n (λz=>(Qsq.mp (I.stkSub b z)).elim j v) a) (λb o _ _ a e n=>u.any e n a) (λb o a e n=>u.free b o e n a) (λb o a e=>u.there b o e a) u.tups u.frzs u.tbls (λF A=>by
  let#[C,k,i,d,t]:=A
  rw[q] at d;cases d
  show#[_,k,i,j,t]) l y
def Inv.turned{h':Xe}(I:Inv X f σ H s)(k:∀b o,b≠it->s.heap.get? b=some o->h'.get? b=some o)(A:H it=none)(h:it≠X.env.locals)
  (l:it∈X.ex\/X.s₀.heap.objs.size<=it) (i:∀x c,X.env.cells.lookup x=some c->c≠it) (y:∀p∈X.pn++f,p.1≠it):Inv X f σ H {s with heap:=h',toks:=t'}:=by
 have d:∀b u,H b=some u->b≠it:=λb u e z=>by rw[z,A] at e;cases e
 show I.step (g':=s.gens) (d':=s.drawn) (ch:= [it]) (λb j=>?_) (λb o _ _ a e _=>k b o (λz=>a (by simp[z])) e) (λb o _ _ a e _=>#[o.slots,k b o (λz=>a (by simp[z])) e]) (λ_ _ _ _ n=>n)
  (λb o a e=>#[o,k b o (λz=>a (by simp[z])) e]) (λ_ _ e=>e) (λ_ _ _ e=>e) (λb F e=>#[(List.toArray []),by rw[e];simp]) (λm B=>?_) (λb u e=>?_) I.bare
 ·have e:b=it:=by simpa using j
  subst e
  show#[l,h,i,y]
 ·let#[o,w,C,t,r]:=B
  show#[o,w,C,k _ o (Ne.symm h) t,r]
 ·show(I.hok b u e).stay (λc v a q=>k c v ?_ q) (λ_ q=>q) λ_ _ q=>q
  rcases a with z|z
  ·rw[z];show d b u e
  ·show d c _ z
def Inv.tok(I:Inv X f σ H s)(t:Nat):Inv X f σ H {s with toks:=t}:=I.un (h':=s.heap) (t':=t) Un.refl I.hok
def Inv.kept{h':Xe}(I:Inv X f σ H s)(k:∀b u,s.heap.get? b=some u->h'.get? b=some u):Inv X f σ H {s with heap:=h',toks:=t'}:=I.un (Un.kept k) (I.hok.kept k)
def Inv.laid{h':Xe}(I:Inv X f σ H s)(k:∀b u,s.heap.get? b=some u->h'.get? b=some u)(c:s.heap.objs.size<=a)(d:bR X.prog X.w (upd H a o) h' a o):
  Inv X f σ (upd H a o) {s with heap:=h',toks:=t'}:=I.un (Un.laid k c<|I.hok.fresh c) (I.hok.laid k c d)
def Inv.write{h':Xe}(I:Inv X f σ H s)(d:OK (H x))(he:e=x\/H e=some (.own x))(k:∀b u,b≠e->s.heap.get? b=some u->h'.get? b=some u)(a:∃u,h'.get? e=some u)
  (c:bR X.prog X.w (upd H x o) h' x o):Inv X f σ (upd H x o) {s with heap:=h',toks:=t'}:=I.un (Un.write d he k a) (I.hok.write d he k a c)
def Inv.pins_of(I:Inv X f σ H s)(h:∀p∈a,s.heap.get? p.1=some p.2/\H p.1=none/\p.1≠X.env.locals/\p.1∉X.fs/\∀v,p.2.data≠.cell v):Inv X a σ H s:=
 #[I.ok,I.os,I.bare,I.base,I.loc,I.cell,I.free,I.freeC,λp b=>(mQa.mp b).elim (λz=>I.pin p<|List.mem_append_left _ z) (h p),I.hok,I.len]
def zI{N:X6}(d:N.Nodup){i j:Nat}{x:Str}(a:N[i]?=some x)(b:N[j]?=some x):i=j:=by
 let#[k,c]:=gQs.mp a
 let#[h,e]:=gQs.mp b
 show(List.getElem_inj d).mp (c.trans e.symm)
def EZ{E:X0}{Q:Unit->Shared->Prop}(I:Inv X f σ H s)(hN:X.N.Nodup)(hi:X.N[i]?=some x)(F:Loc X.env.scope x)(r:RelV v u)
  (h:∀s',Inv X f (σ.set i<|some v) H s'->(∃a,Heap.SameBut a s.heap s'.heap/\(a=X.env.locals\/X.env.cells.lookup x=some a))->Q () s') (hf:autoParam (X.fn x=true\/X.env.scope.names.lookup x=some .local) cC._auto_1):wpAny M A (storeName X.env x u) Q E s:=by
 let#[m,hn,hl]:=id I.loc
 have a2:(X.env.scope.kind==.class||(X.env.scope.kind==.module&&X.env.locals !=X.env.globals))=false:=by rw[I.ok.kind];rfl
 have P:i<σ.length:=by rw[I.len];show(gQs.mp hi).1
 let S:=I.cne
 have t:∀{a:X8} {h':Xe},(∃o,s.heap.get? a=some o/\H a=none)->Heap.SameBut a s.heap h'->m4 X.prog X.w H h':=λ{a h'} ha l b ob e=>by
  let#[_,_,G]:=ha
  show(I.hok b ob e).stay (λc w' C q=>(l.2 c ?_).trans q) (λ_ q=>q) λ_ _ q=>q
  rintro rfl
  rcases C with rfl|C
  ·rw[G] at e;cases e
  ·rw[G] at C;cases C
 rcases F with K|K
 ·show wpAny_storeName_local K hn (λh' a3 l=>?_) a2
  let#[oL,_,_,a4,_]:=id hn
  show h _ #[I.ok,I.os,I.bare,#[λb o e n R F=>?_,λb o e n R F=>?_,I.base.free,λb o e F=>?_,I.base.tups,I.base.frzs,I.base.tbls],#[_,a3,λj y v' B J e3=>?_],λy c e=>?_,I.free,I.freeC,λp hp=>?_,t #[oL,a4,I.free] l,by simpa using I.len] #[_,l,.inl L]
  ·show(l.2 b<|Qwq<|Qqq (Qiq e) I.ok.above).trans (I.base.keep b o e n R F)
  ·let#[sl,B]:=I.base.slot b o e n R F
   show#[sl,(l.2 b<|Qwq<|Qqq (Qiq e) I.ok.above).trans B]
  ·let#[o',B]:=I.base.there b o e F
   show#[o',(l.2 b<|Qwq<|Qqq (Qiq e) I.ok.above).trans B]
  ·by_cases U:j=i
   ·subst U
    rw[hi] at B;cases B
    rw[Qyq P] at J
    cases J
    show#[u,r,.inl #[K,by simp]]
   ·rw[QKq (Ne.symm U)] at J
    let#[u',r',q]:=hl j y v' B J e3
    show#[u',r',?_]
    rcases q with⟨k,e⟩|⟨k,c,e,z⟩
    ·show .inl #[k,?_]
     have:y≠x:=λe=>U (zI hN B (e▸hi))
     simp[this,e]
    ·show .inr #[k,c,e,z.sameBut l<|S y c e]
  ·let#[w',z]:=I.cell y c e
   show#[w',z.sameBut l<|S y c e]
  ·let#[e,n,ne,nf,d]:=I.pin p hp
   show#[(l.2 p.1 ne).trans e,n,ne,nf,d]
 ·have W:X.fn x=true:=by
   rcases hf with z|z
   ·show z
   ·rw[z] at K;cases K
  let#[c,C]:=I.ok.has x (.inl K)
  let#[w',z]:=I.cell x c C
  show wpAny_storeName_cell I.ok.kind K C z (λh' a1 l=>?_)
  let#[oc,Y,Z]:=id z
  show h {s with heap:=h'} #[I.ok,I.os,I.bare,#[λb o e n R F=>?_,λb o e n R F=>?_,I.base.free,λb o e F=>?_,I.base.tups,I.base.frzs,I.base.tbls],#[m,hn.sameBut l<|Ne.symm<|S x c C,λj y v' B J e3=>?_],λy c' e=>?_,I.free,I.freeC,λp hp=>?_,t #[oc,Y,I.freeC x c C] l,by simpa using I.len] #[c,l,.inr C]
  ·show(l.2 b<|Qwq<|Qqq (Qiq e)<|I.ok.cab x c W C).trans (I.base.keep b o e n R F)
  ·let#[sl,B]:=I.base.slot b o e n R F
   show#[sl,(l.2 b<|Qwq<|Qqq (Qiq e)<|I.ok.cab x c W C).trans B]
  ·let#[o',B]:=I.base.there b o e F
   show#[o',(l.2 b<|Qwq<|Qqq (Qiq e)<|I.ok.cab x c W C).trans B]
  ·by_cases U:j=i
   ·subst U
    rw[hi] at B;cases B
    rw[Qyq P] at J
    cases J
    show#[u,r,.inr #[.inl K,c,C,a1]]
   ·rw[QKq (Ne.symm U)] at J
    let#[u',r',q]:=hl j y v' B J e3
    show#[u',r',?_]
    rcases q with q|⟨k,c',e,z'⟩
    ·show .inl q
    ·show .inr #[k,c',e,z'.sameBut l ?_]
     rintro rfl
     show U<|zI hN B (I.ok.inj _ _ _ e C▸hi)
  ·by_cases a0:c'=c
   ·subst a0;show#[_,a1]
   ·let#[w2,z2]:=I.cell y c' e
    show#[w2,z2.sameBut l a0]
  ·let#[e,n,ne,nf,d]:=I.pin p hp
   show#[(l.2 p.1 ?_).trans e,n,ne,nf,d]
   intro q
   rw[q,Y] at e
   have q':oc=p.2:=QdQ e
   show d w' (by rw[<-q'];show Z)
def kE{E:X0}{Q:Unit->Shared->Prop}(I:Inv X f σ H s)(c:X.N.Nodup)(hi:X.N[i]?=some x)(d:Loc X.env.scope x)(r:RelV v u)
  (h:∀s',Inv X f (σ.set i<|some v) H s'->Q () s') (a:autoParam (X.fn x=true\/X.env.scope.names.lookup x=some .local) cC._auto_1):wpAny M A (storeName X.env x u) Q E s:=
 EZ I c hi d r (λs' b _=>h s' b) a
def Inv.call'{s':X4}(I:Inv X f σ H s)(h:s'.os=s.os)(u:Un (GS X.stack) ch H g s.heap s'.heap)(a:m4 X.prog X.w g s'.heap)(i:AllBare s'.gens)
  (d:∀b∈ch,(b∈X.ex\/X.s₀.heap.objs.size<=b)/\b≠X.env.locals/\(∀x c,X.env.cells.lookup x=some c->c≠b)/\∀p∈X.pn++f,p.1≠b):Inv X f σ g s':=by
 let#[h',g',d',t',j]:=s'
 have e:j=s.os:=h
 subst e
 show I.call (g':=g') (t':=t') (d':=d') u a i d
abbrev XK:=Value->Option Addr->Hp->Prop
abbrev St:=List (Option V)
abbrev VK:=V->Hp->Prop
abbrev TE:=St->Hp->VK->Prop
abbrev TT:=St->Hp->(Bool->Hp->Prop)->Prop
abbrev TA:=St->Hp->(List V->Hp->Prop)->Prop
structure Ends where
 nx:St->Hp->Prop
 rt:VK
 bk:St->Hp->Prop:=λ_ _=>False
 ct:St->Hp->Prop:=λ_ _=>False
abbrev TS:=Ends->St->Hp->Prop
def EP(X:Cx)(a:X2)(σ:St)(Q:VK)(u:Xd)(s':X4):Prop:=∃v b,Inv X a σ b s'/\RelV v u/\Q v b
def TP(X:Cx)(a:X2)(σ:St)(Q:Bool->Hp->Prop)(b:Bool)(s':X4):Prop:=∃c,Inv X a σ c s'/\Q b c
def AP(X:Cx)(a:X2)(σ:St)(Q:List V->Hp->Prop)(d:X5)(s':X4):Prop:=∃b c,Inv X a σ c s'/\bo b d/\Q b c
def SP(X:Cx)(b:X2)(D:Ends)(f:Flow)(s':X4):Prop:=
 match f with
 |.next=>∃a c,Inv X b a c s'/\D.nx a c
 |.brk=>∃a c,Inv X b a c s'/\D.bk a c
 |.cont=>∃a c,Inv X b a c s'/\D.ct a c
 |.ret u=>∃v a c,Inv X b a c s'/\RelV v u/\D.rt v c
def PE(X:Cx)(e:Expr)(t:TE):Prop:=
 ∀(a:X2) (s:X4) (b:St) (H:Hp) (Q:VK),Inv X a b H s->t b H Q->wpAny (model X.prog X.w) X.A (eval e X.env) (EP X a b Q) X.xe s
def PT(X:Cx)(e:Expr)(t:TT):Prop:=
 ∀(a:X2) (s:X4) (b:St) (H:Hp) (Q:Bool->Hp->Prop),Inv X a b H s->t b H Q->wpAny (model X.prog X.w) X.A (isTrue e X.env<|eval e X.env) (TP X a b Q) X.xe s
def PW(X:Cx)(e:Expr)(t:TT):Prop:=
 ∀(b:Sem Value) (a:X2) (s:X4) (c:St) (H:Hp) (Q:Bool->Hp->Prop),Inv X a c H s->t c H Q->wpAny (model X.prog X.w) X.A (isTrue e X.env b) (TP X a c Q) X.xe s
def PW.pt(h:PW X e t):PT X e t:=h _
def PA(X:Cx)(es:List Expr)(t:TA):Prop:=
 ∀(b:Pos) (a:X2) (s:X4) (c:St) (H:Hp) (Q:List V->Hp->Prop),Inv X a c H s->t c H Q->wpAny (model X.prog X.w) X.A (spliced<|backTo b<|starEach es X.env) (AP X a c Q) X.xe s
def PS(X:Cx)(st:Stmt)(t:TS):Prop:=
 ∀(a:X2) (s:X4) (b:St) (H:Hp) (D:Ends),Inv X a b H s->t D b H->wpAny (model X.prog X.w) X.A (exec st X.env) (SP X a D) X.xe s
def qR(X:Cx)(st:List Stmt)(t:TS):Prop:=
 ∀(a:X2) (s:X4) (b:St) (H:Hp) (D:Ends),Inv X a b H s->t D b H->wpAny (model X.prog X.w) X.A (execs st X.env) (SP X a D) X.xe s
def cj{Q b:α->Shared->Prop}{E:X0}(h:wpAny M A t Q E s)(c:∀a s,Q a s->b a s):wpAny M A t b E s:=QRq h c λ_ _ x=>x
def Lu(i:Nat):TE:=λa H Q=>∃v,a[i]?=some (some v)/\Q v H
def tC(v:V):TE:=λ_ H Q=>Q v H
def GD{X:Cx}(p:X.N[i]?=some x)(w:IA X.env.scope x)(j:autoParam ((x==("__debug__":Str))=false) cL._auto_1)(k:autoParam ((x==("__classdict__":Str))=false) cL._auto_1):PE X (.Name x f) (Lu i):=by
 intro g s o H Q I h
 let#[v,e,h]:=h
 let#[m,q,hl]:=I.loc
 let#[u,r,l]:=hl i x v p e w
 have b:EP X g o Q u s:=#[v,H,I,r,h]
 rcases l with⟨d,t⟩|⟨d,c,n,a⟩
 ·show wpAny_Name (wpAny_loadName_local I.ok.kind d q t b) j
 ·rcases d with d|d
  ·show wpAny_Name (wpAny_loadName_cell I.ok.kind d n a b) j
  ·show wpAny_Name (wpAny_loadName_free I.ok.kind d n a b k) j
def Lq{i j f}:PE X (.Constant (.int i) j f) (tC<|.int i):=λ_ _ _ H _ I h=>wpAny_Constant_int #[.int i,H,I.tok _,#[_,L],h]
def Ov{b j f}:PE X (.Constant (.bool b) j f) (tC<|.bl b):=λ_ _ _ H _ I h=>Constant_bool #[.bl b,H,I,L,h]
def LP{j f}:PE X (.Constant .none j f) (tC .non):=λ_ _ _ H _ I h=>Constant_none #[.non,H,I,L,h]
def Mr{x j f}:PE X (.Constant (.str x) j f) (tC<|.str x):=λ_ _ _ H _ I h=>Calls.Constant_str #[.str x,H,I.tok _,#[_,L],h]
def Gl(X:Cx)(x:Str):Prop:=X.env.kindOf x=some .globalImplicit
def xR{E:X0}{Q:X0}(I:Inv X a σ H s)(d:Gl X x)(c:X.mg x=some u)(h:Q u s)
  (b:autoParam ((x==("__debug__":Str))=false) cL._auto_1):wpAny (model X.prog X.w) X.A (eval (.Name x f) X.env) Q E s:=
 Calls.Name_function_global I.ok.kind d (Calls.loadGlobal_global (by rw[I.ok.glob];show I.mod.glob.keeps I.bk) c h) b
def ju{E:X0}{Q:X0}(I:Inv X a σ H s)(d:Gl X x)(i:X.mg x=none)(j:bootBuiltins x=some u)(h:Q u s)
  (g:autoParam (x≠"__name__") cL._auto_1) (b:autoParam ((x==("__debug__":Str))=false) cL._auto_1):wpAny (model X.prog X.w) X.A (eval (.Name x f) X.env) Q E s:=by
 let#[k,e,c]:=I.mod.blt
 show Calls.Name_function_global I.ok.kind d (Calls.loadGlobal_builtin (by rw[I.ok.glob];show I.mod.glob.keeps I.bk) i (by rw[I.ok.blt];show e.keeps I.bk) ((c x g).trans j) h) b
def Dw(c:Gl X x)(b:X.mg x=some u)(r:RelV v u)(a:autoParam ((x==("__debug__":Str))=false) cL._auto_1):PE X (.Name x f) (tC v):=
 λ_ _ _ H _ I h=>xR I c b #[v,H,I,r,h] a
def Io(d:Gl X x)(b:X.mg x=none)(c:bootBuiltins x=some u)(r:RelV v u)(e:autoParam (x≠"__name__") cL._auto_1)(a:autoParam ((x==("__debug__":Str))=false) cL._auto_1):PE X (.Name x f) (tC v):=
 λ_ _ _ H _ I h=>ju I d b c #[v,H,I,r,h] e a
def PC(X:Cx)(op:CmpOp)(a b:Expr)(t:TE):Prop:=
 ∀ (c:X2) (s:X4) (g:St) (H:Hp) (Q:VK),Inv X c g H s->t g H Q->
   wpAny (model X.prog X.w) X.A (eval a X.env) (λv e=>wpAny (model X.prog X.w) X.A (eval b X.env) (λu d=>wpAny (model X.prog X.w) X.A (compareOp op v u) (EP X c g Q) X.xe d) X.xe e) X.xe s
def tB(t:TE):TT:=λd H Q=>t d H λx H1=>∃c,x=.bl c/\Q c H1
def Gy(h:PC X op a b t)(g:autoParam (behindInMarks op b=false) cS._auto_1):PT X (.Compare a [op] [b] f) (tB t):=by
 intro e s o H Q I n
 show wpAny_isTrue_Compare1 (cj (h e s o H _ I n) λv w g=>cj g λu r i=>cj i λc y ⟨x,H1,l,j,m⟩=>?_) g
 let#[d,rfl,q]:=m
 cases j
 show wpAny_truthy_bool #[H1,l,q]
def QO(t u:TT):TT:=λd H Q=>t d H λc H1=>if c=true then u d H1 Q else Q false H1
def Su(t u:TT):TT:=λd H Q=>t d H λc H1=>if c=true then Q true H1 else u d H1 Q
def Ru(t:TT):TT:=λd H Q=>t d H λc H1=>Q (!c) H1
def Ii(i:PT X a n):PW X (.BoolOp .And [a] f) n:=by
 intro l d s j H Q I h
 show isTrue_and (cj (i d s j H Q I h) λc m e=>?_)
 cases c with
 |true=>show isTrue_and_nil e
 |false=>show e
def MM(i:PT X a n):PW X (.BoolOp .Or [a] f) n:=by
 intro l d s j H Q I h
 show isTrue_or (cj (i d s j H Q I h) λc m e=>?_)
 cases c with
 |false=>show isTrue_or_nil e
 |true=>show e
def LX(l:PT X a n)(r:PW X (.BoolOp .And (b::g) f) o):PW X (.BoolOp .And (a::b::g) f) (QO n o):=by
 intro m d s j H Q I h
 show isTrue_and (cj (l d s j H _ I h) λc q t=>?_)
 let#[H1,i,e]:=t
 cases c with
 |true=>show r m d q j H1 Q i e
 |false=>show#[H1,i,e]
def NW(l:PT X a n)(r:PW X (.BoolOp .Or (b::g) f) o):PW X (.BoolOp .Or (a::b::g) f) (Su n o):=by
 intro m d s j H Q I h
 show isTrue_or (cj (l d s j H _ I h) λc q t=>?_)
 let#[H1,i,e]:=t
 cases c with
 |true=>show#[H1,i,e]
 |false=>show r m d q j H1 Q i e
def Ni(e:PT X a n):PT X (.UnaryOp .Not a f) (Ru n):=by
 intro d s i H Q I h
 show isTrue_not<|e d s i H (λc H1=>Q (!c) H1) I h
def PD(k p:TE):TE:=λd H Q=>k d H λx H1=>∃c,x=.bl c/\if c=true then p d H1 Q else Q (.bl false) H1
def NX(k:TE):TE:=λd H Q=>k d H λx H1=>∃c,x=.bl c/\Q (.bl (!c)) H1
def Ma{op}{t:TE}(h:PE X a t):PE X (.BoolOp op [a] f) t:=λc s e H Q I d=>BoolOp_one (h c s e H Q I d)
def M7(t:PE X a k)(m:PE X (.BoolOp .And (b::g) f) p):PE X (.BoolOp .And (a::b::g) f) (PD k p):=by
 intro d s j H Q I h
 show BoolOp_and (cj (t d s j H _ I h) λv q r=>?_)
 let#[x,H1,i,l,e]:=r
 let#[c,rfl,e]:=e
 cases l
 show wpAny_truthy_bool ?_
 cases c with
 |true=>show m d q j H1 Q i e
 |false=>show#[.bl false,H1,i,L,e]
def Lh(i:PE X a k):PE X (.UnaryOp .Not a f) (NX k):=by
 intro d s q H Q I h
 show UnaryOp_ (cj (i d s q H _ I h) λv r m=>?_)
 let#[x,H1,l,j,e]:=m
 let#[c,rfl,e]:=e
 cases j
 show not_of<|wpAny_truthy_bool #[.bl (!c),H1,l,L,e]
def Sx(t:TT)(k p:TE):TE:=λd H Q=>t d H λc H1=>if c=true then k d H1 Q else p d H1 Q
def Fl(u:PT X c n)(q:PE X a k)(r:PE X b p):PE X (.IfExp c a b f) (Sx n k p):=by
 intro e s i H Q I h
 show wpAny_IfExp (cj (u e s i H _ I h) λd l t=>?_)
 let#[H1,m,j]:=t
 cases d with
 |true=>show q e l i H1 Q m j
 |false=>show r e l i H1 Q m j
def ji(K:X1)(H:Hp)(a:X8)(xs:List V):Prop:=
 Rd H a (.lst xs)∨
  ∃(o:Obj) (b:Xa) (n:Nat),K.lookup a=some o/\o.cls=.type "list" /\o.dict=none/\o.data=.seq b n/\b.size<=sizeLine/\bo xs b.toList
def gh(K:X1)(H:Hp)(a:X8)(xs:List V):Prop:=
 Rd H a (.tup xs)∨
  ∃(o:Obj) (b:Xa) (n:Nat),K.lookup a=some o/\o.cls=.type "tuple" /\o.data=.seq b n/\b.size<=sizeLine/\bo xs b.toList
noncomputable def Rt:Value->Option V
 |.none=>some .non
 |.bool b=>some (.bl b)
 |.int i _=>some (.int i)
 |.str x _=>some (.str x)
 |.bytes b _=>some (.byt b)
 |.float b _=>some (.flt b)
 |.ref a=>some (.ref a)
 |.type n=>some (.ty n)
 |_=>none
def RelV.abs(r:RelV x u):Rt u=some x:=by
 cases x with
 |non=>cases r;rfl
 |bl _=>cases r;rfl
 |int _=>let#[t,rfl]:=r;rfl
 |str _=>let#[t,rfl]:=r;rfl
 |byt _=>let#[t,rfl]:=r;rfl
 |flt _=>let#[t,rfl]:=r;rfl
 |ref _=>cases r;rfl
 |ty _=>cases r;rfl
def RelV.inj(r:RelV x u)(q:RelV y u):x=y:=QdQ (r.abs.symm.trans q.abs)
theorem bo.inj:∀{xs ys:List V} {a:X5},bo xs a->bo ys a->xs=ys
 |_,_,_,.nil,.nil=>rfl
 |_,_,_,.cons r t,.cons r' t'=>by rw[r.inj r',bo.inj t t']
def ji.of{H:Hp}{a:X8}{xs:List V}{K:X1}(h:H a=some (.lst xs)):ji K H a xs:=.inl (.inl h)
def gh.of{H:Hp}{a:X8}{xs:List V}{K:X1}(h:H a=some (.tup xs)):gh K H a xs:=.inl (.inl h)
def Inv.list(I:Inv X b σ H s)(h:ji X.K H a xs):∃c:List Value,bo xs c/\PlainL s.heap a c.toArray/\xs.length<=sizeLine:=by
 rcases h with h|⟨o,c,n,f,i,d,g,j,r⟩
 ·let#[z,c,n,r,e]:=h.ok I.hok
  show#[c,r,#[_,n,e,L,L,L],z]
 ·show#[c.toList,r,#[o,n,I.kIn a o f,i,d,by simpa using g],?_]
  let e:=r.length
  erw[Array.length_toList] at e
  omega
def Inv.tuple(I:Inv X b σ H s)(h:gh X.K H a xs):∃c:List Value,bo xs c/\IsTup s.heap a c.toArray/\xs.length<=sizeLine:=by
 rcases h with h|⟨o,c,n,d,g,f,i,r⟩
 ·let#[z,c,r,p]:=h.ok I.hok
  show#[c,r,p.it,z]
 ·show#[c.toList,r,#[o,I.kIn a o d,g,n,by simpa using f],?_]
  let e:=r.length
  erw[Array.length_toList] at e
  omega
def Inv.list_inj(I:Inv X b σ H s)(h:ji X.K H a xs)(h':ji X.K H a ys):xs=ys:=by
 let#[f,r,#[o,n,e,_,_,d],_]:=I.list h
 let#[c,j,#[m,l,i,_,_,g],_]:=I.list h'
 rw[e] at i;cases i
 rw[d] at g
 injection g with k _
 have:f=c:=by simpa using congrArg Array.toList k
 subst this
 show r.inj j
def Inv.tuple_inj(I:Inv X b σ H s)(h:gh X.K H a xs)(h':gh X.K H a ys):xs=ys:=by
 let#[f,r,#[o,e,_,n,d],_]:=I.tuple h
 let#[c,j,#[m,i,_,l,g],_]:=I.tuple h'
 rw[e] at i;cases i
 rw[d] at g
 injection g with k _
 have:f=c:=by simpa using congrArg Array.toList k
 subst this
 show r.inj j
noncomputable abbrev Cx.wish(X:Cx)(E:X0):Cx:={X with xe:=E}
noncomputable abbrev Cx.nox(X:Cx):Cx:=X.wish λ_ _=>False
def Cx.Ok.wish{X:Cx}(ok:X.Ok)(E:X0):(X.wish E).Ok:=
 #[ok.mod,ok.kind,ok.glob,ok.blt,ok.above,ok.inj,ok.has,ok.cab,ok.hd,ok.frames,ok.stk,ok.exf,ok.bs,ok.bsz,ok.noex,ok.exfs,ok.funs,ok.frf]
def Cx.Ok.unwish{X:Cx}{E:X0}(ok:(X.wish E).Ok):X.Ok:=
 #[ok.mod,ok.kind,ok.glob,ok.blt,ok.above,ok.inj,ok.has,ok.cab,ok.hd,ok.frames,ok.stk,ok.exf,ok.bs,ok.bsz,ok.noex,ok.exfs,ok.funs,ok.frf]
def Inv.wish(I:Inv X a σ H s)(E:X0):Inv (X.wish E) a σ H s:=#[I.ok.wish E,I.os,I.bare,I.base,I.loc,I.cell,I.free,I.freeC,I.pin,I.hok,I.len]
def Inv.unwish{X:Cx}{E:X0}(I:Inv (X.wish E) a σ H s):Inv X a σ H s:=#[I.ok.unwish,I.os,I.bare,I.base,I.loc,I.cell,I.free,I.freeC,I.pin,I.hok,I.len]
theorem SP.unwish{X:Cx}{E:X0}{D:Ends}(h:SP (X.wish E) a D f s'):SP X a D f s':=by
 cases f with
 |next=>let#[b,c,I,q]:=h;show#[b,c,I.unwish,q]
 |brk=>let#[b,c,I,q]:=h;show#[b,c,I.unwish,q]
 |cont=>let#[b,c,I,q]:=h;show#[b,c,I.unwish,q]
 |ret u=>let#[v,b,c,I,r,q]:=h;show#[v,b,c,I.unwish,r,q]
def qR.nox{X:Cx}{st:List Stmt}{t:TS}(h:qR X.nox st t):qR X st t:=λa s σ H D I b=>
 QRq (h a s σ H D (I.wish _) b) (λ_ _ q=>q.unwish) λ_ _ z=>False.elim z
def Pu:TS:=λD a H=>D.nx a H
def Qu(t u:TS):TS:=λD a H=>t {D with nx:=u D} a H
def IS:qR X [] Pu:=λ_ _ a H _ I h=>wpAny_execs_nil #[a,H,I,h]
def HJ{X:Cx}{st:Stmt}{j:List Stmt}{t:TS}{u:TS}(d:PS X st t)(c:qR X j u):qR X (st::j) (Qu t u):=by
 intro a s n H D I h
 show wpAny_execs_cons (cj (d a s n H {D with nx:=u D} I h) λf l q=>?_)
 cases f with
 | next=>
   let#[b,m,k,q]:=q
   show c a l b m D k q
 |ret v=>show q
 |brk=>show q
 |cont=>show q
def J1{X:Cx}{st:Stmt}{t:TS}(b:PS X st t):qR X [st] t:=by
 intro a s c H D I h
 show wpAny_execs_cons (cj (b a s c H D I h) λf d q=>?_)
 cases f with
 |next=>show wpAny_execs_nil q
 |ret v=>show q
 |brk=>show q
 |cont=>show q
def Inv.quiet(I:Inv X a σ H s):interactive X.env=false:=by simp[interactive,I.ok.kind]
def N3(i:TE):TS:=λD a H=>i a H λ_ H1=>D.nx a H1
def Js{g:Pos}(he:PE X e i)(d:autoParam (swapsWith e none g.line X.env=pure false) db._auto_1):PS X (.Expr e g) (N3 i):=by
 intro a s b H D I h
 show wpAny_Expr_any (cj (he a s b H _ I h) λv l ⟨x,H1,f,k,c⟩=>#[b,H1,f,c]) I.quiet d
def Qp(i:TE):TS:=λD a H=>i a H D.rt
def GX(he:PE X e i):PS X (.Return (some e) g) (Qp i):=by
 intro a s b H D I h
 show wpAny_Return_some (cj (he a s b H _ I h) λv k ⟨x,H1,f,c,d⟩=>#[x,b,H1,f,c,d])
def Q3(c:TT)(t u:TS):TS:=λD a H=>c a H λb H1=>if b=true then t D a H1 else u D a H1
def On(v:PT X c m)(r:qR X a t)(p:qR X b u):PS X (.If c a b g) (Q3 m t u):=by
 intro f s k H D I h
 show wpAny_If (cj (v f s k H _ I h) λd o q=>?_)
 let#[H1,l,n]:=q
 cases d with
 |true=>show r f o k H1 D l n
 |false=>show p f o k H1 D l n
def LC:TS:=λ_ _ _=>False
def Gw{X:Cx}{st:Stmt}:PS X st LC:=λ_ _ _ _ _ _ h=>h.elim
abbrev TG:=V->St->Hp->(St->Hp->Prop)->Prop
abbrev Ig:=List V->St->Hp->(St->Hp->Prop)->Prop
def PG(X:Cx)(a:Expr)(t:TG):Prop:=
 ∀ (b:X2) (s:X4) (e:St) (H:Hp) (v:V) (u:Xd) (Q:St->Hp->Prop),Inv X b e H s->RelV v u->t v e H Q->
   wpAny (model X.prog X.w) X.A (assign a X.env u) (λ_ f=>∃c d,Inv X b c d f/\Q c d) X.xe s
def HV(X:Cx)(ts:List Expr)(t:Ig):Prop:=
 ∀ (a:X2) (s:X4) (f:St) (H:Hp) (d:List V) (c:X5) (Q:St->Hp->Prop),Inv X a f H s->bo d c->t d f H Q->
   wpAny (model X.prog X.w) X.A (assignInOrder ((assignEach ts X.env).map (·.2)) c) (λ_ g=>∃b e,Inv X a b e g/\Q b e) X.xe s
abbrev LN:=V->V->V->Hp->(Hp->Prop)->Prop
def Of(X:Cx)(t:LN):Prop:=
 ∀ (a:X2) (s:X4) (e:St) (H:Hp) (o i v:V) (d b u:Xd) (Q:Hp->Prop),Inv X a e H s->RelV o d->RelV i b->RelV v u->t o i v H Q->
   wpAny (model X.prog X.w) X.A (setItem d b u) (λ_ f=>∃c,Inv X a e c f/\Q c) X.xe s
abbrev PR:=V->V->Hp->VK->Prop
def RL(X:Cx)(op:Operator)(t:PR):Prop:=
 ∀ (a:X2) (s:X4) (b:St) (H:Hp) (x y:V) (v u:Xd) (Q:VK),Inv X a b H s->RelV x v->RelV y u->t x y H Q->
   wpAny (model X.prog X.w) X.A (inplaceOp op v u) (EP X a b Q) X.xe s
def ni(i:Nat):TG:=λv a H Q=>Q (a.set i<|some v) H
def xc{X:Cx}(e:X.N.Nodup)(hi:X.N[i]?=some x)(f:Loc X.env.scope x)(b:autoParam (X.fn x=true\/X.env.scope.names.lookup x=some .local) cC._auto_1):PG X (.Name x d) (ni i):=by
 intro a s j H v u Q I r h
 show wpAny_assign_Name<|kE I e hi f r (λg c=>#[_,H,c,h]) b
def QG:Ig:=λb a H Q=>b= []/\Q a H
def N5(t:TG)(u:Ig):Ig:=λb e H Q=>∃v r,b=v::r/\t v e H λa c=>u r a c Q
def Km:HV X [] QG:=by
 intro a s b H f c Q I r h
 let#[e,h]:=h
 subst e
 cases r
 show assignInOrder_nil #[b,H,I,h]
def FD(i:PG X e t)(c:HV X es u)
  (l:autoParam ((assignEach (e::es) X.env).map (·.2)=assign e X.env::(assignEach es X.env).map (·.2)) db._auto_1):HV X (e::es) (N5 t u):=by
 intro a s n H p w Q I r h
 let#[v,q,o,h]:=h
 subst o
 cases r with
 | cons r j=>
   rw[l]
   show assignInOrder_cons (cj (i a s n H _ _ _ I r h) λ_ k m=>?_)
   let#[b,H1,f,g]:=m
   show c a k b H1 _ _ Q f j g
def QT(K:X1)(n:Nat)(t:Ig):TG:=λv c H Q=>∃a b,v=.ref a/\gh K H a b/\b.length=n/\t b c H Q
def MW{X:Cx}(B:X.calm=true)(h:HV X es t)
  (y:autoParam ((assignEach es X.env).length=n) db._auto_1) (f:autoParam ((assignEach es X.env).findIdx? (·.1)=none) db._auto_1):PG X (.Tuple es k d) (QT X.K n t):=by
 intro c s j H v u Q I r g
 let#[a,x,A,q,hl,g]:=g
 subst A
 cases r
 let#[w,i,l,C]:=I.tuple q
 show assign_Tuple_tuple (I.ok.hd B) l (by simp[y,<-hl,i.length]) f λp z=>?_
 have m:Inv X c j H {s with heap:=p}:=I.kept (t':=s.toks) λb o e=>z b o (Qwq<|Qiq e) e
 show h c _ j H x _ Q m (by simpa using i) g
def Oj(c b:TE)(t:LN):TG:=λv a H Q=>c a H λo H1=>b a H1 λi H2=>t o i v H2 λH3=>Q a H3
def M4(z:PE X o g)(hi:PE X i j)(B:Of X t)
  (F:autoParam (∀v,assign (.Subscript o i d) X.env v=(do
   let b<-holding [v] (eval o X.env)
   let e<-holding [v,b] (eval i X.env)
   standAt d
   holding [v,b,e] (setItem b e v)
   release [v,b,e] [])) dl._auto_1):PG X (.Subscript o i d) (Oj g j t):=by
 intro a s f H v u Q I r h
 rw[F]
 show Qaq<|QLq (cj (z a s f H _ I h) λb A c=>?_)
 let#[x,H1,l,k,p]:=c
 show Qaq<|QLq (cj (hi a A f H1 _ l p) λe n c=>?_)
 let#[y,H2,w,C,G]:=c
 show Qaq<|wpAny_standAt<|Qaq<|QLq (cj (B a n f H2 x y v b e u _ w k C r G) λ_ J c=>?_)
 let#[H3,m,q]:=c
 show wpAny_release #[f,H3,m,q]
def D8(b:TE)(g:TG):TS:=λD a H=>b a H λx H1=>g x a H1 D.nx
def LS{d:Pos}(he:PE X e c)(j:PG X b g)(p:autoParam (swapsWithSole [b] e d.line X.env=pure false) db._auto_1)(n:autoParam (swappedStores [b] e X.env=pure none) db._auto_1)
  (m:autoParam ((assignEach [b] X.env).map (·.2)= [assign b X.env]) db._auto_1):PS X (.Assign [b] e d) (D8 c g):=by
 intro a s f H D I h
 show wpAny_Assign_stores (cj (he a s f H _ I h) λv o ⟨x,H1,k,i,l⟩=>?_) p n
 rw[m]
 show cj (j a o f H1 x v _ k i l) λ_ r q=>q
def M_{X:Cx}{d:Pos}(o:X.N.Nodup)(hi:X.N[i]?=some x)(p:Loc X.env.scope x)(he:PE X e c)(m:autoParam (swapsWith e (some<|.Name x a) d.line X.env=pure false) db._auto_1)(l:autoParam (X.fn x=true\/X.env.scope.names.lookup x=some .local) cC._auto_1):
  PS X (.Assign [.Name x a] e d) (D8 c<|ni i):=by
 intro b s n H D I h
 show wpAny_Assign_Name (cj (he b s n H _ I h) λv r ⟨y,H1,g,f,j⟩=>?_) m
 show kE g o hi p f (λq k=>#[_,H1,k,j]) l
def PP(i j:Nat)(c:TA):TS:=λD a H=>c a H λb H1=>∃v w,b= [v,w]/\D.nx ((a.set i<|some v).set j (some w)) H1
def AM{X:Cx}{d:Pos}{i j:Nat}{x y:Str}{a b:Expr}{B:TA}{m u r:Pos}{kt k2 pt2}(hc:X.calm=true)(J:X.N.Nodup)(hi:X.N[i]?=some x)(hj:X.N[j]?=some y)(n:i≠j)
  (F:X.env.scope.names.lookup x=some .local) (C:X.env.scope.names.lookup y=some .local) (ha:PA X [a,b] B)
  (S:swappedStores [.Tuple [.Name x m,.Name y u] kt r] (.Tuple [a,b] k2 pt2) X.env=pure (some [x,y]))
  (U:autoParam (swapsWithSole [.Tuple [.Name x m,.Name y u] kt r] (.Tuple [a,b] k2 pt2) d.line X.env=pure false) db._auto_1):
  PS X (.Assign [.Tuple [.Name x m,.Name y u] kt r] (.Tuple [a,b] k2 pt2) d) (PP i j B):=by
 intro c s G H D I h
 rw[exec_Assign_arm]
 show Qaq<|wpAny_standAt ?_
 rw[U]
 show Qaq<|Qgq ?_
 rw[Quq (!1)]
 show Qaq<|Tuple_ (cj (ha _ c s G H _ I h) λY k W=>?_)
 let#[vs,H1,P,K,t]:=W
 let#[v,w,Z,t]:=t
 subst Z
 obtain⟨g,f,rfl,rv,rw'⟩:∃g f,Y= [g,f]/\RelV v g/\RelV w f:=by
  cases K with
  | cons p q=>
    cases q with
    | cons p' q'=>
      cases q'
      show#[_,_,L,p,p']
 show QhQ ?_ (by show 2<=_;decide)
 have R:Inv X c G H1 {k with heap:=k.heap.push {cls:=.type "tuple",data:=.seq [g,f].toArray}}:=P.kept (t':=k.toks) λb o e=>Qcq _ e
 rw[S]
 show Qaq<|Qgq ?_
 show wpAny (model X.prog X.w) X.A (do rule "assign.swapped-stores";let items<-unpackItems (.ref k.heap.objs.size) 2 none;assignInOrder [λv=>bindName X.env y v,λv=>bindName X.env x v] items.reverse;pure Flow.next) _ _ _
 show Qaq<|wpAny_rule<|Qaq (unpackItems_tuple (items:= (List.toArray [g,f])) (I.ok.hd hc) (IsTup.new k.heap _) λh' l=>?_)
 let Q:=R.kept (h':=h') (t':=k.toks) λb o e=>l b o (Qwq<|Qiq e) e
 show wpAny _ _ (assignInOrder [λv=>bindName X.env y v,λv=>bindName X.env x v] [f,g] >>= λ_=>pure Flow.next) _ _ _
 show Qaq<|assignInOrder_cons<|wpAny_bindName<|kE Q J hj (.inl C) rw' (λs2 M=>?_)<|.inr C
 show assignInOrder_cons<|wpAny_bindName<|kE M J hi (.inl F) rv (λs3 z=>assignInOrder_nil<|Qgq ?_)<|.inr F
 rw[List.set_comm _ _ (Ne.symm n)] at z
 show#[_,H1,z,t]
def QD(i:Nat)(c:TE)(b:PR):TS:=λD a H=>∃x,a[i]?=some (some x)/\c a H λy H1=>b x y H1 λz H2=>D.nx (a.set i<|some z) H2
def L5{X:Cx}(W:X.N.Nodup)(hi:X.N[i]?=some x)(p:Loc X.env.scope x)(he:PE X e t)(S:RL X op C)(R:autoParam (X.fn x=true\/X.env.scope.names.lookup x=some .local) cC._auto_1):
  PS X (.AugAssign (.Name x g) op e d) (QD i t C):=by
 intro a s B H D I h
 let#[v,e1,h]:=h
 let#[m,Y,hl]:=I.loc
 have q:IA X.env.scope x:=by rcases p with k|k;show .inl k;show .inr (.inl k)
 let#[u,r,l]:=hl i x v hi e1 q
 show wpAny_AugAssign_Name ?_
 have F:wpAny (model X.prog X.w) X.A (eval e X.env) (λw n=>wpAny (model X.prog X.w) X.A (inplaceOp op u w) (λr j=>wpAny (model X.prog X.w) X.A (storeName X.env x r) (λ_=>SP X a D .next) X.xe j) X.xe n) X.xe s:=by
  show cj (he a s B H _ I h) λw U o=>?_
  let#[y,H1,J,G,M]:=o
  show cj (S a U B H1 v y u w _ J r G M) λz s2 o=>?_
  let#[zv,H2,Q,Z,q2]:=o
  show kE Q W hi p Z (λs3 K=>#[_,H2,K,q2]) R
 rcases l with⟨b,hm⟩|⟨b,c,P,f⟩
 ·show wpAny_loadName_local I.ok.kind b Y hm F
 ·rcases b with b|b
  ·show wpAny_loadName_cell I.ok.kind b P f F
  ·rcases p with k|k
   ·have:X.env.scope.names.lookup x=some .free:=b
    rw[k] at this;cases this
   ·have:X.env.scope.names.lookup x=some .free:=b
    rw[k] at this;cases this
def SB(f:Int->Int->Int):PR:=λx y H Q=>∃i j,x=.int i/\y=.int j/\Q (.int (f i j)) H
def LW:RL X .Add (SB λi j=>i+j):=by
 intro a s k H x y v u Q I b e h
 let#[i,j,f,c,q]:=h
 subst f;subst c
 let#[t,rfl]:=b
 let#[g,rfl]:=e
 show iadd_int #[.int _,H,I.tok _,#[_,L],q]
def Lx(c:TT)(h:TS):TS:=λD d H=>∃W:Nat->St->Hp->Prop,(∃m,W m d H)/\∀m d H,W m d H->
 c d H λb H1=>if b=true then∃N:St->Hp->Prop,(∀e g,N e g->∃f,f<m/\W f e g)/\h {D with nx:=N,ct:=N,bk:=D.nx} d H1 else D.nx d H1
def G1{X:Cx}(z:PassesOwn (model X.prog X.w) X.A X.env X.xe)(Y:PT X c u)(J:qR X i y):PS X (.While c i [] a) (Lx u y):=by
 intro e s U H D I h
 let#[W,#[P,Q],k]:=h
 show wpAny_While<|codeAny_whileLoop (λn F=>∃j B,Inv X e j B F/\W n j B) ?_ P #[U,H,I,Q]
 rintro n R ⟨g,H1,K,G⟩
 show wpAny_passesOwn z (cj (Y e R g H1 _ K<|k n g H1 G) λb M S=>?_)
 let#[H2,x,m]:=S
 cases b with
 | true=>
   let#[N,C,m]:=m
   rw[Qhq L]
   show wpAny_passesOwn z (cj (J e M g H2 _ x m) λf Z l=>?_)
   cases f with
   | next=>
     let#[d,H3,q,p]:=l
     let#[r,t,o]:=C d H3 p
     show#[r,t,d,H3,q,o]
   | cont=>
     let#[d,H3,q,p]:=l
     let#[r,t,o]:=C d H3 p
     show#[r,t,d,H3,q,o]
   |brk=>show l
   |ret v=>show l
 | false=>
   rw[Quq Qtq]
   show wpAny_execs_nil #[g,H2,x,m]
structure It where
 go:Nat->Hp->Prop
 yld:Nat->Hp->V->Hp->Prop
 stop:Nat->Hp->Prop
def o_(X:Cx)(a:X2)(H:Hp)(b:X8):Prop:=
 H b=none/\b≠X.env.locals/\b∉X.fs/\(b∈X.ex\/X.s₀.heap.objs.size<=b)/\(∀x c,X.env.cells.lookup x=some c->c≠b)/\∀p∈X.pn++a,p.1≠b
def Inv.fpOk{H f:Hp}(I:Inv X a σ H s)(d:s.heap.objs.size<=b)(h:f b=none):o_ X a f b:=by
 show#[h,Nat.ne_of_gt<|Qqq I.lt d,I.nofs d,.inr (QAq I.sz d),λx c e z=>?_,λp g z=>?_]
 ·let#[v,q]:=I.cell x c e
  show absurd (Qqq q.lt (by rw[z];show d))<|Nat.lt_irrefl _
 ·show absurd (Qqq (Qiq (I.pin p g).1) (by rw[z];show d))<|Nat.lt_irrefl _
structure Turn(P:X9)(w:Xc)(K:X1)(tg:Expr)(J:It)(fp:X7)(it:X8)(tn:Nat->Heap->Prop):Prop where
 mem:it∈fp
 obj:∀i h,tn i h->∀b∈fp,∃o,h.get? b=some o/\∀v,o.data≠.cell v
 keep:∀i h h',tn i h->(∀b∈fp,∀o,h.get? b=some o->h'.get? b=some o)->tn i h'
 item:∀(X:Cx),X.prog=P->X.w=w->X.K=K->X.calm=true->∀(i:Nat) (pins:X2) (s:X4) (σ:St) (H:Hp) (E:X0),Inv X pins σ H s->(∀b∈fp,o_ X pins H b)->tn i s.heap->J.go i H->
  wpAny (model P w) X.A (pyNext (.ref it)) (λr s1=>∃u,r=some u∧
   wpAny (model P w) X.A (letOwnedTupleGo tg (.ref it) u) (λ_ s2=>∃x H',Inv X pins σ H' s2/\RelV x u/\J.yld i H x H'/\tn (i+1) s2.heap/\∀b∈fp,H' b=none) E s1) E s
 done:∀(X:Cx),X.prog=P->X.w=w->X.K=K->X.calm=true->∀(i:Nat) (pins:X2) (s:X4) (σ:St) (H:Hp) (E:X0),Inv X pins σ H s->(∀b∈fp,o_ X pins H b)->tn i s.heap->J.stop i H->
  wpAny (model P w) X.A (pyNext<|.ref it) (λr s1=>r=none/\Inv X pins σ H s1) E s
 self:∀(A:X_) (i:Nat) (s:X4) (Q:X0) (E:X0),tn i s.heap->Q (.ref it) s->wpAny (model P w) A (pyIter<|.ref it) Q E s
abbrev TI:=St->Hp->(It->Hp->Prop)->Prop
def RM(X:Cx)(a:X2)(σ:St)(i:Expr)(R:It->Hp->Prop)(c:Xd)(g:X4):Prop:=
 ∃(e:X8) (h:X7) (f:Nat->Heap->Prop) (J:It) (d:Hp),c=.ref e/\Inv X a σ d g/\Turn X.prog X.w X.K i J h e f/\f 0 g.heap/\(∀b∈h,o_ X a d b)/\R J d
def PI(X:Cx)(e b:Expr)(d:TI):Prop:=
 ∀ (a:X2) (s:X4) (c:St) (H:Hp) (R:It->Hp->Prop),Inv X a c H s->d c H R->
   wpAny (model X.prog X.w) X.A (eval b X.env) (λv f=>wpAny (model X.prog X.w) X.A (pyIter v) (RM X a c e R) X.xe f) X.xe s
def Ga{E:X0}{s:X4}{Q:Unit->Shared->Prop}(d:s.heap.get? it=some o)(e:o.cls=.type n)(c:o.data=.fields vs)
    (f: ["enumerate","zip","dict_itemiterator","dict_reverseitemiterator","odict_iterator","itertools.zip_longest","itertools.pairwise"].contains n=false) (a:Q () s):wpAny M A (letOwnedTupleGo b (.ref it) u) Q E s:=by
  unfold letOwnedTupleGo
  cases b <;>first
    |show Qgq a
    |(cases u <;>first
        |show Qgq a
        |(show Qaq (wpAny_load d ?_)
          rw[e,c]
          show wpAny M A (if (["enumerate","zip","dict_itemiterator","dict_reverseitemiterator","odict_iterator","itertools.zip_longest","itertools.pairwise"].contains n&&vs[0]? ==some (rawInt _))=true then _ else _) Q E s
          rw[Quq (by intro h;rw[f,Bool.false_and] at h;cases h)]
          show Qgq a))
noncomputable def RF(K:X1)(a:X8):It:=
 #[λi H=>∃b x,ji K H a b/\b[i]?=some x,λi H x c=>c=H/\∀b,ji K H a b->b[i]?=some x,λi H=>∃b,ji K H a b/\b.length<=i]
noncomputable def RX(K:X1)(a:X8):It:=
 #[λi H=>∃b x,gh K H a b/\b[i]?=some x,λi H x c=>c=H/\∀b,gh K H a b->b[i]?=some x,λi H=>∃b,gh K H a b/\b.length<=i]
noncomputable def P3(lo:Int)(n:Nat):It:=#[λi _=>i<n,λi H x a=>a=H/\x=.int (lo+i),λi _=>n<=i]
def EA{P:X9}{w:Xc}{K:X1}{tg:Expr}(a it:X8):Turn P w K tg (RF K a) [it] it (λi h=>h.IsListIter it a i) where
 mem:=by simp
 obj:=λi h f b j=>by
  have e:b=it:=by simpa using j
  subst e
  let#[o,e,c,d]:=f
  show#[o,e,λv z=>by rw[d] at z;cases z]
 keep:=λi h m f k=>f.at λo e=>k it (by simp) o e
 item:=by
  intro X N F B S i g s R H E I q f r
  subst N F B
  let#[xs,x,n,J]:=r
  let#[A,C,p,Z]:=I.list n
  let#[u,hu,ru]:=C.get J
  let#[t,y,f2,Q,M,G]:=q it (by simp)
  show wpAny_pyNext_list_item f p.isList (x:=u) (by simpa using hu) λm l sb=>?_
  have U:Inv X g R H {s with heap:=m}:=I.turned (t':=s.toks) (λb o j e=>(sb.2 b j).trans e) t y Q M G
  let#[o,e,c,d]:=id l
  show#[u,L,Ga (s:={s with heap:=m}) e c d (!1) #[x,H,U,ru,#[L,λys hy=>by rw[I.list_inj hy n];show J],l,λb j=>(q b j).1]]
 done:=by
  intro X N F B S i g s R H E I q f r
  subst N F B
  let#[xs,n,J]:=r
  let#[A,C,p,Z]:=I.list n
  let#[t,y,f2,Q,M,G]:=q it (by simp)
  let hl:=C.length
  show wpAny_pyNext_list_end (I.ok.hd S) f p.isList (by simp;omega) λm Y=>#[L,I.turned (t':=s.toks) (λb o j e=>Y b o j e) t y Q M G]
 self:=λ_ _ _ _ _ f h=>wpAny_pyIter_listiter f h
def BX{P:X9}{w:Xc}{K:X1}{tg:Expr}(a it:X8):Turn P w K tg (RX K a) [it] it (λi h=>h.IsTupleIter it a i) where
 mem:=by simp
 obj:=λi h f b j=>by
  have e:b=it:=by simpa using j
  subst e
  let#[o,e,c,d]:=f
  show#[o,e,λv z=>by rw[d] at z;cases z]
 keep:=λi h n f k=>f.at λo e=>k it (by simp) o e
 item:=by
  intro X N F B S i g s R H E I r f t
  subst N F B
  let#[xs,x,q,J]:=t
  let#[l,C,p,Z]:=I.tuple q
  let#[u,hu,ru]:=C.get J
  let#[y,A,f2,Q,M,G]:=r it (by simp)
  show wpAny_pyNext_tuple_item f (show s.heap.IsTuple a l.toArray from p) (x:=u) (by simpa using hu) λn m sb=>?_
  have U:Inv X g R H {s with heap:=n}:=I.turned (t':=s.toks) (λb o j e=>(sb.2 b j).trans e) y A Q M G
  let#[o,e,c,d]:=id m
  show#[u,L,Ga (s:={s with heap:=n}) e c d (!1) #[x,H,U,ru,#[L,λys hy=>by rw[I.tuple_inj hy q];show J],m,λb j=>(r b j).1]]
 done:=by
  intro X N F B S i g s R H E I r f t
  subst N F B
  let#[xs,q,J]:=t
  let#[l,C,p,Z]:=I.tuple q
  let#[y,A,f2,Q,M,G]:=r it (by simp)
  let hl:=C.length
  show wpAny_pyNext_tuple_end (I.ok.hd S) f (show s.heap.IsTuple a l.toArray from p) (by simp;omega) λn Y=>#[L,I.turned (t':=s.toks) (λb o j e=>Y b o j e) y A Q M G]
 self:=λ_ _ _ _ _ f h=>wpAny_pyIter_tupleiter f h
def B1{P:X9}{w:Xc}{K:X1}{Q:Expr}(it:X8)(lo:Int)(n:Nat):Turn P w K Q (P3 lo n) [it] it (λi h=>IsRangeIter h it (lo+(i:Nat)*1) ((n:Int)-(i:Nat)) 1) where
 mem:=by simp
 obj:=λi h a b d=>by
  have e:b=it:=by simpa using d
  subst e
  show⟨_,a,λv z=>by
   have G:Data.fields _=Data.cell v:=z
   cases G⟩
 keep:=λi h g a k=>k it (by simp) _ a
 item:=by
  intro X A u q r i c s F H E I j a l
  subst A u q
  let#[m,p,R,B,y,x]:=j it (by simp)
  let W:=Walks.range (prog:=X.prog) (w:=X.w) (I.ok.hd r) it lo 1 n
  show W.item i s _ _ l a λv g C S f M=>?_
  let#[t,rfl]:=S
  have J:Inv X c F H {s with heap:=g,toks:=C}:=I.turned (λb o d e=>M b o (by simpa using d) e) m p B y x
  show#[_,L,Ga (s:={s with heap:=g,toks:=C}) (n:="range_iterator") f L L (!1) #[.int (lo+i),H,J,#[t,?_],#[L,L],f,λb d=>(j b d).1]]
  rw[Int.mul_one]
 done:=by
  intro X A u q r i c s F H E I j a l
  subst A u q
  let#[m,p,R,B,y,x]:=j it (by simp)
  show wpAny_pyNext_range_end (I.ok.hd r) a (by have:n<=i:=l;omega) λg N=>#[L,I.turned (t':=s.toks) (λb o d e=>N b o d e) m p B y x]
 self:=λ_ _ _ _ _ a h=>wpAny_pyIter_rangeiter a h
def Hf{X:Cx}{c:Expr}{a:X2}{σ:St}{H:Hp}{s:X4}{R:It->Hp->Prop}{E:X0}{lo hi:Int}{t u v:Tok}{f:Nat}(I:Inv X a σ H s)(j: -(2^62)<=lo)(g:lo<2^62)(l: -(2^62)<=hi)(i:hi<2^62)
  (q:R (P3 lo (hi-lo).toNat) H):wpAny (model X.prog X.w) X.A (pyIter<|.ref s.heap.objs.size) (RM X a σ c R) E {s with heap:=s.heap.push {cls:=.type "range",data:=.fields (List.toArray [.int lo t,.int hi u,.int 1 v])},toks:=f}:=by
 show wpAny_pyIter_range (IsRange.new ..) (small_one j g l i) ?_
 have d:Inv X a σ H {s with heap:=s.heap.push {cls:=.type "range",data:=.fields (List.toArray [.int lo t,.int hi u,.int 1 v])},toks:=f}:=I.kept λb o e=>Qcq _ e
 show⟨(s.heap.push {cls:=.type "range",data:=.fields (List.toArray [.int lo t,.int hi u,.int 1 v])}).objs.size,[(s.heap.push {cls:=.type "range",data:=.fields (List.toArray [.int lo t,.int hi u,.int 1 v])}).objs.size],_,_,H,L,
  d.kept (t':=f) λb o e=>Qcq _ e,B1 _ lo (hi-lo).toNat,?_,λb h=>?_,q⟩
 ·have m:lo+((0:Nat):Int)*1=lo:=by simp
  have k:(((hi-lo).toNat:Nat):Int)-((0:Nat):Int)=Builtin.Range.rangeSize lo hi 1:=by rw[rangeSize_one];split <;>omega
  show IsRangeIter _ _ (lo+((0:Nat):Int)*1) ((((hi-lo).toNat:Nat):Int)-((0:Nat):Int)) 1
  rw[m,k]
  show Qrq _ L
 ·have e:b=(s.heap.push {cls:=.type "range",data:=.fields (List.toArray [.int lo t,.int hi u,.int 1 v])}).objs.size:=by simpa using h
  subst e
  show d.fpOk (Qmq _)<|d.hok.fresh<|Qmq _
def O0(b:TA):TI:=λd H R=>b d H λa H1=>∃j:Int,a= [.int j]/\ -(2^62)<=j/\j<2^62/\R (P3 0 j.toNat) H1
def E3{X:Cx}{c:Expr}{a:Expr}{g:TA}{p d:Pos}(k:Gl X "range")(u:X.mg "range"=none)(v:PA X [a] g)(n:autoParam (starEach [a] X.env= [(false,eval a X.env)]) db._auto_1):PI X c (.Call (.Name "range" p) [a] [] d) (O0 g):=by
 intro b s o H R I h
 show Call_<|ju I k u boot_range<|PyProof.Rows.callWith_type1 (cj (v d b s o H _ I h) λz y ⟨x,H1,l,i,f⟩=>?_) n L
 let#[j,e,f,w,q]:=f
 subst e
 cases i with
 | cons r m=>
   cases m
   let#[t,rfl]:=r
   show call_range_1<|Hf l (!0) (!0) f w (by simpa using q)
def QH(h:TI)(g:TG)(j:TS):TS:=λD a H=>h a H λJ H1=>∃W:Nat->Nat->St->Hp->Prop,(∃m,W 0 m a H1)/\∀i m a H,W i m a H->
 (J.stop i H/\D.nx a H)\/(J.go i H/\∃N:St->Hp->Prop,(∀b d,N b d->∃f,f<m/\W (i+1) f b d)/\∀x d,J.yld i H x d->g x a d λe H2=>j {D with nx:=N,ct:=N,bk:=D.nx} e H2)
noncomputable def mX(fp:X7)(h:Xe):List (Addr×Obj):=fp.filterMap λb=>(h.get? b).map λo=>(b,o)
def cW{h:Xe}(a:b∈fp)(e:h.get? b=some o):(b,o)∈mX fp h:=List.mem_filterMap.mpr #[b,a,by rw[e];rfl]
def Eo(a:p∈mX fp h):p.1∈fp/\h.get? p.1=some p.2:=by
 let#[b,d,e]:=List.mem_filterMap.mp a
 cases q:h.get? b with
 |none=>rw[q] at e;cases e
 | some o=>
   rw[q] at e
   have f:(b,o)=p:=QdQ e
   subst f
   show#[d,q]
def Inv.pinned(I:Inv X a σ H s)(k:∀b∈fp,o_ X a H b)(l:∀b∈fp,∃o,s.heap.get? b=some o/\∀v,o.data≠.cell v):Inv X (a++mX fp s.heap) σ H s:=
 I.pins_of λp j=>(mQa.mp j).elim (λz=>I.pin p<|Qoq _ z) λz=>by
  let#[f,e]:=Eo z
  let#[h,i,m,_]:=k p.1 f
  let#[o,g,d]:=l p.1 f
  rw[e] at g;cases g
  show#[e,h,i,m,d]
def Inv.unpinned(I:Inv X (a++d) σ H s):Inv X a σ H s:=I.pins_of λp b=>I.pin p (Qoq _<|List.mem_append_left _ b)
def LZ{X:Cx}(U:PassesOwn (model X.prog X.w) X.A X.env X.xe)(hc:X.calm=true)(hi:PI X c q wi)(hg:PG X c g)(l:qR X F tb)
  (hs:autoParam (∀x,foldedSetIterable q X.env x=pure x) dl._auto_1):PS X (.For c q F [] a1) (QH wi g tb):=by
 intro j s σ H D I h
 show wpAny_For (cj (hi j s σ H _ I h) λv s1 h1=>cj h1 λa5 s2 h2=>?_) hs
 let#[it,P,tn,J,H2,e,I2,T,a3,f2,W,#[m0,w0],Y]:=h2
 subst e
 have p:∀{B:Hp},(∀b∈P,B b=none)->∀b∈P,o_ X j B b:=λhn b l=>#[hn b l,(f2 b l).2]
 show codeAny_forLoop_any (λn s'=>∃i z B,Inv X j z B s'/\tn i s'.heap/\(∀b∈P,B b=none)/\W i n z B) ?_ m0 #[0,σ,H2,I2,a3,λb l=>(f2 b l).1,w0]
 rintro n s3 ⟨i,k,H3,I3,R,S,w3⟩
 rcases Y i n k H3 w3 with⟨stop,qn⟩|⟨go,N,hN,Q⟩
 ·show wpAny_passesOwn U (cj (T.done X L L L hc i j s3 k H3 X.xe I3 (p S) R stop) λr s4 K=>?_)
  let#[hr,I4]:=K
  subst hr
  show wpAny_execs_nil #[k,H3,I4,qn]
 ·show wpAny_passesOwn U (cj (T.item X L L L hc i j s3 k H3 X.xe I3 (p S) R go) λr s4 K=>?_)
  let#[u,hr,h4]:=K
  subst hr
  show wpAny_passesOwn U (cj h4 λ_ s5 K=>?_)
  let#[x,H5,I5,r5,y5,G,a0]:=K
  let a4:=I5.pinned (p a0) (T.obj _ _ G)
  show wpAny_passesOwn U (cj (hg _ s5 k H5 x u _ a4 r5<|Q x H5 y5) λ_ s6 K=>?_)
  let#[a2,H6,I6,q6]:=K
  show wpAny_passesOwn U (cj (l _ s6 a2 H6 _ I6 q6) λf Z C=>?_)
  have again:∀{a:St} {t:Hp},Inv X (j++mX P s5.heap) a t Z->N a t->∃m,m<n/\∃i z B,Inv X j z B Z/\tn i Z.heap/\(∀b∈P,B b=none)/\W i m z B:=λ{a t} y M=>by
   let#[m',hm,w7]:=hN a t M
   show#[m',hm,i+1,a,t,y.unpinned,T.keep _ _ _ G λb l o e=>(y.pin (b,o)<|Qoq _<|Qoq _<|cW l e).1,λb l=>?_,w7]
   let#[o,e,d]:=T.obj _ _ G b l
   show(y.pin (b,o)<|Qoq _<|Qoq _<|cW l e).2.1
  cases f with
  |next=>let#[a,t,y,M]:=C;show again y M
  |cont=>let#[a,t,y,M]:=C;show again y M
  |brk=>let#[a,t,y,C]:=C;show#[a,t,y.unpinned,C]
  |ret v=>let#[x7,a,t,y,r7,C]:=C;show#[x7,a,t,y.unpinned,r7,C]
abbrev R2:=V->V->Hp->VK->Prop
def j0(X:Cx)(f:Value->Value->Sem Value)(r:R2):Prop:=
 ∀ (a:X2) (s:X4) (b:St) (H:Hp) (x y:V) (v u:Xd) (Q:VK),Inv X a b H s->RelV x v->RelV y u->r x y H Q->
   wpAny (model X.prog X.w) X.A (f v u) (EP X a b Q) X.xe s
def QM(X:Cx)(f:Value->Sem Value)(r:V->Hp->VK->Prop):Prop:=
 ∀ (a:X2) (s:X4) (b:St) (H:Hp) (x:V) (v:Xd) (Q:VK),Inv X a b H s->RelV x v->r x H Q->
   wpAny (model X.prog X.w) X.A (f v) (EP X a b Q) X.xe s
def dB(X:Cx)(f:Xd)(r:List V->Hp->VK->Prop):Prop:=
 ∀ (a:X2) (s:X4) (d:St) (H:Hp) (c:List V) (b:X5) (Q:VK),Inv X a d H s->bo c b->r c H Q->
   wpAny (model X.prog X.w) X.A (call f b) (EP X a d Q) X.xe s
def Ri(X:Cx)(r:V->Hp->(Bool->Hp->Prop)->Prop):Prop:=
 ∀ (a:X2) (s:X4) (b:St) (H:Hp) (x:V) (v:Xd) (Q:Bool->Hp->Prop),Inv X a b H s->RelV x v->r x H Q->
   wpAny (model X.prog X.w) X.A (truthy v) (TP X a b Q) X.xe s
def K5(r:R2)(c b:TE):TE:=λa H Q=>c a H λx H1=>b a H1 λy H2=>r x y H2 Q
def Sr(r:V->Hp->VK->Prop)(a:TE):TE:=λb H Q=>a b H λx H1=>r x H1 Q
def rI(C:Int->Int->Prop)(g:Int->Int->V):R2:=λx y H Q=>∃i j,x=.int i/\y=.int j/\C i j/\Q (g i j) H
def Ee(g:Int->Int->V):R2:=λx y H Q=>∃i j,x=.int i/\y=.int j/\Q (g i j) H
def rU(g:Int->V):V->Hp->VK->Prop:=λx H Q=>∃i,x=.int i/\Q (g i) H
def M5(F:PE X a d)(p:PE X b k){R:V->V->Hp->Prop}(I:Inv X g σ H s)
  (h:d σ H λx H1=>k σ H1 λy H2=>R x y H2)  {f:Value->Value->Sem Value}
  (z:∀v u m x y H2,Inv X g σ H2 m->RelV x v->RelV y u->R x y H2->wpAny (model X.prog X.w) X.A (f v u) Q X.xe m):
  wpAny (model X.prog X.w) X.A (eval a X.env) (λv j=>wpAny (model X.prog X.w) X.A (eval b X.env) (λu i=>wpAny (model X.prog X.w) X.A (f v u) Q X.xe i) X.xe j) X.xe s:=by
 show cj (F g s σ H _ I h) λv B n=>?_
 let#[x,H1,q,o,r]:=n
 show cj (p g B σ H1 _ q r) λu m n=>?_
 let#[y,H2,t,C,G]:=n
 show z v u m x y H2 t o C G
def oD{X:Cx}{a:Expr}{b:Expr}{d:TE}{k:TE}{e:Pos}{op:Operator}{r:R2}(m:j0 X (binaryOp op) r)(t:PE X a d)(g:PE X b k):PE X (.BinOp a op b e) (K5 r d k):=by
 intro f s p H Q I h
 show wpAny_BinOp (M5 t g I h λv u i x y H2 j n o q=>m f i p H2 x y v u Q j n o q)
def Pd{X:Cx}{a:Expr}{d:TE}{e:Pos}{op:UnaryOp}{r:V->Hp->VK->Prop}(i:QM X (unaryOp op) r)(j:PE X a d):PE X (.UnaryOp op a e) (Sr r d):=by
 intro f s g H Q I h
 show UnaryOp_ (cj (j f s g H _ I h) λv o ⟨x,H1,p,m,n⟩=>i f o g H1 x v Q p m n)
def PV{X:Cx}{f:Value->Value->Sem Value}{C:Int->Int->Prop}{g:Int->Int->Int}
  (m:∀(i j:Int) (t u:Tok) (s:X4) (Q:X0) (E:X0),C i j->Q (.int (g i j) s.toks) {s with toks:=s.toks+1}->wpAny (model X.prog X.w) X.A (f (.int i t)<|.int j u) Q E s):
  j0 X f (rI C λi j=>.int (g i j)):=by
 intro n s z H x y v u Q I p r h
 let#[i,j,rfl,rfl,hc,q]:=h
 let#[t,rfl]:=p
 let#[o,rfl]:=r
 show m i j t o s _ _ hc #[.int (g i j),H,I.tok _,#[_,L],q]
def N9{X:Cx}{f:Value->Value->Sem Value}{g:Int->Int->Int}
  (m:∀(i j:Int) (t u:Tok) (s:X4) (Q:X0) (E:X0),Q (.int (g i j) s.toks) {s with toks:=s.toks+1}->wpAny (model X.prog X.w) X.A (f (.int i t)<|.int j u) Q E s):
  j0 X f (Ee λi j=>.int (g i j)):=by
 intro n s z H x y v u Q I p r h
 let#[i,j,rfl,rfl,q]:=h
 let#[t,rfl]:=p
 let#[o,rfl]:=r
 show m i j t o s _ _ #[.int (g i j),H,I.tok _,#[_,L],q]
def Ka{X:Cx}{f:Value->Value->Sem Value}{g:Int->Int->Bool}
  (m:∀(i j:Int) (t u:Tok) (s:X4) (Q:X0) (E:X0),Q (.bool (g i j)) s->wpAny (model X.prog X.w) X.A (f (.int i t)<|.int j u) Q E s):
  j0 X f (Ee λi j=>.bl (g i j)):=by
 intro n s z H x y v u Q I p r h
 let#[i,j,rfl,rfl,q]:=h
 let#[t,rfl]:=p
 let#[o,rfl]:=r
 show m i j t o s _ _ #[.bl (g i j),H,I,L,q]
def HU(i j:Int):Prop:=0<j/\j<1073741824
def GW(i j:Int):Prop:=0<=j/\j<=1000000/\i.natAbs<2^64
def HY(i j:Int):Prop:=(-(2^64)<i/\i<2^64)\/(-(2^64)<j/\j<2^64)
def HY.ok(h:HY i j):IntMulOk i j:=by
 rcases h with⟨g,f⟩|⟨g,f⟩
 ·show .of_left (intBits_le_64 g f)
 ·show .of_right (intBits_le_64 g f)
def Mw:j0 X (binaryOp .Add) (Ee λi j=>.int (i+j)):=N9 λ_ _ _ _ _ _ _ q=>add_int q
def Ll:j0 X (binaryOp .Sub) (Ee λi j=>.int (i-j)):=N9 λ_ _ _ _ _ _ _ q=>sub_int q
def JU:j0 X (binaryOp .FloorDiv) (rI HU λi j=>.int (i/j)):=PV λi j _ _ _ _ _ f q=>by
 have h:(0:Int)<j:=f.1
 have g:j<1073741824:=f.2
 show floordiv_int (!0) (by rw[Int.fdiv_eq_ediv_of_nonneg i (!0)];show q)<|.inl (PyProof.noPylong_small (!0))
def MG:j0 X (binaryOp .Mod) (rI (λ_ j=>0<j) λi j=>.int (i%j)):=PV λi j _ _ _ _ _ f q=>by
 have g:(0:Int)<j:=f
 show mod_int' (!0) (by rw[Int.fmod_eq_emod_of_nonneg i (!0)];show q)
def Lc:j0 X (binaryOp .Pow) (rI GW λi j=>.int (i^j.toNat)):=PV λ_ _ _ _ _ _ _ f q=>pow_int_small f.1 f.2.1 f.2.2 q
def Sv{X:Cx}{g:Int->Int}
  (j:∀(i:Int) (t:Tok) (s:X4) (Q:X0) (E:X0),Q (.int (g i) s.toks) {s with toks:=s.toks+1}->wpAny (model X.prog X.w) X.A (f<|.int i t) Q E s):
  QM X f (rU λi=>.int (g i)):=by
 intro m s o H x v Q I n h
 let#[i,rfl,q]:=h
 let#[t,rfl]:=n
 show j i t s _ _ #[.int (g i),H,I.tok _,#[_,L],q]
def Nh:QM X (unaryOp .USub) (rU λi=>.int (-i)):=Sv λ_ _ _ _ _ q=>neg_int q
noncomputable def A6:V->V->Bool
 |.non,.non=>true|.non,.int _=>true|.int _,.non=>true|.non,.bl _=>true|.bl _,.non=>true|.non,.str _=>true|.str _,.non=>true
 |.int _,.int _=>true|.bl _,.bl _=>true|.str _,.str _=>true|.byt _,.byt _=>true
 |.int _,.str _=>true|.str _,.int _=>true|.bl _,.str _=>true|.str _,.bl _=>true
 |_,_=>false
def Rz:R2:=λx y H Q=>A6 x y=true/\Q (.bl (decide (x=y))) H
def RI:R2:=λx y H Q=>A6 x y=true/\Q (.bl (!decide (x=y))) H
def C3:decide (V.int i=V.int j)=(i==j):=by
 rw[Bool.eq_iff_iff]
 simp
def GV:decide (V.bl i=V.bl j)=(i==j):=by
 rw[Bool.eq_iff_iff]
 simp
def CO:decide (V.str i=V.str j)=(i==j):=by
 rw[Bool.eq_iff_iff]
 simp
def CU:decide (V.byt i=V.byt j)=(i.toList==j.toList):=by
 rw[Bool.eq_iff_iff]
 cases i
 cases j
 simp
def bE{Q:VK}(I:Inv X f σ H s)(q:Q (.bl k) H)(e:k=h):EP X f σ Q (.bool h) s:=by
 subst e
 show#[.bl k,H,I,L,q]
def Pf:j0 X (compareOp .Eq) Rz:=by
 intro o s p H x y v u Q I m e h
 let#[k,q]:=h
 cases x with
 | non=>
   cases m
   cases y with
   |non=>cases e;show PySem.EqNone.eq_none_none (bE I q (by simp))
   |bl j=>cases e;show PySem.EqNone.eq_none_bool (bE I q (by simp))
   |int j=>let#[f,rfl]:=e;show PySem.EqNone.eq_none_int (bE I q (by simp))
   |str j=>let#[f,rfl]:=e;show PySem.EqNone.eq_none_str (bE I q (by simp))
   |_=>show absurd (show false=true from k) Qtq
 | bl i=>
   cases m
   cases y with
   |non=>cases e;show PySem.EqNone.eq_bool_none (bE I q (by simp))
   |bl j=>cases e;show eq_bool (bE I q GV)
   |str j=>let#[f,rfl]:=e;show PySem.EqMixed.eq_bool_str (bE I q (by simp))
   |_=>show absurd (show false=true from k) Qtq
 | int i=>
   let#[t,rfl]:=m
   cases y with
   |non=>cases e;show PySem.EqNone.eq_int_none (bE I q (by simp))
   |int j=>let#[f,rfl]:=e;show eq_int (bE I q C3)
   |str j=>let#[f,rfl]:=e;show PySem.EqMixed.eq_int_str (bE I q (by simp))
   |_=>show absurd (show false=true from k) Qtq
 | str i=>
   let#[t,rfl]:=m
   cases y with
   |non=>cases e;show PySem.EqNone.eq_str_none (bE I q (by simp))
   |bl j=>cases e;show PySem.EqMixed.eq_str_bool (bE I q (by simp))
   |int j=>let#[f,rfl]:=e;show PySem.EqMixed.eq_str_int (bE I q (by simp))
   |str j=>let#[f,rfl]:=e;show eq_str (bE I q CO)
   |_=>show absurd (show false=true from k) Qtq
 | byt i=>
   let#[t,rfl]:=m
   cases y with
   |byt j=>let#[f,rfl]:=e;show PySem.W.eq_bytes (bE I q CU)
   |_=>show absurd (show false=true from k) Qtq
 |_=>cases y <;>show absurd (show false=true from k) Qtq
def R5:j0 X (compareOp .NotEq) RI:=by
 intro o s p H x y v u Q I m e h
 let#[k,q]:=h
 cases x with
 | non=>
   cases m
   cases y with
   |non=>cases e;show PySem.EqNone.ne_none_none (bE I q (by simp))
   |bl j=>cases e;show PySem.EqNone.ne_none_bool (bE I q (by simp))
   |int j=>let#[f,rfl]:=e;show PySem.EqNone.ne_none_int (bE I q (by simp))
   |str j=>let#[f,rfl]:=e;show PySem.EqNone.ne_none_str (bE I q (by simp))
   |_=>show absurd (show false=true from k) Qtq
 | bl i=>
   cases m
   cases y with
   |non=>cases e;show PySem.EqNone.ne_bool_none (bE I q (by simp))
   |bl j=>cases e;show ne_bool (bE I q<|congrArg not GV)
   |str j=>let#[f,rfl]:=e;show PySem.EqMixed.ne_bool_str (bE I q (by simp))
   |_=>show absurd (show false=true from k) Qtq
 | int i=>
   let#[t,rfl]:=m
   cases y with
   |non=>cases e;show PySem.EqNone.ne_int_none (bE I q (by simp))
   |int j=>let#[f,rfl]:=e;show ne_int (bE I q<|congrArg not C3)
   |str j=>let#[f,rfl]:=e;show PySem.EqMixed.ne_int_str (bE I q (by simp))
   |_=>show absurd (show false=true from k) Qtq
 | str i=>
   let#[t,rfl]:=m
   cases y with
   |non=>cases e;show PySem.EqNone.ne_str_none (bE I q (by simp))
   |bl j=>cases e;show PySem.EqMixed.ne_str_bool (bE I q (by simp))
   |int j=>let#[f,rfl]:=e;show PySem.EqMixed.ne_str_int (bE I q (by simp))
   |str j=>let#[f,rfl]:=e;show ne_str (bE I q<|congrArg not CO)
   |_=>show absurd (show false=true from k) Qtq
 | byt i=>
   let#[t,rfl]:=m
   cases y with
   |byt j=>let#[f,rfl]:=e;show PySem.W.ne_bytes (bE I q<|congrArg not CU)
   |_=>show absurd (show false=true from k) Qtq
 |_=>cases y <;>show absurd (show false=true from k) Qtq
def KF:j0 X (compareOp .Lt) (Ee λi j=>.bl (decide (i<j))):=Ka λ_ _ _ _ _ _ _ q=>lt_int q
def KC:j0 X (compareOp .LtE) (Ee λi j=>.bl (decide (i<=j))):=Ka λ_ _ _ _ _ _ _ q=>le_int q
def RE:j0 X (compareOp .Gt) (Ee λi j=>.bl (decide (j<i))):=Ka λ_ _ _ _ _ _ _ q=>gt_int q
def Oh:j0 X (compareOp .GtE) (Ee λi j=>.bl (decide (j<=i))):=Ka λ_ _ _ _ _ _ _ q=>ge_int q
def QF:j0 X (compareOp .Is) (λx y H Q=>y=.non/\Q (.bl (decide (x=.non))) H):=by
 intro e s j H x y v u Q I f i h
 let#[rfl,q]:=h
 cases i
 show is_none_gen<|bE I q ?_
 cases x <;>first
  |(cases f;rfl)
  |(let#[t,rfl]:=f;rfl)
def Qa:j0 X (compareOp .IsNot) (λx y H Q=>y=.non/\Q (.bl (!decide (x=.non))) H):=by
 intro e s j H x y v u Q I f i h
 let#[rfl,q]:=h
 cases i
 show isnot_none_gen<|bE I q ?_
 cases x <;>first
  |(cases f;rfl)
  |(let#[t,rfl]:=f;rfl)
def j0.or(h:j0 X f r)(h':j0 X f i):j0 X f (λx y H Q=>r x y H Q\/i x y H Q):=by
 intro e s m H x y v u Q I j k q
 rcases q with q|q
 ·show h e s m H x y v u Q I j k q
 ·show h' e s m H x y v u Q I j k q
def mQ(b:Expr){op:CmpOp}(h:autoParam (op≠.In) cL._auto_1)(f:autoParam (op≠.NotIn) cL._auto_1):behindInMarks op b=false:=by
 have e:(op==CmpOp.In)=false:=by cases op <;>first|rfl|show absurd L h
 have i:(op==CmpOp.NotIn)=false:=by cases op <;>first|rfl|show absurd L f
 cases b <;>simp[behindInMarks,e,i]
def J7{X:Cx}{a:Expr}{b:Expr}{d:TE}{l:TE}{g:Pos}{op:CmpOp}{r:R2}(k:j0 X (compareOp op) r)(w:PE X a d)(f:PE X b l)(t:behindInMarks op b=false):PE X (.Compare a [op] [b] g) (K5 r d l):=by
 intro e s p H Q I h
 show wpAny_Compare1 (M5 w f I h λv u i x y H2 j m o q=>k e i p H2 x y v u Q j m o q) t
def GE(t:TE):TT:=λf H Q=>t f H λx e=>∃k,x=.bl k/\Q k e
def rq(C:j0 X (compareOp op) r)(K:PE X a d)(o:PE X b l)(J:behindInMarks op b=false):PT X (.Compare a [op] [b] g) (GE<|K5 r d l):=by
 intro f s i H Q I h
 show wpAny_isTrue_Compare1 (cj (K f s i H _ I h) λv F ⟨x,H1,p,m,w⟩=>cj (o f F i H1 _ p w) λu t ⟨y,H2,B,G,M⟩=>
  cj (C f t i H2 x y v u _ B m G M) λc N ⟨z,H3,q,j,k,e,A⟩=>?_) J
 subst e
 cases j
 show wpAny_truthy_bool #[H3,q,A]
def MT(K:X1)(x:V)(H:Hp)(k:Bool):Prop:=
 match x with
 |.non=>k=false
 |.bl b=>k=b
 |.int i=>k=(i !=0)
 |.str y=>y.length<=sizeLine/\k=((y.length:Int) !=0)
 |.byt y=>y.size<=sizeLine/\k=((y.size:Int) !=0)
 |.ref p=>(∃f,ji K H p f/\k= !f.isEmpty)\/(∃f,gh K H p f/\k= !f.isEmpty)\/∃e,H p=some (.dK e)/\k= !e.isEmpty
 |_=>False
def Bj{κ:Type}{kvs:List (κ×V)}{vs:List (κ×Value)}(r:KV kvs vs):(!vs.isEmpty)= !kvs.isEmpty:=by
 cases r <;>rfl
def uH{xs:List V}{e:X5}(r:bo xs e):(!e.toArray.isEmpty)= !xs.isEmpty:=by
 cases r <;>simp
def j9:(sizeLine:Nat)<2^63:=by rw[sizeLine_eq];decide
def LM:Ri X (λx H Q=>∃k,MT X.K x H k/\Q k H):=by
 intro J s S H x v Q I z h
 let#[k,e,q]:=h
 let hl:=j9
 have R:sizeLine=16777216:=sizeLine_eq
 cases x with
 | non=>
   cases z
   have f:k=false:=e
   subst f
   show truthy_none #[H,I,q]
 | bl b=>
   cases z
   have f:k=b:=e
   subst f
   show wpAny_truthy_bool #[H,I,q]
 | int i=>
   let#[t,rfl]:=z
   have f:k=(i !=0):=e
   subst f
   show PySem.P.truthy_int #[H,I,q]
 | str y=>
   let#[t,rfl]:=z
   obtain⟨M,f⟩:y.length<=sizeLine/\k=((y.length:Int) !=0):=e
   subst f
   show PySem.P.truthy_str (!0) #[H,I.tok _,q]
 | byt y=>
   let#[t,rfl]:=z
   obtain⟨M,f⟩:y.size<=sizeLine/\k=((y.size:Int) !=0):=e
   subst f
   show PySem.W.truthy_bytes (!0) #[H,I.tok _,q]
 | ref p=>
   cases z
   have f:(∃u,ji X.K H p u/\k= !u.isEmpty)\/(∃u,gh X.K H p u/\k= !u.isEmpty)\/∃j,H p=some (.dK j)/\k= !j.isEmpty:=e
   rcases f with⟨u,A,f⟩|⟨u,A,f⟩|⟨j,A,f⟩
   · subst f
     let#[C,r,F,G]:=I.list A
     let o:=r.length
     show wpAny_truthy_list F.isList (by erw[Qjq];omega) #[H,I.tok _,by rw[uH r];show q]
   · subst f
     let#[C,r,F,G]:=I.tuple A
     let o:=r.length
     show truthy_tuple F (by erw[Qjq];omega) ⟨H,I.tok _,by rw[uH r];show q⟩
   · subst f
     obtain⟨G,N,B,r,m⟩:j.length<=sizeLine/\(p==sysModules)=false/\∃B,KV j B/\s.heap.DictOf (bA X.prog X.w) p B:=I.hok p _ A
     have o:j.length=B.length:=Paired.length r
     show wpAny_truthy_dict N m (!0) #[H,I.tok _,by rw[Bj r];show q]
 |_=>show(show False from e).elim
def GP(q:PE X a d)(he:∀e,isTrue a X.env e=(do let v<-e;standAt a.pos;holding [v] (truthy v))):
  PT X a (λσ H Q=>d σ H λx i=>∃k,MT X.K x i k/\Q k i):=by
 intro f s σ H Q I h
 show isTrue_plain (cj (q f s σ H _ I h) λv p ⟨x,H1,m,j,o⟩=>LM f p σ H1 x v Q m j o)<|he _
def AW:j0 X (binaryOp .Add) (λx y H Q=>∃i j,x=.str i/\y=.str j/\i.length+j.length<=sizeLine/\Q (.str (i++j)) H):=by
 intro e s p H x y v u Q I k m h
 let#[i,j,rfl,rfl,hz,q]:=h
 let#[t,rfl]:=k
 let#[f,rfl]:=m
 show add_str (λf o=>#[.str (i++j),H,I.tok _,#[_,L],q]) hz
def vals1(r:bo [x] e):∃u,e= [u]/\RelV x u:=by
 cases r with
 |cons h f=>cases f;show#[_,L,h]
def vals2(r:bo [x,y] e):∃u f,e= [u,f]/\RelV x u/\RelV y f:=by
 cases r with
 | cons k h=>
   cases h with
   |cons j i=>cases i;show#[_,_,L,k,j]
def NI:dB X (.builtin "abs") (λxs H Q=>∃i,xs= [.int i]/\Q (.int (if i<0 then -i else i)) H):=by
 intro e s k H xs f Q I r h
 let#[i,rfl,q]:=h
 let#[u,rfl,t,rfl]:=vals1 r
 show call_abs_int λu j=>#[.int (if i<0 then -i else i),H,I.tok _,#[_,L],q]
def Nm{X:Cx}(m:X.calm=true):dB X (.builtin "max") (λxs H Q=>∃i j,xs= [.int i,.int j]/\Q (.int (if j>i then j else i)) H):=by
 intro f s w H xs x Q I r h
 let#[i,j,rfl,q]:=h
 let#[u,o,rfl,#[t,rfl],#[t',rfl]]:=vals2 r
 show max_two_ints (I.ok.hd m) λp v k=>#[_,H,I.kept k,?_,q]
 by_cases e:j>i
 ·rw[Qhq e,Qhq e];show#[_,L]
 ·rw[Quq e,Quq e];show#[_,L]
def Nq{X:Cx}(m:X.calm=true):dB X (.builtin "min") (λxs H Q=>∃i j,xs= [.int i,.int j]/\Q (.int (if j<i then j else i)) H):=by
 intro f s w H xs x Q I r h
 let#[i,j,rfl,q]:=h
 let#[u,o,rfl,#[t,rfl],#[t',rfl]]:=vals2 r
 show min_two_ints (I.ok.hd m) λp v k=>#[_,H,I.kept k,?_,q]
 by_cases e:j<i
 ·rw[Qhq e,Qhq e];show#[_,L]
 ·rw[Quq e,Quq e];show#[_,L]
def Nu:dB X (.type "int") (λxs H Q=>(∃i,xs= [.int i]/\Q (.int i) H)\/∃k,xs= [.bl k]/\Q (.int (if k then 1 else 0)) H):=by
 intro e s j H xs f Q I r h
 rcases h with⟨i,rfl,q⟩|⟨k,rfl,q⟩
 ·let#[u,rfl,t,rfl]:=vals1 r
  show call_int_int #[.int i,H,I,#[_,L],q]
 ·let#[u,rfl,r1]:=vals1 r
  cases r1
  show call_int_bool #[.int (if k then 1 else 0),H,I.tok _,#[_,L],q]
structure MP(h:Xe)(x dx C:X8)(mA:X3):Prop where
 obj:h.get? x=some (PySem.W.instObj C dx)
 ns:h.Ns1 dx mA
 ne:dx≠x
def Es{h:Xe}(n:h.Ns1 g d):∃f,h.get? g=some f/\∀name,PySem.W.lookIn name f=some (d name):=by
 let#[o,c,r,l,i,j,_,p]:=n
 show#[o,l,λname=>?_]
 let e:=p name
 unfold nsFind findBy at e
 rw[<-Array.find?_toList] at e
 unfold PySem.W.lookIn
 rw[i]
 dsimp only
 split
 ·rename_i y q
  rw[q] at e
  show congrArg some e
 ·rename_i q
  rw[q] at e
  have a:c.toList.any (·.refKey)=false:=by
   rw[List.any_eq_false]
   intro y m
   let#[z,t,b]:=j y (Array.mem_toList_iff.mp m)
   simp[DictEntry.refKey,b]
  have k:¬c.toList.any (·.refKey)=true:=by rw[a];show Qtq
  rw[Quq k]
  show congrArg some e
def MP.look(I:MP h x b C c):∃a,PySem.W.InstAt h x (PySem.W.instObj C b) C (some a)/\∀name,PySem.W.lookIn name a=some (c name):=
 let ⟨a,ho,hl⟩:=Es I.ns
 #[a,#[I.obj,L,L,ho],hl]
def ud.some_of(r:ud (some v) o):∃u,o=some u/\RelV v u:=by
 cases o with
 |none=>show(show False from r).elim
 |some u=>show#[u,L,r]
def qS(j:m4 P w H h)(e:H a=some (.ins C b fs)):∃i,MP h a b C i/\(∀f,ud (fs.lookup f)<|i f)/\PySem.Within i (fs.map (·.1))/\fs.length<=1000/\H b=some (.own a):=by
 let#[d,z,k,l,i,n,r,q]:=(show bR P w H h a (.ins C b fs) from j a _ e)
 show#[i,#[l,n,k],r,q,z,d]
structure Qo(K:X1)(C:X8):Prop where
 pg:PySem.W.plainGet K C Str.empty=true
 hd:PySem.W.hasDictIn K C=true
 po:PySem.W.plainOver K C=true
 sa:PySem.W.findIn K (.ref C) "__setattr__"=some (some<|.builtin "object.__setattr__")
def Qo.get{K:X1}{C:X8}(c:Qo K C)(f:Str):PySem.W.plainGet K C f=true:=c.pg
inductive pA(K:X1)(H:Hp):V->Value->Prop where
 |non:pA K H .non (.type "NoneType")
 |bl (x:Bool):pA K H (.bl x) (.type "bool")
 |int (i:Int):pA K H (.int i) (.type "int")
 |str (x:Str):pA K H (.str x) (.type "str")
 |flt (x:UInt64):pA K H (.flt x) (.type "float")
 |lst {a:X8} {xs:List V} (e:H a=some (.lst xs)):pA K H (.ref a) (.type "list")
 |frz {a:X8} {o:Obj} {xs:List V} (e:H a=some (.frz o (.lst xs))):pA K H (.ref a) (.type "list")
 |tup {a:X8} {xs:List V} (e:H a=some (.tup xs)):pA K H (.ref a) (.type "tuple")
 |dK {a:X8} {kvs:List (Key×V)} (e:H a=some (.dK kvs)):pA K H (.ref a) (.type "dict")
 |dT {a:X8} {kvs:List (List Key×V)} (e:H a=some (.dT kvs)):pA K H (.ref a) (.type "dict")
 |ins {a C dx:X8} {fs:List (Str×V)} (e:H a=some (.ins C dx fs)) (cl:Qo K C) (ha:PySem.W.findIn K (.ref C) "__class__"=some (some<|.builtin "object.__class__"))
   (hn:PySem.W.specialIn K (.builtin "object.__class__") "__get__"=some (some<|.builtin "getset_descriptor.__get__")) (htk:PySem.W.takesIn K (.builtin "object.__class__")=some true)
   (hm:PySem.W.mroIn K C (.type "object")=some true):pA K H (.ref a) (.ref C)
def D5{X:Cx}{d:X2}{σ:St}{H:Hp}{s:X4}{A:X_}{E:X0}{Q:X0}{c:Xd}{b:Bool}{x:V}{u t:Xd}(I:Inv X d σ H s)(f:RelV x u)(r:pA X.K H x t)(e:PySem.W.kitOne X.K t c=some b)(h:∀l,Q (.bool b) {s with toks:=l}):
  wpAny (model X.prog X.w) A (call (.builtin "isinstance") [u,c]) Q E s:=by
 cases r with
 |non=>cases (show u=Value.none from f);show PySem.W.kia_one PySem.W.kitx_none I.kIn True.intro e (λz=>nomatch z) h
 |bl y=>cases (show u=Value.bool y from f);show PySem.W.kia_one PySem.W.kitx_bool I.kIn True.intro e (λz=>nomatch z) h
 |int i=>let#[t,q]:=(show∃t,u=Value.int i t from f);cases q;show PySem.W.kia_one PySem.W.kitx_int I.kIn True.intro e (λz=>nomatch z) h
 |str y=>let#[t,q]:=(show∃t,u=Value.str y t from f);cases q;show PySem.W.kia_one PySem.W.kitx_str I.kIn True.intro e (λz=>nomatch z) h
 |flt y=>let#[t,q]:=(show∃t,u=Value.float y t from f);cases q;show PySem.W.kia_one PySem.W.kitx_float I.kIn True.intro e (λz=>nomatch z) h
 | @lst a j ea=>
   cases (show u=Value.ref a from f)
   let#[_,_,n,_,g]:=(show bR X.prog X.w H s.heap a (.lst j) from I.hok a _ ea)
   show PySem.W.kia_one PySem.W.kitx_list I.kIn #[_,g,L] e (λz=>nomatch z) h
 | @frz a ob j ea=>
   cases (show u=Value.ref a from f)
   let#[_,_,_,n,_,g]:=(show bR X.prog X.w H s.heap a (.frz ob (.lst j)) from I.hok a _ ea)
   show PySem.W.kia_one PySem.W.kitx_list I.kIn #[_,g,L] e (λz=>nomatch z) h
 | @tup a j ea=>
   cases (show u=Value.ref a from f)
   let#[_,_,_,p]:=(show bR X.prog X.w H s.heap a (.tup j) from I.hok a _ ea)
   let#[o,g,k,_]:=p
   show PySem.W.kia_one PySem.W.kitx_tuple I.kIn #[o,g,k] e (λz=>nomatch z) h
 | @dK a kvs ea=>
   cases (show u=Value.ref a from f)
   let#[_,_,B,_,p]:=(show bR X.prog X.w H s.heap a (.dK kvs) from I.hok a _ ea)
   let#[o,m,v,g,k,_]:=p
   show PySem.W.kia_one PySem.W.kitx_dict I.kIn #[o,g,k.1] e (λz=>nomatch z) h
 | @dT a kvs ea=>
   cases (show u=Value.ref a from f)
   let#[_,_,j,_,o,m,v,g,k,_]:=(show bR X.prog X.w H s.heap a (.dT kvs) from I.hok a _ ea)
   show PySem.W.kia_one PySem.W.kitx_dict I.kIn #[o,g,k.1] e (λz=>nomatch z) h
 | @ins a C dx fs ea cl ha hn htk hm=>
   cases (show u=Value.ref a from f)
   let#[F,O,_]:=qS I.hok ea
   let#[G,J,_]:=O.look
   show PySem.W.kia_one (PySem.W.kitx_own (cl.get _) cl.hd ha hn htk hm) I.kIn J e (λz=>nomatch z) h
structure dX(k:Nat)(A:X_):Prop where
 hd:A.handled=none
 dp:A.depth+3*k+5<recursionLimit
 un:A.units+16*k+200<cLine
def dX.mono(r:dX k A)(h:j<=k):dX j A:=#[r.hd,by have:=r.dp;omega,by have:=r.un;omega]
def dX.deeper(r:dX (k+1) A)(env:Env):dX k (A.deeper env):=
 #[r.hd,by have:=r.dp;show A.depth+1+3*k+5<_;omega,by have:=r.un;show A.units+3+16*k+200<_;omega]
def dX.depth(r:dX k A):A.depth<recursionLimit:=by have:=r.dp;omega
def dX.units(r:dX k A):A.units+64<cLine:=by have:=r.un;omega
def dX.units0(r:dX k A):A.units<cLine:=by have:=r.un;omega
def Iz:TA:=λ_ H Q=>Q [] H
def Hb(c:TE)(tr:TA):TA:=λa H Q=>c a H λx H1=>tr a H1 λb H2=>Q (x::b) H2
def de:PA X [] Iz:=λ_ _ _ _ H Q I h=>Calls.spliced_nil #[[],H,I,.nil,h]
def bJ(q:PE X e c)(k:PA X es t)(n:autoParam (starEach (e::es) X.env=(false,eval e X.env)::starEach es X.env) db._auto_1):PA X (e::es) (Hb c t):=by
 intro a b s d H Q I h
 rw[n]
 show wpAny _ _ (spliced ((false,eval e X.env)::backTo a (starEach es X.env))) _ _ s
 show Calls.spliced_cons (cj (q b s d H _ I h) λu m o=>?_)
 let#[x,H1,g,f,i]:=o
 show cj (k a b m d H1 _ g i) λw v ⟨l,H2,j,p,r⟩=>#[x::l,H2,j,.cons f p,r]
def Qv(t:TA):TE:=λd H Q=>t d H λb H1=>b.length<=sizeLine/\∀p,H1 p=none->Q (.ref p) (upd H1 p<|.tup b)
def Q4(t:TA):TE:=λd H Q=>t d H λb H1=>b.length<=sizeLine/\∀p,H1 p=none->Q (.ref p) (upd H1 p<|.lst b)
def Gb{x1}(h:PA X es t):PE X (.Tuple es x1 a) (Qv t):=by
 intro d s l H Q I i
 show wpAny_Tuple_spliced (cj (h a d s l H _ I i) λm f ⟨k,H1,g,r,z,q⟩=>#[by rw[<-r.length];show z,?_])
 have j:H1 f.heap.objs.size=none:=g.hok.fresh (Qmq _)
 show#[.ref f.heap.objs.size,upd H1 f.heap.objs.size<|.tup k,g.laid (t':=f.toks) (λb u e=>Qcq _ e) (Qmq _) ?_,L,q _ j]
 show#[z,m,r,#[_,Qrq _ L,L,L,_,L]]
def Mc(h:PA X es t):PE X (.List es a) (Q4 t):=by
 intro d s l H Q I i
 show wpAny_List_spliced (cj (h a d s l H _ I i) λm f ⟨k,H1,g,r,z,q⟩=>#[by rw[<-r.length];show z,?_])
 have j:H1 f.heap.objs.size=none:=g.hok.fresh (Qmq _)
 show#[.ref f.heap.objs.size,upd H1 f.heap.objs.size<|.lst k,g.laid (t':=f.toks) (λb u e=>Qcq _ e) (Qmq _) ?_,L,q _ j]
 show#[z,m,0,r,Qrq _ L]
abbrev Sp:=List V->Hp->VK->XK->Prop
abbrev Fb:=List Env->Hp->Shared->XK->Value->Shared->Prop
structure IK(P:X9)(w:Xc)(K:X1)(mg:X3)(base:Xe)(A:X_)(outer:List Env)(s:X4)(H:Hp):Prop where
 frames:A.frames=some outer
 mod:Mod K mg base
 bs:∀b o,base.get? b=some o->s.heap.get? b=some o/\H b=none
 bsz:base.objs.size<=s.heap.objs.size
 funs:s.heap.FunFrames base outer
 frf:∀b∈GS outer,H b=none
 hok:m4 P w H s.heap
 bare:AllBare s.gens
def CE(a:List Env)(P:X9)(w:Xc)(H:Hp)(s:X4)(Q:VK)(u:Xd)(s':X4):Prop:=
 ∃v b,s'.os=s.os/\AllBare s'.gens/\Un (GS a) [] H b s.heap s'.heap/\m4 P w b s'.heap/\RelV v u/\Q v b
def CR(CX:Fb)(a:List Env)(P:X9)(w:Xc)(H:Hp)(s:X4)(Q:VK)(E:XK)(r:Result)(s':X4):Prop:=
 match r with
 |.ok (.ret u)=>CE a P w H s Q u s'
 |.ok _=>False
 |.error e=>CX a H s E e s'
structure bp(P:X9)(w:Xc)(K:X1)(mg:X3)(base:Xe)(CX:Fb)(k:Nat)(f:X8)(fd:FuncData)(ps:X6)(sp:Sp):Prop where
 len:∀vs H Q E,sp vs H Q E->vs.length=ps.length
 run:∀(A:X_) (outer:List Env) (s:X4) (H:Hp) (args:Args) (us:X5) (vs:List V) (Q:VK) (E:XK),dX k A->IK P w K mg base A outer s H->BindsTo s fd args (ps.zip us)->bo vs us->sp vs H Q E->
  codeAny (model P w) A (.call (.ref f) args) (CR CX outer P w H s Q E) s
def bp.mono{P:X9}{w:Xc}{K:X1}{e:X3}{a:Xe}{CX:Fb}{j k:Nat}{f:X8}{d:FuncData}{ps:X6}{sp:Sp}(F:bp P w K e a CX j f d ps sp)(h:j<=k):
  bp P w K e a CX k f d ps sp:=#[F.len,λA b s H c l g Q E i=>F.run A b s H c l g Q E<|i.mono h]
def bp.imp{P:X9}{w:Xc}{K:X1}{g:X3}{a:Xe}{CX:Fb}{k:Nat}{f:X8}{e:FuncData}{ps:X6}{sp d:Sp}(F:bp P w K g a CX k f e ps sp)
  (h:∀vs H Q E,d vs H Q E->sp vs H Q E):bp P w K g a CX k f e ps d:=
 #[λvs H Q E q=>F.len vs H Q E<|h _ _ _ _ q,λA b s H c m vs Q E j n i o l=>F.run A b s H c m vs Q E j n i o<|h _ _ _ _ l]
def Inv.env0(I:Inv X a σ H s):IK X.prog X.w X.K X.mg X.base X.A X.stack s H:=
 #[I.ok.frames,I.ok.mod,I.bs,QAq I.ok.bsz I.sz,I.stack,I.stkFree,I.hok,I.bare]
def Inv.after(I:Inv X a σ H s)(h:CE X.stack X.prog X.w H s Q u s'):EP X a σ Q u s':=by
 let#[v,l,i,c,j,f,r,q]:=h
 let#[k,g,d,t,e]:=s'
 obtain rfl:e=s.os:=i
 show#[v,l,I.call (h':=k) (g':=g) (d':=d) (t':=t) (ch:= []) j f c (λb z=>absurd z (by simp)),r,q]
def Ha(sp:Sp)(a:List V)(E:XK)(t:TA):TE:=λc H Q=>t c H λb H1=>sp (b++a) H1 Q E
def Binds(K:X1)(b:FuncData)(ps:X6)(ds:X5):Prop:=
 ∀(s:X4) (a:X5),K.In s.heap->(a++ds).length=ps.length->BindsTo s b #[a,[]] (ps.zip (a++ds))
def Binds.all{K:X1}{b:FuncData}{ps:X6}(h:∀a:List Value,a.length=ps.length->bindArgs b #[a,[]]=pure (ps.zip a)):Binds K b ps []:=λs a _ hl=>by
 rw[List.append_nil] at hl|-
 show .of_eq (h a hl)
def Bm(CX:Fb)(X:Cx)(E:XK):Prop:=∀(a:X2) (c:St) (H:Hp) (s:X4) (e:Xd) (b:X4),Inv X a c H s->CX X.stack H s E e b->X.xe e b
def Fy{X:Cx}{E:XK}(F:bp X.prog X.w X.K X.mg X.base CX k f c ps sp)(z:dX k X.A)(y:Binds X.K c ps ds)(q:bo a ds)(G:Bm CX X E)
  (I:Inv X i σ H s) (r:bo vs j) (h:sp (vs++a) H Q E):wpAny (model X.prog X.w) X.A (call (.ref f) j) (EP X i σ Q) X.xe s:=by
 have n:bo (vs++a) (j++ds):=r.append q
 have hl:(j++ds).length=ps.length:=by rw[<-n.length];show F.len _ _ _ _ h
 show wpAny_call (codeAny_mono (F.run X.A X.stack s H #[j,[]] (j++ds) (vs++a) Q E z I.env0 (y s j I.kIn hl) n h) λr v l=>?_)
 cases r with
 |error e=>show G i σ H s e v I l
 | ok B=>
   cases B with
   |ret u=>show I.after l
   |next=>show False.elim l
   |brk=>show False.elim l
   |cont=>show False.elim l
def CL{X:Cx}{E:XK}(F:bp X.prog X.w X.K X.mg X.base CX k f c ps sp)(z:dX k X.A)(v:Gl X x)(J:X.mg x=some (.ref f))(y:PySem.W.keepIn X.K (.ref f)=true)(u:Binds X.K c ps ds)(n:bo a ds)(G:Bm CX X E)
  (M:PA X (e::es) t) (j:autoParam ((x==("__debug__":Str))=false) cL._auto_1) (he:autoParam (starEach (e::es) X.env=(false,eval e X.env)::starEach es X.env) db._auto_1) (hpl:autoParam ((backTo b<|starEach es X.env).any (·.1)=false) db._auto_1):
  PE X (.Call (.Name x p) (e::es) [] b) (Ha sp a E t):=by
 intro i s B H Q I h
 show wpAny_Call_Name_kw<|xR I v J ?_ j
 show PySem.W.callWith_K (h₀:=X.base) I.ok.mod.kin y (cj (M b i s B H _ I h) λR P ⟨N,H1,l,r,q⟩=>#[l.kIn,?_]) he hpl
 show Fy F z u n G l r q
structure aD(N P:X6)(sc:Scope):Prop where
 kind:sc.kind=.function
 co:sc.isCoroutine=false
 gen:sc.isGenerator=false
 nd:N.Nodup
 pre:N.take P.length=P
 par:∀x∈P,sc.names.lookup x=some .local\/sc.names.lookup x=some .cell
 nofree:∀y∈sc.names,y.2≠.free
theorem vO:∀{a:List (Str×Value)} {m:X3},(∀v,(x,v)∉a)->bindL b a m x=m x
 | [],_,_=>rfl
 | (n,v)::r,m,h=>by
   unfold bindL
   rw[vO λw c=>h w (Qpq _ c)]
   split
   · have:x≠n:=by rintro rfl;show h v QBq
     simp[this]
   · rfl
theorem vK:∀{a:List (Str×Value)} {m:X3},(∀v,(x,v)∉a)->bindC b a m x=m x
 | [],_,_=>rfl
 | (n,v)::r,m,h=>by
   unfold bindC
   rw[vK λw c=>h w (Qpq _ c)]
   split
   · rfl
   · have:x≠n:=by rintro rfl;show h v QBq
     simp[this]
theorem vH{a:Str->Option NameKind}:∀{P:X6} {vs:X5} {i:Nat} {m:X3},P.Nodup->P[i]?=some x->vs[i]?=some v->a x=some .local->
  bindL a (P.zip vs) m x=some v
 | [],_,_,_,_,h,_,_=>by simp at h
 |_::_,[],_,_,_,_,h,_=>by simp at h
 | p::P,w::vs,0,m,nd,h1,h2,hk=>by
   simp at h1 h2;subst h1;subst h2
   show bindL a ((p,w)::P.zip vs) m p=_
   unfold bindL
   rw[vO λv b=>(List.nodup_cons.mp nd).1 (QeQ b).1,Qhq hk]
   simp
 | p::P,w::vs,i+1,m,nd,h1,h2,hk=>by
   show bindL a ((p,w)::P.zip vs) m x=_
   unfold bindL
   show vH (i:=i) (List.nodup_cons.mp nd).2 (by simpa using h1) (by simpa using h2) hk
theorem vY{a:Str->Option NameKind}:∀{P:X6} {vs:X5} {i:Nat} {m:X3},P.Nodup->P[i]?=some x->vs[i]?=some v->a x≠some .local->
  bindC a (P.zip vs) m x=some v
 | [],_,_,_,_,h,_,_=>by simp at h
 |_::_,[],_,_,_,_,h,_=>by simp at h
 | p::P,w::vs,0,m,nd,h1,h2,hk=>by
   simp at h1 h2;subst h1;subst h2
   show bindC a ((p,w)::P.zip vs) m p=_
   unfold bindC
   rw[vK λv b=>(List.nodup_cons.mp nd).1 (QeQ b).1,Quq hk]
   simp
 | p::P,w::vs,i+1,m,nd,h1,h2,hk=>by
   show bindC a ((p,w)::P.zip vs) m x=_
   unfold bindC
   show vY (i:=i) (List.nodup_cons.mp nd).2 (by simpa using h1) (by simpa using h2) hk
noncomputable def start(N:X6)(vs:List V):St:=vs.map some++List.replicate (N.length-vs.length) none
noncomputable def zq(CX:Fb)(P:X9)(w:Xc)(K:X1)(mg:X3)(base:Xe)(N:X6)(b:Str)(a:Scope)(f:X8)(d:Xd)(A:X_)(outer:List Env)(s:X4)(H:Hp)(E:XK):Cx where
 prog:=P
 w:=w
 K:=K
 mg:=mg
 base:=base
 A:=A.deeper (envOfC b a s.heap.objs.size f d)
 N:=N
 s₀:=s
 H₀:=H
 env:=envOfC b a s.heap.objs.size f d
 outer:=outer
 stack:=envOfC b a s.heap.objs.size f d::outer
 ex:= []
 calm:=true
 fn:=λ_=>true
 pn:= []
 xe:=λe g=>wpAny (model P w) (A.deeper<|envOfC b a s.heap.objs.size f d) (leaving (envOfC b a s.heap.objs.size f d) e) (λ_ c=>CX outer H s E e c) (λh c=>CX outer H s E h c) g
def AB{a:Scope}(h:a.names.lookup x=some .cell):∃c,(cellsFrom n a.names []).lookup x=some c:=by
 let q:=PySem.W.cellsFrom_some a.names n [] (.inl h)
 show Option.isSome_iff_exists.mp q
def Er{CX:Fb}{P:X9}{w:Xc}{K:X1}{M:X3}{m:Xe}{N ps:X6}{j:Str}{d:Scope}{f:X8}{I:Xd}{A:X_}{g:List Env}{s U:X4}{H:Hp}{E:XK}{Q:X5}{vs:List V}
  (S:aD N ps d) (X:A.handled=none) (o:IK P w K M m A g s H) (hl:vs.length=ps.length) (r:bo vs Q)
  (x:InCallC s s.heap.objs.size (bindL (envOfC j d s.heap.objs.size f I).kindOf (ps.zip Q) λ_=>none) (cellsFrom (s.heap.objs.size+1) d.names []) (bindC (envOfC j d s.heap.objs.size f I).kindOf (ps.zip Q) λ_=>none) U):
  Inv (zq CX P w K M m N j d f I A g s H E) [] (start N vs) H U:=by
 have Y:ps.length<=N.length:=by have:=congrArg List.length S.pre;rw[Qxq] at this;omega
 let#[G,tk,rfl,hk]:=x.done
 have B:∀b:Addr,b∉(zq CX P w K M m N j d f I A g s H E).ex:=λb z=>absurd (show b∈([]:List Addr) from z) (by simp)
 show⟨⟨o.mod,S.kind,L,L,Qmq _,λy z c G l=>?_,λy t=>?_,λy c _ h=>?_,λ_=>X,Around.frames_deeper o.frames,.inr ⟨rfl,L⟩,λb z=>absurd z (B b),o.bs,o.bsz,λb _ _=>B b,λb z=>absurd z (B b),o.funs,o.frf⟩,
  rfl,o.bare,Un.kept hk,#[_,x.toInCall.ns,λi y v G l h3=>?_],λy c h=>#[_,x.cell y c h],o.hok.fresh (Qmq _),λy c h=>?_,λp C=>absurd (show p∈([]:List (Addr×Obj)) from C) (by simp),o.hok.kept hk,?_⟩
 ·show name_of_addr x.apart (PySem.mem_of_lookup G)<|PySem.mem_of_lookup l
 ·have t:d.names.lookup y=some .cell\/d.names.lookup y=some .free:=t
  rcases t with t|t
  ·show AB t
  ·show absurd L<|S.nofree _<|PySem.mem_of_lookup t
 ·show nQl<|x.above y c<|PySem.mem_of_lookup h
 ·have J:i<vs.length:=by
   unfold start at l
   by_cases J:i<vs.length
   ·show J
   ·rw[QQq (by simpa using J)] at l
    rw[List.getElem?_replicate] at l
    split at l <;>cases l
  have ha:vs[i]?=some v:=by
   unfold start at l
   rw[QHq (by simpa using J),gQm] at l
   cases e:vs[i]? with
   |none=>rw[e] at l;cases l
   |some a=>rw[e] at l;cases l;rfl
  let#[u,R,Z]:=r.get ha
  have C:ps[i]?=some y:=by
   rw[<-S.pre,List.getElem?_take_of_lt (!0)];show G
  have F:ps.Nodup:=by rw[<-S.pre];show S.nd.sublist (List.take_sublist _ _)
  show#[u,Z,?_]
  rcases S.par y (mQg C) with k|k
  ·show .inl #[k,vH F C R k]
  ·let#[c,e]:=AB (n:=s.heap.objs.size+1) k
   show .inr #[.inl k,c,e,?_]
   let q:=x.cell y c e
   rw[vY F C R (by show d.names.lookup y≠_;rw[k];decide)] at q
   show q
 ·show o.hok.fresh<|nQl<|x.above y c<|PySem.mem_of_lookup h
 ·unfold start
  show _=N.length
  rw[lQa,lQm,QIq]
  omega
def N1{K:X1}{dV kV G pm g ct oc:Xd}
    {sp:Sp} (lk:K.lookup f=some #[oc,od,.func (PySem.W.fnOf name d i j a dV kV G pm an g ct),Y]) (a0:PySem.W.codeIn K g d=true) (S:aD N ps a)
  (R:∀vs H Q E,sp vs H Q E->vs.length=ps.length)
  (z:∀(A:X_) (c:List Env) (s:X4) (H:Hp) (vs:List V) (Q:VK) (E:XK),dX k (A.deeper (envOfC d a s.heap.objs.size f g))->sp vs H Q E->
   ∃t,qR (zq CX P w K U h N d a f g A c s H E) j t/\t {nx:=λ_ m=>Q .non m,rt:=Q} (start N vs) H):
  bp P w K U h CX (k+1) f (PySem.W.fnOf name d i j a dV kV G pm an g ct) ps sp:=by
 show#[R,λA c s H a1 us vs Q E hr C hb r M=>?_]
 let hl:=R _ _ _ _ M
 have KX:K.In s.heap:=C.mod.kin.keeps λb o e=>(C.bs b o e).1
 have X:s.heap.NoLimit:=C.mod.nolimit.keeps λb o e=>(C.bs b o e).1
 have p:∀y∈ps.zip us,a.names.lookup y.1=some .local\/(a.names.lookup y.1=some .cell/\((cellsFrom (s.heap.objs.size+1) a.names []).lookup y.1).isSome=true):=λ⟨n,v⟩ hy=>by
  rcases S.par n (QeQ hy).1 with q|q
  ·show .inl q
  ·show .inr #[q,PySem.W.cellsFrom_some _ _ _<|.inl q]
 show codeAny_call_function hr.depth (KX _ _ lk) L S.co S.gen L (PySem.W.codeRec_of KX a0)<|hb _ _ _ _ ?_
 show wpAny_newFunctionEnv_cells S.kind p λa2 he s1 x=>?_
 subst he
 show#[X.keeps x.toInCall.keep,codeAny_func ?_]
 let#[t,ht,hq]:=z A c s H vs Q E (hr.deeper _) M
 have I:Inv (zq CX P w K U h N d a f g A c s H E) [] (start N vs) H s1:=Er S hr.hd C hl r x
 show QRq (ht [] s1 (start N vs) H _ I hq) (λfl Z B=>?_) λe Z B=>B
 have F:∀{l:St} {m:Hp} {v:V} {u:Xd},Inv (zq CX P w K U h N d a f g A c s H E) [] l m Z->RelV v u->Q v m->CE c P w H s Q u Z:=
  λ{l m v u} J rv q=>#[v,m,J.os,J.bare,J.base,J.hok,rv,q]
 cases fl with
 | ret u=>
   let#[v,l,m,J,rv,q]:=B
   show F J rv q
 | next=>
   let#[l,m,J,q]:=B
   show F (v:=V.non) (u:=Value.none) J L q
 | brk=>
   let#[_,_,_,q]:=B
   show False.elim q
 | cont=>
   let#[_,_,_,q]:=B
   show False.elim q
def Oy(r:List V->Hp->VK->Prop)(t:TA):TE:=λc H Q=>t c H λb H1=>r b H1 Q
def eV{X:Cx}{x:Str}{p:Pos}{a:Pos}{e:Expr}{es:List Expr}{t:TA}{id:String}{r:List V->Hp->VK->Prop}(l:dB X (.builtin id) r)(g:Gl X x)(o:X.mg x=none)(u:bootBuiltins x=some (.builtin id))(v:PA X (e::es) t)(n:autoParam (x≠"__name__") cL._auto_1)(c:autoParam ((x==("__debug__":Str))=false) cL._auto_1)
  (he:autoParam (starEach (e::es) X.env=(false,eval e X.env)::starEach es X.env) db._auto_1) (hpl:autoParam ((backTo a<|starEach es X.env).any (·.1)=false) db._auto_1):PE X (.Call (.Name x p) (e::es) [] a) (Oy r t):=by
 intro b s d H Q I h
 show wpAny_Call_Name_kw<|ju I g o u ?_ n c
 show PyProof.Rows.callWith_builtin1 (cj (v a b s d H _ I h) λq m ⟨j,H1,i,f,k⟩=>l b m d H1 j q Q i f k) he hpl
def oN{T:String}(l:dB X (.type T) r)(g:Gl X x)(o:X.mg x=none)(u:bootBuiltins x=some (.type T))(v:PA X (e::es) t)(n:autoParam (x≠"__name__") cL._auto_1)(c:autoParam ((x==("__debug__":Str))=false) cL._auto_1)
  (he:autoParam (starEach (e::es) X.env=(false,eval e X.env)::starEach es X.env) db._auto_1) (hpl:autoParam ((backTo a<|starEach es X.env).any (·.1)=false) db._auto_1):PE X (.Call (.Name x p) (e::es) [] a) (Oy r t):=by
 intro b s d H Q I h
 show wpAny_Call_Name_kw<|ju I g o u ?_ n c
 show PyProof.Rows.callWith_type1 (cj (v a b s d H _ I h) λq m ⟨j,H1,i,f,k⟩=>l b m d H1 j q Q i f k) he hpl
def A1{T:String}(i:dB X (.type T) r)(g:Gl X x)(d:X.mg x=none)(f:bootBuiltins x=some (.type T))(k:autoParam (x≠"__name__") cL._auto_1)(c:autoParam ((x==("__debug__":Str))=false) cL._auto_1):
  PE X (.Call (.Name x p) [] [] a) (Oy r Iz):=by
 intro b s j H Q I h
 show wpAny_Call_Name_kw<|ju I g d f ?_ k c
 show PyProof.Rows.callWith_type0<|i b s j H [] [] Q I .nil h
section
variable{κ:Type}[DecidableEq κ]
noncomputable def lK(kvs:List (κ×V))(k:κ):Option V:=(kvs.find? λa=>decide (a.1=k)).map (·.2)
noncomputable def putK(kvs:List (κ×V))(k:κ)(v:V):List (κ×V):=
 if (kvs.any λa=>decide (a.1=k))=true then kvs.map (λa=>if a.1=k then(a.1,v) else a) else kvs++ [(k,v)]
def uh{p:κ×V}(e:p.1=k):lK (p::r) k=some p.2:=by simp[lK,List.find?_cons,e]
def sx{p:κ×V}(e:¬p.1=k):lK (p::r) k=lK r k:=by simp[lK,List.find?_cons,e]
theorem zA(k:κ):∀kvs:List (κ×V),(kvs.any λkv=>decide (kv.1=k))=(lK kvs k).isSome
 | []=>rfl
 | p::r=>by
   rw[List.any_cons]
   by_cases e:p.1=k
   · erw[uh e,Qeq e,Bool.true_or,Option.isSome_some]
   · rw[sx e,Qdq e,Bool.false_or];show zA k r
def iC(kvs:List (κ×V))(k:κ)(v:V):(putK kvs k v).length<=kvs.length+1:=by
 unfold putK
 split
 ·rw[lQm];omega
 ·rw[lQa,Qnq,QGq];omega
def ud.isSome_eq(r:ud o u):o.isSome=u.isSome:=by
 cases o with
 | none=>cases u with
   |none=>rfl
   |some _=>show(show False from r).elim
 | some _=>cases u with
   |none=>show(show False from r).elim
   |some _=>rfl
def KV.val(r:KV kvs vs)(k:κ):ud (lK kvs k) (valueAt vs k):=by
 unfold KV at r
 induction r with
 |nil=>show True.intro
 | @cons p q ps qs h t ih=>
   let#[c,d]:=h
   by_cases e:p.1=k
   · have a:q.1=k:=c.symm.trans e
     have b:valueAt (q::qs) k=some q.2:=by simp[valueAt,List.find?_cons,a]
     rw[uh e,b];show d
   · have a:¬q.1=k:=λz=>e (c.trans z)
     have b:valueAt (q::qs) k=valueAt qs k:=by simp[valueAt,List.find?_cons,a]
     rw[sx e,b];show ih
theorem KV.any(r:KV kvs vs)(k:κ):(kvs.any λkv=>decide (kv.1=k))=vs.any λkv=>decide (kv.1=k):=by
 unfold KV at r
 induction r with
 |nil=>rfl
 |cons h t a=>rw[List.any_cons,List.any_cons,a,h.1]
def KV.repl(r:KV kvs vs)(k:κ)(c:RelV y u):
  KV (kvs.map λkv=>if kv.1=k then(kv.1,y) else kv) (vs.map λkv=>if kv.1=k then(kv.1,u) else kv):=by
 unfold KV at r|-
 induction r with
 |nil=>show .nil
 | @cons p q ps qs h t ih=>
   rw[QDq,QDq]
   show .cons ?_ ih
   let#[a,b]:=h
   by_cases e:p.1=k
   · rw[Qhq e,Qhq (a.symm.trans e)];show#[a,c]
   · rw[Quq e,Quq (λz=>e<|a.trans z)];show#[a,b]
def KV.put(r:KV kvs vs)(k:κ)(a:RelV y u):KV (putK kvs k y) (stored vs k u):=by
 unfold putK stored
 rw[r.any k]
 by_cases e:(vs.any λb=>decide (b.1=k))=true
 ·rw[Qhq e,Qhq e];show r.repl k a
 ·rw[Quq e,Quq e];show Paired.snoc r #[L,a]
def KV.length(r:KV kvs vs):kvs.length=vs.length:=Paired.length r
end
def vk(r:RelV (kV k) u):(bA P w).is k u=true:=by
 cases k with
 |inl i=>let#[t,e]:=(show∃t,u=Value.int i t from r);subst e;show Av P w i t
 |inr x=>let#[t,e]:=(show∃t,u=Value.str x t from r);subst e;show yN P w x t
theorem vf:∀{a:List Key} {b:X5},bo (a.map kV) b->ItemsAre (bA P w) a b
 | [],_,r=>by rw[List.map_nil] at r;cases r;show .nil
 | k::a,_,r=>by
   rw[QDq] at r
   cases r with
   |cons h t=>show .cons (vk h) (vf t)
abbrev KT(H:Hp):List (List Key×V)->List (List Key×Addr×Value)->Prop:=Paired λp q=>p.1=q.1/\H q.2.1=some (.tup (p.1.map kV))/\RelV p.2 q.2.2
def KT.val(r:KT H kvs xs)(k:List Key):ud (lK kvs k) ((atKey xs k).map (·.2)):=by
 induction r with
 |nil=>show True.intro
 | @cons p q ps qs h t ih=>
   let#[c,_,d]:=h
   by_cases e:p.1=k
   · have a:q.1=k:=c.symm.trans e
     have b:atKey (q::qs) k=some q.2:=by simp[atKey,List.find?_cons,a]
     rw[uh e,b];show d
   · have a:¬q.1=k:=λz=>e (c.trans z)
     have b:atKey (q::qs) k=atKey qs k:=by simp[atKey,List.find?_cons,a]
     rw[sx e,b];show ih
def KT.repl(r:KT H kvs xs)(k:List Key)(d:RelV y u):
  KT H (kvs.map λkv=>if kv.1=k then(kv.1,y) else kv) (xs.map<|putAt k u):=by
 induction r with
 |nil=>show .nil
 | @cons p q ps qs h t ih=>
   rw[QDq,QDq]
   show .cons ?_ ih
   let#[a,b,c]:=h
   unfold putAt
   by_cases e:p.1=k
   · rw[Qhq e,Qhq (a.symm.trans e)];show#[a,b,d]
   · rw[Quq e,Quq (λz=>e<|a.trans z)];show#[a,b,c]
def KT.put(r:KT H kvs xs)(k:List Key)(d:H b=some (.tup (k.map kV)))(a:RelV y u):
  KT H (putK kvs k y) (storedH xs k b u):=by
 have e:(kvs.any λc=>decide (c.1=k))=(atKey xs k).isSome:=by
  rw[zA,(r.val k).isSome_eq,Option.isSome_map]
 unfold putK storedH
 rw[e]
 by_cases q:(atKey xs k).isSome=true
 ·rw[Qhq q,Qhq q];show r.repl k a
 ·rw[Quq q,Quq q];show Paired.snoc r #[L,d,a]
def KT.keeps{H a:Hp}(r:KT H kvs xs)(ht:∀b ys,H b=some (.tup ys)->a b=some (.tup ys)):KT a kvs xs:=
 Paired.mapP r λ_ _ z=>#[z.1,ht _ _ z.2.1,z.2.2]
def KN(ok:m4 P w H h)(e:Rd H a u):bR P w H h a u:=e.ok ok
def yL(ok:m4 P w H h)(e:Rd H a (.dK kvs)):kvs.length<=sizeLine/\(a==sysModules)=false/\∃vs,KV kvs vs/\h.DictOf (bA P w) a vs:=
 show bR P w H h a (.dK kvs) from KN ok e
def An(ok:m4 P w H h)(e:H a=some (.dK kvs)):kvs.length<=sizeLine/\(a==sysModules)=false/\∃vs,KV kvs vs/\h.DictOf (bA P w) a vs:=yL ok (.inl e)
def yh{c:List Key}(ok:m4 P w H h)(e:H a=some (.tup (c.map kV))):(tupleKind<|bA P w).is h c a:=by
 let#[_,b,r,o,f,d,_,n,g]:=(show bR P w H h a (.tup (c.map kV)) from ok a _ e)
 show#[o,b.toArray,n,f,d,g,by simpa using vf r]
def CS(ok:m4 P w H h)(e:Rd H a (.dT kvs)):kvs.length<=sizeLine/\(a==sysModules)=false∧
  ∃xs,KT H kvs xs/\h.DictOfH (tupleKind<|bA P w) a xs:=by
 let#[z,y,xs,r,o,j,n,g,d,k,f,i]:=(show bR P w H h a (.dT kvs) from KN ok e)
 show#[z,y,xs,r,o,j,n,g,d,k,f,λx b=>?_,i]
 have c:∀{l:List (List Key×V)} {m:List (List Key×Addr×Value)},KT H l m->∀x∈m,(tupleKind<|bA P w).is h x.1 x.2.1:=by
  intro l m q
  induction q with
  |nil=>intro x b;show nomatch b
  | @cons p q ps qs hq t ih=>
    intro x b
    rcases Qsq.mp b with e|b
    · subst e
      show yh ok (by rw[<-hq.1];show hq.2.1)
    · show ih x b
 show c r x b
def Oe(ok:m4 P w H h)(e:H a=some (.dT kvs)):kvs.length<=sizeLine/\(a==sysModules)=false∧
  ∃xs,KT H kvs xs/\h.DictOfH (tupleKind<|bA P w) a xs:=CS ok (.inl e)
def wj(H:Hp)(a:X8)(y:V)(r:Option V):Prop:=
 (∃c k,Rd H a (.dK c)/\y=kV k/\r=lK c k)\/∃c k b,Rd H a (.dT c)/\y=.ref b/\H b=some (.tup (k.map kV))/\r=lK c k
def FS(H:Hp)(a:X8)(y v:V)(d:Hp):Prop:=
 (∃c k,H a=some (.dK c)/\y=kV k/\c.length<sizeLine/\d=upd H a (.dK (putK c k v)))∨
 ∃c k b,H a=some (.dT c)/\y=.ref b/\H b=some (.tup (k.map kV))/\c.length<sizeLine/\d=upd H a (.dT (putK c k v))
def wj.k{H:Hp}{a:X8}{kvs:List (Key×V)}{k:Key}(e:H a=some (.dK kvs)):wj H a (kV k) (lK kvs k):=.inl #[kvs,k,.inl e,L,L]
def FS.k{H:Hp}{a:X8}{kvs:List (Key×V)}{k:Key}{v:V}(e:H a=some (.dK kvs))(hl:kvs.length<sizeLine):FS H a (kV k) v (upd H a<|.dK (putK kvs k v)):=.inl #[kvs,k,e,L,hl,L]
def Inv.big(I:Inv X d σ H s):sysModules<s.heap.objs.size:=by
 have h:mainGlobals<s.heap.objs.size:=(I.mod.glob.keeps I.bk).lt
 show Nat.lt_trans (!1) h
def DJ{A:X_}{E:X0}{Q:X0}(K:A.units+1<cLine)(I:Inv X d σ H s)(g:wj H a y (some v))(x:RelV y u)(h:∀i s',Inv X d σ H s'->RelV v i->Q i s'):
  wpAny (model X.prog X.w) A (getItem (.ref a) u) Q E s:=by
 rcases g with⟨j,k,e,t,l⟩|⟨j,k,b,e,t,F,l⟩
 ·subst t
  let#[z,B,C,f,q]:=yL I.hok e
  let#[i,n,c]:=ud.some_of (v:=v) (o:=valueAt C k) (by rw[l];show f.val k)
  show wpAny_getItem_of (vk x) q.mapOf n<|h i _ (I.tok _) c
 ·subst t
  cases (show u=Value.ref b from x)
  let#[z,B,J,f,q]:=CS I.hok e
  let#[i,n,c]:=ud.some_of (v:=v) (o:=(atKey J k).map (·.2)) (by rw[l];show f.val k)
  let#[p,G,m]:=oQm.mp n
  show wpAny_getItem_heap (tupleKind_room_in1 K) (yh I.hok F) q G ?_
  rw[m]
  show h i _ (I.tok _) c
def QC{A:X_}{E:X0}{Q:X0}(t:A.units+1<cLine)(I:Inv X d σ H s)(g:wj H a y o)(n:RelV y u)(h:∀s',Inv X d σ H s'->Q (.bool o.isSome) s'):
  wpAny (model X.prog X.w) A (compareOp .In u<|.ref a) Q E s:=by
 rcases g with⟨i,k,e,m,l⟩|⟨i,k,b,e,m,p,l⟩
 ·subst m
  let#[z,f,x,c,j]:=yL I.hok e
  show wpAny_in_of (vk n) f j.mapOf ?_
  rw[<-(c.val k).isSome_eq,<-l]
  show h _<|I.tok _
 ·subst m
  cases (show u=Value.ref b from n)
  let#[z,f,B,c,j]:=CS I.hok e
  show wpAny_in_heap (tupleKind_room_in1 t) (yh I.hok p) f j ?_
  let q:=(c.val k).isSome_eq
  rw[Option.isSome_map] at q
  rw[<-q,<-l]
  show h _<|I.tok _
def qV(I:Inv X d σ H s)(i:OK (H a))(h:Heap.SameBut a s.heap h')(he:∃q,h'.get? a=some q)(c:bR X.prog X.w (upd H a f) h' a f):
  Inv X d σ (upd H a f) {s with heap:=h',toks:=t'}:=
 I.write (x:=a) (e:=a) i (.inl L) (λb q g z=>(h.2 b g).trans z) he c
def sH{h':Xe}{kvs:List (Key×V)}(z:kvs.length<=sizeLine)(c:(a==sysModules)=false)(b:KV kvs vs)(f:h'.DictOf (bA P w) a vs):
  bR P w e h' a (.dK kvs):=#[z,c,vs,b,f]
def DT{X:Cx}{d:X2}{σ:St}{H:Hp}{s:X4}{a:X8}{y:V}{v:V}{u:Xd}{r:Xd}{A:X_}{E:X0}{N:Hp}{Q:Unit->Shared->Prop}(Z:A.units+1<cLine)(I:Inv X d σ H s)(g:FS H a y v N)(M:RelV y u)(K:RelV v r)(h:∀s',Inv X d σ N s'->Q () s'):
  wpAny (model X.prog X.w) A (setItem (.ref a) u r) Q E s:=by
 rcases g with⟨f,k,e,C,l,p⟩|⟨f,k,b,e,C,J,l,p⟩
 ·subst C p
  let#[z,n,R,i,B]:=An I.hok e
  have t:R.length<=sizeLine:=by rw[<-i.length];show z
  have hl:(putK f k v).length<=sizeLine:=by have:=iC f k v;omega
  show wpAny_setItem_pairs (hsz:=t) (vk M) B λG j x=>h _ ?_
  have he:∃q,G.get? a=some q:=let ⟨q,_,_,m,_⟩:=j;#[q,m]
  show qV I (by rw[e];show True.intro) x he<|sH hl n (i.put k K) j
 ·subst C p
  cases (show u=Value.ref b from M)
  let#[z,n,W,i,B]:=Oe I.hok e
  have t:W.length<=sizeLine:=by rw[<-Paired.length i];show z
  have hl:(putK f k v).length<=sizeLine:=by have:=iC f k v;omega
  show wpAny_setItem_heap (hsz:=t) (tupleKind_room_in1 Z) (yh I.hok J) B λG j x=>h _ ?_
  let#[q,Y,ep,m,P,h3,S,_,U]:=j
  show qV I (by rw[e];show True.intro) x #[q,m] #[hl,n,_,(i.put k J K).keeps λc ys F=>?_,q,Y,ep,m,P,h3,S,U]
  rw[aM (Gz F e (λz=>nomatch z))]
  show F
def rH{E:X0}{Q:X0}(I:Inv X b σ H s)(e:Rd H a (.dK kvs))(h:∀t s',Inv X b σ H s'->Q (.int kvs.length t) s'):wpAny (model X.prog X.w) A (call (.builtin "len") [.ref a]) Q E s:=by
 let#[z,d,g,c,f]:=yL I.hok e
 show call_len_dict d f (by rw[<-c.length];rw[sizeLine_eq] at z;omega) ?_
 rw[<-c.length]
 show h _ _<|I.tok _
def Jo(i:Expr):Prop:=∀b a,subscripted i false b a=operate [b,a] (getItem b a)
def B3{E:X0}{T id:String}
  (hl:typeLookup (.type T) "__getitem__"=pure (some<|.builtin id)) (n:Jo a)
  (h:wpAny (model prog w) A (eval b env) (λo f=>wpAny (model prog w) A (eval a env) (λi c=>c.TypeIs o T/\wpAny (model prog w) A (getItem o i) Q E c) E f) E s):
  wpAny (model prog w) A (eval (.Subscript b a l) env) Q E s:=by
 show Subscript_ (QRq h (λo f j=>QRq j (λi c d=>?_) λ_ _ x=>x) λ_ _ x=>x)
 let#[m,d]:=d
 unfold subscriptTail
 show Qaq ?_
 rw[getitemInPython_of_ne m.not_modules]
 show Qaq<|wpAny_specialOf m hl ?_
 have g:wpAny (model prog w) A (subscripted a false o i) (λr e=>wpAny (model prog w) A (letTemporaryGo b o r >>= λ_=>pure r) Q E e) E c:=by
  rw[n o i]
  show wpAny_operating (QRq d (λr e k=>Qaq<|wpAny_letTemporaryGo<|Qgq k) λ_ _ x=>x)
 first
  |show Qgq (Qaq g)
  |show Qaq (Qgq<|Qaq g)
  |show Qaq g
def z3(I:Inv X c σ H s)(g:wj H a y o):s.TypeIs (.ref a) "dict":=by
 rcases g with⟨d,k,e,_,_⟩|⟨d,k,b,e,_,_,_⟩
 ·let#[_,_,h,_,f]:=yL I.hok e
  show f.typeIs
 ·let#[_,_,i,_,f]:=CS I.hok e
  show f.typeIs
def PN(c d:TE):TE:=λb H Q=>c b H λx H1=>d b H1 λy H2=>∃a v,x=.ref a/\wj H2 a y (some v)/\Q v H2
def NZ(d c:TE):TE:=λb H Q=>d b H λy H1=>c b H1 λx H2=>∃a o,x=.ref a/\wj H2 a y o/\Q (.bl o.isSome) H2
def ND(d e c:TE):TS:=λD b H=>c b H λv H1=>d b H1 λx H2=>e b H2 λy H3=>∃a H4,x=.ref a/\FS H3 a y v H4/\D.nx b H4
def Ku{X:Cx}(C:X.A.units+1<cLine)(B:PE X o f)(hi:PE X i j)(K:Jo i):PE X (.Subscript o i d) (PN f j):=by
 intro m s q H Q I h
 show B3 PySem.F.slot_dict_getitem.lookup K (cj (B m s q H _ I h) λu G ⟨x,H1,t,J,z⟩=>cj (hi m G q H1 _ t z) λW S M=>?_)
 let#[y,H2,p,N,a,v,r,g,P]:=M
 subst r
 obtain rfl:u=Value.ref a:=J
 show#[z3 p g,DJ C p g N λR U w n=>#[v,H2,w,n,P]]
def Ml{X:Cx}(z:X.A.units+1<cLine)(hi:PE X i j)(w:PE X o f):PC X .In i o (NZ j f):=by
 intro m s n H Q I h
 show cj (hi m s n H _ I h) λP B ⟨y,H1,q,G,t⟩=>cj (w m B n H1 _ q t) λu M J=>?_
 let#[x,H2,v,C,a,F,p,g,K]:=J
 subst p
 obtain rfl:u=Value.ref a:=C
 show QC z v g G λN r=>#[.bl F.isSome,H2,r,L,K]
def IQ{X:Cx}{d:Pos}(K:X.A.units+1<cLine)(J:PE X o f)(hi:PE X i j)(R:PE X b k)(P:swapsWith b (some<|.Subscript o i c) d.line X.env=pure false):
  PS X (.Assign [.Subscript o i c] b d) (ND f j k):=by
 intro m s n H D I h
 show wpAny_Assign_Subscript (cj (R m s n H _ I h) λr M ⟨v,H1,t,G,B⟩=>cj (J m M n H1 _ t B) λu z ⟨x,H2,F,N,S⟩=>cj (hi m z n H2 _ F S) λY W ⟨y,H3,w,Q,a,H4,p,g,C⟩=>?_) P
 subst p
 obtain rfl:u=Value.ref a:=N
 show DT K w g Q G λU q=>#[n,H4,q,C]
def Gu(h:Xe)(a:sysModules<h.objs.size):bR P w H (h.push {cls:=.type "dict",data:=.dict (List.toArray [])}) h.objs.size (.dK []):=
 #[Nat.zero_le _,beq_eq_false_iff_ne.mpr<|Ne.symm<|Qwq a,[],.nil,Heap.DictOf.new h]
def Mi:TE:=λ_ H Q=>∀p,H p=none->Q (.ref p) (upd H p<|.dK [])
def Fw:PE X (.Dict [] [] b) Mi:=λc s d H Q I h=>
 wpAny_Dict_empty #[.ref s.heap.objs.size,_,I.laid (a:=s.heap.objs.size) (o:=.dK []) (t':=s.toks) (λ_ _ q=>Qcq _ q) (Qmq _)<|Gu s.heap I.big,L,h _<|I.hok.fresh<|Qmq _]
noncomputable def jO(kvs more:List (Key×V)):List (Key×V):=more.foldl (λa b=>putK a b.1 b.2) kvs
def KV.merge:∀{more:List (Key×V)} {rs:List (Key×Value)} {kvs:List (Key×V)} {vs:List (Key×Value)},KV more rs->KV kvs vs->KV (jO kvs more) (merged vs rs):=by
 intro more rs kvs vs r
 unfold KV at r
 induction r generalizing kvs vs with
 |nil=>intro q;show q
 | @cons p q ps qs h t ih=>
   intro a
   have e:KV (putK kvs p.1 p.2) (stored vs q.1 q.2):=by
     have:=a.put p.1 h.2
     rw[<-h.1];show this
   show ih e
theorem iM:∀(more kvs:List (Key×V)),(jO kvs more).length<=kvs.length+more.length
 | [],kvs=>by show kvs.length<=kvs.length+0;omega
 | p::r,kvs=>by
   let b:=iM r (putK kvs p.1 p.2)
   let a:=iC kvs p.1 p.2
   show(jO (putK kvs p.1 p.2) r).length<=_
   rw[Qnq];omega
end L2
namespace HT
open PySem PyProof.Rows
section
open PySem.SeqAt
open PySem.AutoSeq1 (wpAny_loadPart')
open PySem.MeetsSeq PySem.MeetsSeq2 PySem.MeetsSeq3
end
def H_{E:X0}{s:X4}{vs ws:X5}{Q:X0}(ht:IsTup s.heap t vs.toArray)(u:IsTup s.heap b ws.toArray)(o:vs≠[])
  (v:ws= []->Q (.ref t) s) (r:ws≠[]->Q (.ref s.heap.objs.size) {s with heap:=s.heap.push {cls:=.type "tuple",data:=.seq (vs++ws).toArray}})
  (hsz:vs.length+ws.length<=sizeLine):wpAny (model prog w) A (binaryOp .Add (.ref t)<|.ref b) Q E s:=by
 let#[#[cls,m,data,sl],i,q,n,k]:=id ht
 let#[#[l,d,j,g],a,f,p,c]:=id u
 simp only at q k f c
 subst q k f c
 have e:vs.toArray++ws.toArray=(vs++ws).toArray:=by simp
 by_cases h:ws= []
 ·show concat_meets #[_,i,L] #[_,a,L] noFill_tuple_add seq_tuple_add PySem.F.slot_tuple_add PySem.F.entry_tuple_add (PySem.F.args_tuple_add_2 _ _)
   (tuple_addW1 t b vs.toArray ws.toArray n p m d sl g (by simpa using o) (by simp[h])) #[i,a,v h]
 ·show concat_meets #[_,i,L] #[_,a,L] noFill_tuple_add seq_tuple_add PySem.F.slot_tuple_add PySem.F.entry_tuple_add (PySem.F.args_tuple_add_2 _ _)
   (tuple_addW2 t b vs.toArray ws.toArray n p m d sl g (by simpa using o) (by simpa using h) (by rw[Qjq,Qjq];show hsz)) #[i,a,?_]
  rw[e]
  show r h
noncomputable def eG(n d:Nat):Option Int->Nat
 |none=>d
 |some v=>if v<0 then(v+(n:Int)).toNat else min v.toNat n
def uF(n d:Nat):eG n d none=d:=rfl
def Du(n d k:Nat):eG n d (some (k:Int))=min k n:=by
 show(if (k:Int)<0 then((k:Int)+(n:Int)).toNat else min (k:Int).toNat n)=min k n
 rw[Quq (!0),Int.toNat_natCast]
def Nd(n d:Nat)(b:d<=n)(o:Xb):eG n d o<=n:=by
 cases o with
 |none=>show b
 | some v=>
   show(if v<0 then(v+(n:Int)).toNat else min v.toNat n)<=n
   by_cases a:v<0
   · rw[Qhq a];omega
   · rw[Quq a];show Nat.min_le_right _ _
def Dl(v:Int)(n d:Nat):(if v<0 then max (v+(n:Int)) 0 else min v (n:Int))=((eG n d (some v):Nat):Int):=by
 show(if v<0 then max (v+(n:Int)) 0 else min v (n:Int))=(((if v<0 then(v+(n:Int)).toNat else min v.toNat n):Nat):Int)
 by_cases a:v<0
 ·erw[Qhq a];omega
 ·erw[Quq a];omega
def AS(lo hi:Xb)(n:Nat):Builtin.Slice.sliceAdjust lo hi 1 (n:Int)=(((eG n 0 lo:Nat):Int),((eG n n hi:Nat):Int)):=by
 have a:¬((1:Int)<0):=by omega
 unfold Builtin.Slice.sliceAdjust
 erw[a,if_false]
 show Prod.ext ?_ ?_
 ·cases lo with
  |none=>rfl
  |some v=>show Dl v n 0
 ·cases hi with
  |none=>rfl
  |some v=>show Dl v n n
def A4(i j:Nat):Builtin.Slice.slicePlaces (i:Int) (j:Int) 1=j-i:=by
 unfold Builtin.Slice.slicePlaces
 have a:(1:Int)>0:=by omega
 erw[a,if_true,Int.ediv_one]
 split <;>omega
def t4{E:X0}{Q:Option Int->Shared->Prop}(p:IsPart v o)(h:Q o s):wpAny (model prog w) A (Builtin.Slice.slicePartIndex v) Q E s:=by
 cases p with
 |none=>show slicePart_none h
 |int i t=>show slicePart_int h
def jb{prog:X9}{w:Xc}{A:X_}{E:X0}{s:X4}{sl:X8}{d c:Xd}{lo hi:Xb}{n:Nat}{Q:Int×Int×Nat->Shared->Prop}(i:s.heap.IsSliceOf sl d c .none)(e:IsPart d lo)(f:IsPart c hi)
  (h:Q (((eG n 0 lo:Nat):Int),1,eG n n hi-eG n 0 lo) s):wpAny (model prog w) A (Builtin.Slice.sliceApplied (.ref sl)<|pure (n:Int)) Q E s:=by
 let#[j,a,g,b]:=id i
 unfold Builtin.Slice.sliceApplied Builtin.Slice.sliceFields
 show Qaq<|Qaq<|QMq a b (x:=d) L<|Qaq<|QMq a b (x:=c) L<|Qaq<|QMq a b (x:=.none) L<|Qgq ?_
 show Qaq<|slicePart_none ?_
 show wpAny _ _ (if ((1:Int)==0)=true then _ else _) _ _ s
 rw[Quq (!1)]
 show Qaq<|t4 e<|Qaq<|t4 f<|Qaq<|Qgq ?_
 show wpAny _ _ (match Builtin.Slice.sliceAdjust lo hi 1 (n:Int) with|(lo,hi)=>pure (lo,(1:Int),Builtin.Slice.slicePlaces lo hi 1)) _ _ s
 rw[AS lo hi n]
 show wpAny _ _ (pure (((eG n 0 lo:Nat):Int),(1:Int),Builtin.Slice.slicePlaces ((eG n 0 lo:Nat):Int) ((eG n n hi:Nat):Int) 1)) _ _ s
 rw[A4]
 show Qgq h
def FB(xs:Xa)(i k:Nat):((List.range k).filterMap λ(m:Nat)=>xs[((i:Int)+(m:Int)*1).toNat]?).toArray=((xs.toList.drop i).take k).toArray:=by
 have e:(λ(m:Nat)=>xs[((i:Int)+(m:Int)*1).toNat]?)=λm=>xs[i+m]? :=by
  funext m
  have:((i:Int)+(m:Int)*1).toNat=i+m:=by omega
  rw[this]
 rw[e]
 have:=pick_run xs i k
 rw[List.filterMap_map] at this
 have a:((λx=>xs[x]?)∘λx=>i+x)=λm=>xs[i+m]? :=rfl
 rw[a] at this
 rw[this]
def m9{prog:X9}{w:Xc}{A:X_}{E:X0}{s:X4}{t sl:X8}{items:Xa}{g f:Xd}{lo hi:Xb}{Q:X0}(ht:IsTup s.heap t items)(i:s.heap.IsSliceOf sl g f .none)(n:IsPart g lo)(o:IsPart f hi)
  (l:¬(eG items.size 0 lo=0/\eG items.size items.size hi=items.size))
  (h:Q (.ref s.heap.objs.size) {s with heap:=s.heap.push {cls:=.type "tuple",data:=.seq ((items.toList.drop<|eG items.size 0 lo).take (eG items.size items.size hi-eG items.size 0 lo)).toArray}})
  (hsz:items.size<=sizeLine):wpAny (model prog w) A (getItem (.ref t)<|.ref sl) Q E s:=by
 have a:sizeOk (.seq ((items.toList.drop<|eG items.size 0 lo).take (eG items.size items.size hi-eG items.size 0 lo)).toArray):=by
  show((items.toList.drop<|eG items.size 0 lo).take (eG items.size items.size hi-eG items.size 0 lo)).toArray.size<=sizeLine
  rw[Qjq,Qxq,List.length_drop,Array.length_toList]
  omega
 have r:eG items.size items.size hi<=items.size:=Nd _ _ (Qmq _) hi
 let#[k,d,c,j]:=id i
 have e:s.TypeIs (.ref sl) "slice":=#[k,d,c]
 unfold getItem
 try with_reducible show QLq ?_
 first|show Qaq (Qgq ?_)|skip
 show Qaq<|wpAny_sequenceKey ht.typeIs (!1) ?_
 show Qaq (QiQ (name:=Str.ofString "__getitem__") ht.typeIs PyProof.Rows.slot_tuple_getitem
  (wpAny_call_entry PyProof.Rows.slot_tuple_getitem ht.typeIs entry_tuple_getitem ?_ (args_tuple_getitem _ _)))
 show wpAny _ _ (Builtin.Tuple.tupleItemsOf (.ref t) >>= _) _ _ s
 show Qaq<|tupleItemsOf_ ht ?_
 show Qaq<|wpAny_typeOf e ?_
 rw[Qhq (!1)]
 show Qaq<|jb i n o ?_
 have b:¬((((eG items.size 0 lo:Nat):Int)==0&&(1:Int)==1&&(eG items.size items.size hi-eG items.size 0 lo)==items.size)=true):=by
  intro q
  rw[QCq,QCq] at q
  have p:((eG items.size 0 lo:Nat):Int)=0:=eq_of_beq q.1.1
  have u:eG items.size items.size hi-eG items.size 0 lo=items.size:=eq_of_beq q.2
  show l #[by omega,by omega]
 show wpAny _ _ (if (((eG items.size 0 lo:Nat):Int)==0&&(1:Int)==1&&(eG items.size items.size hi-eG items.size 0 lo)==items.size)=true then _ else _) _ _ s
 rw[Quq b,FB]
 first
  |show Qaq (m:=Builtin.Tuple.tupleExact _) (QhQ (Qgq #[_,L,Qgq h]) a)
  |show Qaq (m:=Builtin.Tuple.tupleExact _) (QhQ (Qaq<|Qgq<|Qgq #[_,L,Qgq h]) a)
  |show Qaq (Qaq (m:=Builtin.Tuple.tupleExact _)<|QhQ (Qgq<|Qgq #[_,L,Qgq h]) a)
  |show Qaq (Qaq (m:=Builtin.Tuple.tupleExact _)<|QhQ (Qgq #[_,L,Qgq h]) a)
end HT
namespace L2
open PyProof.Rows
abbrev TO:=St->Hp->(Option Int->Hp->Prop)->Prop
def PO(X:Cx)(e:Option Expr)(t:TO):Prop:=
 ∀ (a:X2) (s:X4) (b:St) (H:Hp) (Q:Option Int->Hp->Prop),Inv X a b H s->t b H Q->
   wpAny (model X.prog X.w) X.A (evalPart e X.env) (λu d=>∃o c,Inv X a b c d/\IsPart u o/\Q o c) X.xe s
def Jb:TO:=λ_ H Q=>Q none H
def OL(t:TE):TO:=λa H Q=>t a H λx H1=>∃i,x=.int i/\Q (some i) H1
def intsAre_of{ns:List Int}:∀{a:X5},bo (ns.map V.int) a->IntsAre a ns:=by
 induction ns with
 |nil=>intro a r;rw[List.map_nil] at r;cases r;show .nil
 | cons n ns c=>
   intro a r
   rw[QDq] at r
   cases r with
   | cons d b=>
     let#[t,e]:=d
     subst e
     show .cons n t (c b)
def Jc:PO X none Jb:=by
 intro a s b H Q I h
 rw[evalPart_none]
 show Qgq #[none,H,I,.none,h]
def JW(h:PE X e c):PO X (some e) (OL c):=by
 intro a s n H Q I b
 rw[evalPart_some]
 show cj (h a s n H _ I b) λu o m=>?_
 let#[x,H1,l,j,k]:=m
 let#[i,rfl,q]:=k
 let#[t,rfl]:=j
 show#[some i,H1,l,.int i t,q]
def Q6(X:Cx)(r:V->Option Int->Option Int->Hp->VK->Prop):Prop:=
 ∀ (a:X2) (s:X4) (i:St) (H:Hp) (x:V) (v h b:Xd) (lo hi:Xb) (sl:X8) (Q:VK),Inv X a i H s->RelV x v->s.heap.IsSliceOf sl h b .none->IsPart h lo->IsPart b hi->r x lo hi H Q->
   ∃T id,typeLookup (.type T) "__getitem__"=pure (some<|.builtin id)/\s.TypeIs v T/\wpAny (model X.prog X.w) X.A (getItem v<|.ref sl) (EP X a i Q) X.xe s
def Sy(r:V->Option Int->Option Int->Hp->VK->Prop)(c:TE)(d th:TO):TE:=λa H Q=>c a H λx H1=>d a H1 λl H2=>th a H2 λu H3=>r x l u H3 Q
def Fq{X:Cx}{e:Expr}{c:TE}{lo:Option Expr}{hi:Option Expr}{d:TO}{th:TO}{g:Pos}{f:Pos}{r:V->Option Int->Option Int->Hp->VK->Prop}(G:Q6 X r)(he:PE X e c)(hl:PO X lo d)(M:PO X hi th):PE X (.Subscript e (.Slice lo hi none f) g) (Sy r c d th):=by
 intro a s j H Q I h
 show Subscript_ (cj (he a s j H _ I h) λv N n=>?_)
 let#[x,H1,t,o,B]:=n
 show wpAny_Slice (cj (hl a N j H1 _ t B) λm z ⟨l,H2,F,J,P⟩=>cj (M a z j H2 _ F P) λk i n=>?_)
 let#[u,H3,y,K,C]:=n
 rw[evalPart_none]
 show Qgq ?_
 have p:Inv X a j H3 {i with heap:=i.heap.push {cls:=.type "slice",data:=.fields (List.toArray [m,k,.none])}}:=y.kept (t':=i.toks) λb R q=>Qcq _ q
 let#[T,id,hT,ht,hg]:=G a {i with heap:=i.heap.push {cls:=.type "slice",data:=.fields (List.toArray [m,k,.none])}} j H3 x v m k l u i.heap.objs.size Q p o (Heap.IsSliceOf.new ..) J K C
 show wpAny (model X.prog X.w) X.A (subscriptTail e (.Slice lo hi none f) v<|.ref i.heap.objs.size) (EP X a j Q) X.xe {i with heap:=i.heap.push {cls:=.type "slice",data:=.fields (List.toArray [m,k,.none])}}
 show tail_any (ops:= [.ref i.heap.objs.size,v]) ht hT hg (by with_unfolding_all rfl)
noncomputable def A3(xs:List V)(lo hi:Xb):List V:=(xs.drop<|HT.eG xs.length 0 lo).take (HT.eG xs.length xs.length hi-HT.eG xs.length 0 lo)
def Am(xs:List V)(lo hi:Xb):(A3 xs lo hi).length<=xs.length:=by
 unfold A3
 rw[Qxq,List.length_drop]
 omega
def Rp(K:X1):V->Option Int->Option Int->Hp->VK->Prop:=λx lo hi H Q=>∃a b,x=.ref a/\gh K H a b∧
 ¬(HT.eG b.length 0 lo=0/\HT.eG b.length b.length hi=b.length)/\∀p,H p=none->Q (.ref p) (upd H p<|.tup (A3 b lo hi))
def MU:Q6 X (Rp X.K):=by
 intro n s B H x v A y lo hi sl Q I u w p t h
 let#[a,j,rfl,hx,hw,q]:=h
 cases u
 let#[k,r,l,m]:=I.tuple hx
 have i:k.toArray.size=j.length:=by rw[Qjq];show r.length.symm
 show#["tuple",_,PyProof.Rows.slot_tuple_getitem.lookup,l.typeIs,?_]
 show HT.m9 l w p t (by rw[i];show hw) ?_ (by rw[i];show m)
 rw[i]
 show#[.ref s.heap.objs.size,_,I.laid (t':=s.toks) (o:=.tup (A3 j lo hi)) (λb z q=>Qcq _ q) (Qmq _) ?_,L,q _<|I.hok.fresh<|Qmq _]
 show#[QAq (Am j lo hi) m,_,(r.drop<|HT.eG j.length 0 lo).take (HT.eG j.length j.length hi-HT.eG j.length 0 lo),tF.new _ _]
def K9(K:X1):R2:=λx y H Q=>∃a b i h,x=.ref a/\y=.ref b/\gh K H a i/\gh K H b h/\i≠[]/\i.length+h.length<=sizeLine∧
 (h= []->Q (.ref a) H)/\(h≠[]->∀p,H p=none->Q (.ref p) (upd H p<|.tup (i++h)))
def bo.nil_iff(r:bo xs a):a= []↔xs= []:=by
 cases r with
 |nil=>simp
 |cons _ _=>simp
def Jw:j0 X (binaryOp .Add) (K9 X.K):=by
 intro k s C H x y v u Q I r t h
 let#[a,b,p,A,rfl,rfl,ha,hb,hx,hz,q1,q2]:=h
 cases r
 cases t
 let#[m,j,n,_]:=I.tuple ha
 let#[l,i,f,_]:=I.tuple hb
 show HT.H_ n f (λz=>hx<|j.nil_iff.mp z) (λz=>#[.ref a,H,I,L,q1<|i.nil_iff.mp z]) (λz=>?_) (by rw[<-j.length,<-i.length];show hz)
 show#[.ref s.heap.objs.size,_,I.laid (t':=s.toks) (o:=.tup (p++A)) (λb B q=>Qcq _ q) (Qmq _) ?_,L,q2 (λw=>z<|i.nil_iff.mpr w) _<|I.hok.fresh<|Qmq _]
 show#[by rw[lQa];show hz,_,j.append i,tF.new _ _]
noncomputable def HW(n:Nat)(i:Int):Option Nat:=if 0<=i then(if i<n then some i.toNat else none) else if -(n:Int)<=i then some (i+n).toNat else none
noncomputable def nT(xs:List α)(i:Int):Option α:=(HW xs.length i).bind λj=>xs[j]?
def CD(h:HW n i=some j):seqIndex? i n=some j/\j<n/\ -(n:Int)<=i/\i<n:=by
 unfold HW at h
 by_cases b:0<=i
 ·rw[Qhq b] at h
  by_cases a:i<n
  ·rw[Qhq a] at h
   have e:i.toNat=j:=QdQ h
   show#[by rw[seqIndex_of b a,e],by omega,by omega,a]
  ·rw[Quq a] at h;cases h
 ·rw[Quq b] at h
  by_cases a: -(n:Int)<=i
  ·rw[Qhq a] at h
   have e:(i+n).toNat=j:=QdQ h
   show#[by rw[seqIndex_neg (!0) a,e],by omega,a,by omega]
  ·rw[Quq a] at h;cases h
def xD(h:nT xs i=some v):∃j,seqIndex? i xs.length=some j/\xs[j]?=some v/\j<xs.length/\ -(xs.length:Int)<=i/\i<xs.length:=by
 unfold nT at h
 cases e:HW xs.length i with
 |none=>rw[e] at h;cases h
 | some j=>
   rw[e] at h
   let#[c,a,d,b]:=CD e
   show#[j,c,h,a,d,b]
def DF(b:Expr):Prop:=∀o i,subscripted b false o i=operate [o,i] (getItem o i)
def Jj(X:Cx)(r:R2):Prop:=
 ∀ (c a:Expr) (b:X2) (s:X4) (d:St) (H:Hp) (x y:V) (v u:Xd) (Q:VK),Inv X b d H s->RelV x v->RelV y u->r x y H Q->
   subscripted a false v u=operate [v,u] (getItem v u)->wpAny (model X.prog X.w) X.A (subscriptTail c a v u) (EP X b d Q) X.xe s
def Ob(X:Cx)(id:String)(r:V->List V->Hp->VK->Prop):Prop:=
 ∀ (a:X2) (s:X4) (d:St) (H:Hp) (x:V) (c:List V) (v:Xd) (b:X5) (Q:VK),Inv X a d H s->RelV x v->bo c b->r x c H Q->
   wpAny (model X.prog X.w) X.A (call (.builtin id) (v::b)) (EP X a d Q) X.xe s
def Jj.or(h:Jj X r)(h':Jj X f):Jj X (λx y H Q=>r x y H Q\/f x y H Q):=by
 intro d c e s k H x y v u Q I g j q i
 rcases q with q|q
 ·show h d c e s k H x y v u Q I g j q i
 ·show h' d c e s k H x y v u Q I g j q i
def Pe(g:Jj X r)(m:PE X a F)(d:PE X b C)(j:DF b):PE X (.Subscript a b B) (K5 r F C):=by
 intro c s l H Q I h
 show Subscript_ (M5 m d I h λv u e x y H2 f i k q=>g a b c e l H2 x y v u Q f i k q<|j _ _)
def NY(K:X1):R2:=λx y H Q=>∃p c i v,x=.ref p/\y=.int i/\ji K H p c/\nT c i=some v/\Q v H
def Ou(K:X1):R2:=λx y H Q=>∃p c i v,x=.ref p/\y=.int i/\gh K H p c/\nT c i=some v/\Q v H
def NT:R2:=λx y H Q=>∃z i c,x=.str z/\y=.int i/\z.length<=sizeLine/\nT z.cps.toList i=some c/\Q (.str #[(List.toArray [c])]) H
def Jz:Jj X (NY X.K):=by
 intro g f c s J H x y v u Q I S U h G
 let#[p,Y,i,z,rfl,rfl,hq,he,q]:=h
 cases S
 let#[t,rfl]:=U
 let#[l,r,m,W]:=I.list hq
 let#[j,e,N,Z,P,R]:=xD he
 let#[w,A,k]:=r.get N
 let hl:=r.length
 let hn:=j9
 have d:EP X c J Q w s:=#[z,H,I,k,q]
 by_cases o:0<=i
 ·have n:i.toNat=j:=by
   rw[seqIndex_of o R] at e
   show QdQ e
  show item_listR m.isList o (!0) (by rw[n];simpa using A) d G
 ·have n:(i+(l.toArray.size:Int)).toNat=j:=by
   rw[seqIndex_neg (!0) P] at e
   rw[Qjq,<-hl]
   show QdQ e
  show subscriptTail_builtinR (x:=w) m.isList.typeIs slot_list_getitem.lookup
   (wpAny_getItem_list_neg (Q:=λr M=>r=w/\EP X c J Q r M) m.isList (!0) (by rw[Qjq] <;>omega) (!0) (by rw[n];simpa using A) #[L,d]) G
def La:Jj X (Ou X.K):=by
 intro e d c s l H x y v u Q I J N h M
 let#[p,U,i,z,rfl,rfl,hq,he,q]:=h
 cases J
 let#[t,rfl]:=N
 let#[o,r,k,S]:=I.tuple hq
 let#[j,A,n,W,P,R]:=xD he
 let#[w,G,g]:=r.get n
 let hl:=r.length
 let Y:=j9
 have f:EP X c l Q w s:=#[z,H,I,g,q]
 show subscriptTail_builtinR (x:=w) k.typeIs slot_tuple_getitem.lookup
  (getItem_tuple (j:=j) (Q:=λr m=>r=w/\EP X c l Q r m) k (!0) (!0) (by rw[Qjq,<-hl];show A) (by simpa using G) #[L,f]) M
def Ly:Jj X NT:=by
 intro e d g s J H x y v u Q I o r h p
 let#[z,i,c,rfl,rfl,hz,he,q]:=h
 let#[t,rfl]:=o
 let#[A,rfl]:=r
 let#[j,f,k,G,l,m]:=xD he
 have hl:z.cps.toList.length=z.length:=by simp[Str.length]
 rw[hl] at f l m
 let K:=j9
 show tail_any (typeIs_str s z t) slot_str_getitem.lookup (getItem_str (c:=c) (by
  have w:decide (i< -(2^63:Int))=false:=Qdq (!0)
  have n:decide (i>=2^63)=false:=Qdq (!0)
  rw[w,n,Bool.or_false]) (by rw[f];simpa using k) #[.str #[(List.toArray [c])],H,I.tok _,#[_,L],q]) p
def RD(K:X1):R2:=λx y H Q=>NY K x y H Q\/Ou K x y H Q\/NT x y H Q
def M1:Jj X (RD X.K):=Jz.or (La.or Ly)
def A_(c:X5)(n j:Nat)(u:Xd):Obj.mapSeq (·.setIfInBounds j u) {cls:=.type "list",data:=.seq c.toArray n}={cls:=.type "list",data:=.seq (c.set j u).toArray n}:=by
 simp[Obj.mapSeq]
def Inv.lst(I:Inv X d σ H s)(h:H p=some (.lst xs)):
  ∃(c:X5) (n:Nat),bo xs c/\s.heap.get? p=some {cls:=.type "list",data:=.seq c.toArray n}/\xs.length<=sizeLine:=by
 let#[z,c,n,r,e]:=I.hok p _ h
 show#[c,n,r,e,z]
def Inv.lstUpd{d its':X5}(I:Inv X c σ H s)(h:H p=some (.lst xs))
  (k:s.heap.get? p=some {cls:=.type "list",data:=.seq d.toArray n}) (i:f {cls:=.type "list",data:=.seq d.toArray n}={cls:=.type "list",data:=.seq its'.toArray g}) (r:bo ys its') (hz:ys.length<=sizeLine) (t:Nat):
  Inv X c σ (upd H p<|.lst ys) {s with heap:=s.heap.update p f,toks:=t}:=by
 have e:(s.heap.update p f).get? p=some {cls:=.type "list",data:=.seq its'.toArray g}:=by
  rw[Heap.get?_update_self f k (by rw[i] <;>rfl),i]
 show I.write (x:=p) (e:=p) (by rw[h];trivial) (.inl L) (λb u j q=>(Heap.get?_update_other _ _<|Ne.symm j).trans q) #[_,e] ?_
 show#[hz,its',g,r,e]
def KP:V->V->V->Hp->(Hp->Prop)->Prop:=λo i v H Q=>∃p c k j,o=.ref p/\i=.int k/\H p=some (.lst c)/\HW c.length k=some j/\Q (upd H p<|.lst (c.set j v))
def set_list:Of X KP:=by
 intro d s J H o i v N R u Q I y K z h
 let#[p,G,k,j,rfl,rfl,hp,hj,q]:=h
 cases y
 let#[t,rfl]:=K
 let#[c,n,r,g,A]:=I.lst hp
 let#[e,M,x,m]:=CD hj
 let hl:=r.length
 let P:=j9
 have w:Inv X d J (upd H p<|.lst (G.set j v)) {s with heap:=s.heap.update p (Obj.mapSeq (·.setIfInBounds j u))}:=
  I.lstUpd hp g (A_ c n j u) (r.set z j) (by rw[List.length_set];show A) s.toks
 by_cases l:0<=k
 ·have f:k.toNat=j:=by
   rw[seqIndex_of l m] at e
   show QdQ e
  show PySem.W.ki_setAt g l (!0) (by rw[Qjq,<-hl];show m) (by rw[f];show#[_,w,q])
 ·have f:(k+(c.toArray.size:Int)).toNat=j:=by
   rw[seqIndex_neg (!0) x] at e
   rw[Qjq,<-hl]
   show QdQ e
  show PySem.W.ki_setBack g (!0) (by rw[Qjq,<-hl];show x) (!0) (by rw[f];show#[_,w,q])
noncomputable def gw:V->Bool
 |.non=>true
 |.bl _=>true
 |.int _=>true
 |.str _=>true
 |_=>false
noncomputable def pT:V->V->Bool
 |.non,.non=>true
 |.bl a,.bl b=>a==b
 |.bl a,.int b=>(if a then 1 else 0)==b
 |.int a,.bl b=>a==(if b then 1 else 0)
 |.int a,.int b=>a==b
 |.str a,.str b=>a==b
 |_,_=>false
def Hn(f:RelV y u)(c:RelV x v)(g:gw y=true)(e:gw x=true):SeqAt.EqAt A s u v (pT y x):=by
 cases y with
 | non=>
   cases f
   cases x with
   |non=>cases c;show SeqAt.EqAt.same _
   |bl b=>cases c;show SeqAt.EqAt.none_bool b
   |int b=>let#[t,rfl]:=c;show SeqAt.EqAt.none_int b t
   |str b=>let#[t,rfl]:=c;show SeqAt.EqAt.none_str b t
   |_=>show absurd (show false=true from e) Qtq
 | bl a=>
   cases f
   cases x with
   |non=>cases c;show SeqAt.EqAt.bool_none a
   |bl b=>cases c;show SeqAt.EqAt.bool_bool a b
   |int b=>let#[t,rfl]:=c;show SeqAt.EqAt.bool_int a b t
   |str b=>let#[t,rfl]:=c;show SeqAt.EqAt.bool_str a b t
   |_=>show absurd (show false=true from e) Qtq
 | int a=>
   let#[d,rfl]:=f
   cases x with
   |non=>cases c;show SeqAt.EqAt.int_none a d
   |bl b=>cases c;show SeqAt.EqAt.int_bool a d b
   |int b=>let#[t,rfl]:=c;show SeqAt.EqAt.int_int a d b t
   |str b=>let#[t,rfl]:=c;show SeqAt.EqAt.int_str a d b t
   |_=>show absurd (show false=true from e) Qtq
 | str a=>
   let#[d,rfl]:=f
   cases x with
   |non=>cases c;show SeqAt.EqAt.str_none a d
   |bl b=>cases c;show SeqAt.EqAt.str_bool a d b
   |int b=>let#[t,rfl]:=c;show SeqAt.EqAt.str_int a d b t
   |str b=>let#[t,rfl]:=c;show SeqAt.EqAt.str_str a d b t
   |_=>show absurd (show false=true from e) Qtq
 |_=>show absurd (show false=true from g) Qtq
noncomputable def AE(x:V)(u:Xd):Bool:=match u with
 |.none=>pT .non x
 |.bool b=>pT (.bl b) x
 |.int i _=>pT (.int i) x
 |.str z _=>pT (.str z) x
 |_=>false
def xh(r:RelV y u)(f:gw y=true):AE x u=pT y x:=by
 cases y with
 |non=>cases r;rfl
 |bl b=>cases r;rfl
 |int i=>let#[t,rfl]:=r;rfl
 |str z=>let#[t,rfl]:=r;rfl
 |_=>show absurd (show false=true from f) Qtq
theorem ou:∀{xs:List V} {c:X5},bo xs c->xs.all gw=true->c.any (AE x)=xs.any λy=>pT y x
 |_,_,.nil,_=>rfl
 | y::xs,u::c,.cons r t,f=>by
   rw[List.all_cons,QCq] at f
   rw[List.any_cons,List.any_cons,xh r f.1,ou t f.2]
theorem jh(g:RelV x v)(e:gw x=true):∀{xs:List V} {d:X5},bo xs d->xs.all gw=true->∀u∈d,SeqAt.EqAt A s u v (AE x u)
 |_,_,.nil,_=>λu c=>by cases c
 | y::xs,u::d,.cons r t,f=>λh c=>by
   rw[List.all_cons,QCq] at f
   rcases Qsq.mp c with rfl|c
   · rw[xh r f.1];show Hn r g f.1 e
   · show jh g e t f.2 h c
noncomputable def Fc(x:V)(xs:List V):Bool:=xs.any λy=>pT y x
def QR(K:X1)(d:Bool):R2:=λx y H Q=>∃p c,y=.ref p/\(ji K H p c\/gh K H p c)/\gw x=true/\c.all gw=true/\Q (.bl (if d then !Fc x c else Fc x c)) H
def E5:j0 X (compareOp .In) (QR X.K false):=by
 intro g s m H x y v u Q I i k h
 let#[p,l,rfl,d,fx,fs,q]:=h
 cases k
 rcases d with d|d
 ·let#[c,r,f,j]:=I.list d
  show SeqAt.in_listAt (AE x) f.isList (λw e=>jh i fx r fs w (by simpa using e)) #[.bl _,H,I,L,?_]
  rw[show c.toArray.any (AE x)=c.any (AE x) by simp,ou r fs]
  show q
 ·let#[c,r,f,j]:=I.tuple d
  show SeqAt.in_tupleAt (AE x) f (λw e=>jh i fx r fs w (by simpa using e)) #[.bl _,H,I,L,?_]
  rw[show c.toArray.any (AE x)=c.any (AE x) by simp,ou r fs]
  show q
def ya:j0 X (compareOp .NotIn) (QR X.K true):=by
 intro g s m H x y v u Q I i k h
 let#[p,l,rfl,d,fx,fs,q]:=h
 cases k
 rcases d with d|d
 ·let#[c,r,f,j]:=I.list d
  show SeqAt.notIn_listAt (AE x) f.isList (λw e=>jh i fx r fs w (by simpa using e)) #[.bl _,H,I,L,?_]
  rw[show c.toArray.any (AE x)=c.any (AE x) by simp,ou r fs]
  show q
 ·let#[c,r,f,j]:=I.tuple d
  show SeqAt.notIn_tupleAt (AE x) f (λw e=>jh i fx r fs w (by simpa using e)) #[.bl _,H,I,L,?_]
  rw[show c.toArray.any (AE x)=c.any (AE x) by simp,ou r fs]
  show q
def xA:dB X (.builtin "len") (λxs H Q=>∃p ys,xs= [.ref p]/\(ji X.K H p ys\/gh X.K H p ys)/\Q (.int ys.length) H):=by
 intro i s k H xs m Q I r h
 let#[p,ys,rfl,d,q]:=h
 let#[u,rfl,rx]:=vals1 r
 cases rx
 let l:=j9
 rcases d with d|d
 ·let#[f,e,g,j]:=I.list d
  let c:=e.length
  show Calls.call_len_list g.isList (by erw[Qjq] <;>omega) #[.int ys.length,H,I.tok _,#[s.toks+1,by rw[Qjq,c]],q]
 ·let#[f,e,g,j]:=I.tuple d
  let c:=e.length
  show len_tuple g (by erw[Qjq] <;>omega) #[.int ys.length,H,I.tok _,#[s.toks+1,by rw[Qjq,c]],q]
def xI:dB X (.builtin "len") (λxs H Q=>∃z,xs= [.str z]/\z.length<=sizeLine/\Q (.int z.length) H):=by
 intro c s e H xs d Q I r h
 let#[z,rfl,hz,q]:=h
 let#[u,rfl,t,rfl]:=vals1 r
 let f:=j9
 show len_str (!0) #[.int z.length,H,I.tok _,#[_,L],q]
def dB.or(h:dB X f r)(h':dB X f e):dB X f (λxs H Q=>r xs H Q\/e xs H Q):=by
 intro c s i H xs g Q I d q
 rcases q with q|q
 ·show h c s i H xs g Q I d q
 ·show h' c s i H xs g Q I d q
def uR:dB X (.type "tuple") (λxs H Q=>∃p ys,xs= [.ref p]/\((ji X.K H p ys/\∀l,H l=none->Q (.ref l) (upd H l<|.tup ys))\/(gh X.K H p ys/\Q (.ref p) H))):=by
 intro c s t H xs y Q I r h
 let#[p,ys,rfl,h]:=h
 let#[u,rfl,rx]:=vals1 r
 cases rx
 rcases h with⟨i,q⟩|⟨i,q⟩
 ·let#[d,g,j,n]:=I.list i
  let m:=g.length
  show call_tuple_list j.isList (λf v=>?_) (by erw[Qjq] <;>omega)
  have k:Inv X c t H {s with heap:=f}:=I.kept (t':=s.toks) v
  have x:Inv X c t (upd H f.objs.size<|.tup ys) {s with heap:=f.push {cls:=.type "tuple",data:=.seq d.toArray}}:=
   k.laid (t':=s.toks) (λb o e=>Qcq _ e) (Qmq _) (show bR X.prog X.w _ _ _ (.tup ys) from#[n,d,g,tF.new _ _])
  show#[.ref f.objs.size,_,x,L,q _<|k.hok.fresh<|Qmq _]
 ·let#[d,g,j,n]:=I.tuple i
  show call_tuple_same j #[.ref p,H,I,L,q]
def RV(K:X1)(T:String)(x:V)(H:Hp):Prop:=match x with
 |.str _=>T="str"
 |.int _=>T="int"
 |.ref p=>(T="list" /\∃d,ji K H p d)\/(T="tuple" /\∃o,K.lookup p=some o/\o.cls=.type "tuple" /\o.dict=none)∨
   (T="dict" /\((∃c,H p=some (.dK c))\/∃c,H p=some (.dT c)))\/(T="set" /\∃S n,H p=some (.set S n))
 |_=>False
def Ng{T:String}(I:Inv X g σ H s)(r:RelV x v)(h:RV X.K T x H):
  s.TypeIs v T/\∀a,v=.ref a->∃m,s.heap.get? a=some m/\m.dict=none:=by
 cases x with
 | str z=>
   let#[t,rfl]:=r
   cases (show T="str" from h)
   show#[typeIs_str s z t,λ_ e=>nomatch e]
 | int i=>
   let#[t,rfl]:=r
   cases (show T="int" from h)
   show#[typeIs_int s i t,λ_ e=>nomatch e]
 | ref p=>
   cases r
   rcases h with⟨rfl,xs,hq⟩|⟨rfl,o,d,hc,j⟩|⟨rfl,d⟩|⟨rfl,S,n,d⟩
   · let#[u,_,q,_]:=I.list hq
     show#[q.isList.typeIs,λa e=>?_]
     cases e
     let#[o,n,e,c,j,_]:=q
     show#[o,e,j]
   · show#[#[o,I.kIn p o d,hc],λa e=>?_]
     cases e
     show#[o,I.kIn _ o d,j]
   · have z:∃o,s.heap.get? p=some o/\o.ExactDict:=by
       rcases d with⟨k,d⟩|⟨k,d⟩
       · let#[_,_,_,_,o,_,_,e,f,_]:=I.hok p _ d
         show#[o,e,f]
       · let#[_,_,_,_,o,_,_,e,f,_]:=I.hok p _ d
         show#[o,e,f]
     let#[o,e,f]:=z
     show#[#[o,e,f.1],λa l=>?_]
     cases l
     show#[o,e,f.2.1]
   · let#[o,_,_,_,e,f,_]:=I.hok p _ d
     show#[#[o,e,f.1],λa l=>?_]
     cases l
     show#[o,e,f.2.1]
 |_=>show False.elim h
def PX(K:X1)(T:String)(r:V->List V->Hp->VK->Prop)(m:TE)(t:TA):TE:=λc H Q=>m c H λx H1=>RV K T x H1/\t c H1 λd H2=>r x d H2 Q
def zo{X:Cx}{o:Expr}{e:Expr}{es:List Expr}{m:TE}{t:TA}{name:Str}{g:Pos}{d:Pos}{T:String}{id:String}{r:V->List V->Hp->VK->Prop}(pa:PlainAttrs T)(k:Slot T name id)(n:typeOf (.builtin id)=pure (.type "method_descriptor"))(Y:Ob X id r)(N:PE X o m)(ha:PA X (e::es) t)
  (i:autoParam (attributeBase o name X.env (eval o X.env)=eval o X.env) db._auto_1)
  (l:autoParam (((backTo d (starEach (e::es) X.env)).all (λx=> !x.1)&&(backToKw d (keywordEach [] X.env)).all (λx=>x.1.isSome)
   &&decide ((e::es).length+([]:List Keyword).length+(if ([]:List Keyword).isEmpty then 0 else 1)<30))=true) db._auto_1)
  (j:autoParam ((g.endLine==d.line)=true) db._auto_1) (R:autoParam (starEach (e::es) X.env=(false,eval e X.env)::starEach es X.env) db._auto_1) (f:autoParam ((backTo d<|starEach es X.env).any (·.1)=false) db._auto_1):
  PE X (.Call (.Attribute o name g) (e::es) [] d) (PX X.K T r m t):=by
 intro c s p H Q I h
 show wpAny_Call_method_late i l j L (cj (N c s p H _ I h) λv P S=>?_)
 let#[x,H1,u,q,U,G]:=S
 let#[J,y]:=Ng u q U
 show#[T,id,pa,k,n,J,y,?_]
 let w:=ha d c P p H1 _ u G
 rw[R] at w|-
 show Calls.callWith_builtin (by show(false||(backTo d<|starEach es X.env).any (·.1))=false;rw[f] <;>rfl)<|Calls.evalArgs_plain ?_
 show cj w λZ A ⟨z,H2,M,W,q2⟩=>Y c A p H2 x z v Z Q M q W q2
def Qw(X:Cx)(id:String)(r:V->List V->Hp->VK->Prop):Prop:=
 ∀ (a:X2) (s:X4) (d:St) (H:Hp) (x:V) (c:List V) (v:Xd) (b:X5) (Q:VK),Inv X a d H s->RelV x v->bo c b->r x c H Q->
   wpAny (model X.prog X.w) X.A (call (.builtin id) (v::b)) (EP X a d Q) X.xe s
def bo.one:∀{x:V} {a:X5},bo [x] a->∃u,a= [u]/\RelV x u
 |_,_,.cons r .nil=>#[_,L,r]
theorem bo.rep(h:bo xs a):∀k:Nat,bo (List.replicate k xs).flatten (List.replicate k a).flatten
 |0=>.nil
 | k+1=>by
   rw[QNq,QNq,List.flatten_cons,List.flatten_cons]
   show bo.append h<|bo.rep h k
theorem foldl_rep(a:X5):∀(k:Nat) (b:X5),
  List.foldl (λd f=>d++f) b.toArray (List.replicate k a.toArray)=(b++(List.replicate k a).flatten).toArray
 |0,b=>by simp
 | k+1,b=>by
   have e:b.toArray++a.toArray=(b++a).toArray:=by simp
   have c:(b++a)++(List.replicate k a).flatten=b++(List.replicate (k+1) a).flatten:=by
     rw[QNq,List.flatten_cons,Qvq]
   rw[<-c,<-foldl_rep a k (b++a),<-e,QNq,List.foldl_cons]
def Inv.lset{d its':X5}{f:Array Value->Array Value}(I:Inv X a σ H s)(i:H l=some (.lst xs))
  (e:s.heap.get? l=some {cls:=.type "list",data:=.seq d.toArray n}) (g:f d.toArray=its'.toArray) (h:bo ys its') (hz:ys.length<=sizeLine):
  Inv X a σ (upd H l<|.lst ys) {s with heap:=s.heap.update l (Obj.mapSeq f),toks:=t'}:=by
 let q:=PySem.IsL.update e f
 rw[g] at q
 show I.write (x:=l) (e:=l) (by rw[i];show trivial) (.inl L) (λm u k j=>(Heap.get?_update_other s.heap (Obj.mapSeq f)<|Ne.symm k).trans j) #[_,q] ?_
 show#[hz,its',_,h,q]
def Inv.lnew(I:Inv X a σ H s)(e:bo ys d)(hz:ys.length<=sizeLine):
  Inv X a σ (upd H s.heap.objs.size<|.lst ys) {s with heap:=s.heap.push {cls:=.type "list",data:=.seq d.toArray},toks:=t'}:=
 I.laid (λ_ _ q=>Qcq _ q) (Qmq _) #[hz,d,0,e,Qrq _ L]
def Inv.fresh(I:Inv X a σ H s):H s.heap.objs.size=none:=I.hok.fresh (Qmq _)
def Inv.lstM(I:Inv X a σ H s)(f:H l=some (.lst xs)):xs.length<=sizeLine/\∃(d:X5) (n:Nat),bo xs d/\xs.length=d.length/\s.heap.get? l=some {cls:=.type "list",data:=.seq d.toArray n}:=by
 let#[z,d,n,r,e]:=I.hok l _ f
 show#[z,d,n,r,r.length,e]
def sZ(h:n<=sizeLine):Builtin.List.listTooLong n=false:=by
 unfold Builtin.List.listTooLong
 show Qdq (!0)
def B_:V->List V->Hp->VK->Prop:=λx b H Q=>∃l a y,x=.ref l/\b= [y]/\H l=some (.lst a)/\a.length<sizeLine/\Q .non (upd H l<|.lst (a++ [y]))
def pI:Qw X "list.append" B_:=by
 intro b s i H x f v j Q I d c h
 let#[l,g,y,rfl,rfl,hH,hz,q]:=h
 cases d
 let#[u,rfl,ru]:=c.one
 let#[z,a,n,r,hl,e]:=I.lstM hH
 show call_meets F.slot_list_append #[_,e,L] F.entry_list_append (F.args_list_append_2 _ _) (PySem.list_append l a.toArray n u (by rw[Qjq];omega)) #[e,?_]
 show#[.non,_,I.lset (its':=a++ [u]) hH e (by simp) (r.append<|.cons ru .nil) ?_,L,q]
 rw[lQa,List.length_singleton]
 omega
def C2:V->List V->Hp->VK->Prop:=λx d H Q=>∃l b a c,x=.ref l/\d= [.ref b]/\H l=some (.lst a)/\H b=some (.lst c)/\a.length+c.length<=sizeLine/\Q .non (upd H l<|.lst (a++c))
def Eu:Qw X "list.extend" C2:=by
 intro g s B H x y v C Q I m j h
 let#[l,b,A,t,rfl,rfl,hH,hB,hz,q]:=h
 cases m
 let#[u,rfl,ru]:=j.one
 cases ru
 let#[z,c,n,r,hl,e]:=I.lstM hH
 let#[w,a,p,o,i,k]:=I.lstM hB
 have f:c.toArray.size+a.toArray.size<=sizeLine:=by rw[Qjq,Qjq];omega
 have d:¬(!c.toArray.isEmpty&&Builtin.List.listTooLong (c.toArray.size+a.toArray.size))=true:=by
  rw[sZ f,Bool.and_false]
  show Qtq
 show call_meets F.slot_list_extend #[_,e,L] F.entry_list_extend (F.args_list_extend_2 _ _)
  (AutoSeq1.list_extend_list_list_0 l c.toArray n b a.toArray p d (by rw[Qjq];omega) (!0)) #[e,k,?_]
 show#[.non,_,I.lset (its':=c++a) hH e (by simp) (r.append o) ?_,L,q]
 rw[lQa]
 omega
def QI:R2:=λx y H Q=>∃l b a c,x=.ref l/\y=.ref b/\H l=some (.lst a)/\H b=some (.lst c)/\a.length+c.length<=sizeLine/\∀p,H p=none->Q (.ref p) (upd H p<|.lst (a++c))
def Ls:j0 X (binaryOp .Add) QI:=by
 intro d s w H x y v u Q I i j h
 let#[l,b,t,o,rfl,rfl,hH,hB,hz,q]:=h
 cases i
 cases j
 let#[z,c,n,r,hl,e]:=I.lstM hH
 let#[p,a,A,k,f,g]:=I.lstM hB
 show PySem.P.add_list e g ?_ (by rw[Qjq,Qjq];omega)
 have m:c.toArray++a.toArray=(c++a).toArray:=by simp
 rw[m]
 show#[.ref _,_,I.lnew (t':=s.toks) (r.append k) (by rw[lQa];omega),L,q _ I.fresh]
def QV:R2:=λx y H Q=>∃l k a,x=.ref l/\y=.int k/\H l=some (.lst a)/\ -(2^63)<=k/\k<2^63/\a.length*k.toNat<=sizeLine∧
 ∀p,H p=none->Q (.ref p) (upd H p<|.lst (List.replicate k.toNat a).flatten)
def len_rep(xs:List α)(k:Nat):(List.replicate k xs).flatten.length=k*xs.length:=by
 induction k with
 |zero=>simp
 |succ k a=>rw[QNq,List.flatten_cons,lQa,a,Nat.succ_mul,Nat.add_comm]
def M9:j0 X (binaryOp .Mult) QV:=by
 intro p s K H x y v u Q I B C h
 let#[l,k,J,rfl,rfl,hH,h1,h2,hz,q]:=h
 cases B
 let#[t,rfl]:=C
 let#[z,b,n,r,hl,e]:=I.lstM hH
 have f:b.toArray.size*k.toNat<=sizeLine:=by rw[Qjq,<-hl];show hz
 have d:¬b.toArray.size*k.toNat>(2^63-1)/8:=by
  have:(sizeLine:Nat)<=(2^63-1)/8:=by decide
  omega
 have i:¬(!Builtin.List.listFitsIndex k)=true:=by
  rw[fitsIndex_both h1 h2]
  show Qtq
 have c:¬Builtin.List.listTooLong (b.toArray.size*k.toNat)=true:=by
  rw[sZ f]
  show Qtq
 have g:List.foldl (λo j=>o++j) (List.toArray []) (List.replicate (if b.toArray.isEmpty=true then 0 else k.toNat) b.toArray)=(List.replicate k.toNat b).flatten.toArray:=by
  have A:∀m:Nat,List.foldl (λo j=>o++j) (List.toArray []) (List.replicate m b.toArray)=(List.replicate m b).flatten.toArray:=λm=>by
   have:=foldl_rep b m []
   rw[List.nil_append] at this
   show this
  rw[A]
  cases b with
  |nil=>simp
  |cons a G=>rw[Quq (by simp)]
 show wpAny_binaryOp_repeat_ref (T:="list") (U:="int") (!1) #[_,e,L] (λw=>typeIs_int w k t) noFill_list_mul F.fills_int_mul F.slot_int_rmul repeat_list F.slot_int_index.lookup
  (call_meets F.slot_int_rmul (typeIs_int s k t) F.entry_int_rmul (F.args_int_rmul_2 _ _) (int___rmul___int_list k t l b.toArray n)
   #[e,L,#[_,e,L],call_meets F.slot_list_mul #[_,e,L] F.entry_list_mul (F.args_list_mul_2 _ _) (AutoListH.list___mul___list_int_3 l b.toArray n k t i d c) #[e,?_]])
 rw[g]
 show#[.ref _,_,I.lnew (t':=s.toks) (r.rep k.toNat) (by rw[len_rep,Nat.mul_comm];show hz),L,q _ I.fresh]
end L2
namespace Att
open PySem PySem.W PySem.Calls PyProof.Rows
def qF:∀(ns:List Int) (vs:X5),WellAll P h vs (ns.map WData.int)->IntsAre vs ns:=by
 intro ns
 induction ns with
 | nil=>
   intro vs w
   rw[List.map_nil] at w
   cases w
   show .nil
 | cons n ns c=>
   intro vs w
   rw[QDq] at w
   cases w with
   | cons a b=>
     cases a
     show .cons _ _ (c _ b)
def EI{l:OpenLaw}(p:l.most=some n)
  (c:l.row.toRowW.claim.pre args=true) (j:WellAll P h b args):
  ∃a vs ns,b= [Value.ref a]/\args= [WData.list (ns.map WData.int)]/\h.get? a=some {cls:=.type "list",data:=.seq vs.toArray}/\IntsAre vs ns/\ns.length<=n:=by
 have xW:WShape.hasAll [] args [.list .int]=true:=(pre_splitW c).1
 have k:l.pre.holds [] {args:=args}=true:=(pre_splitW c).2
 let#[d,r,rfl,h1,h2]:=hasAllW_cons xW
 obtain rfl:=hasAllW_nil h2
 let#[u,rfl,h3]:=hasW_list h1
 let#[ns,rfl]:=items_int h3
 have e:ns.length<=n:=by
  unfold OpenLaw.pre at k
  have g:(WTm.not<|.lt (.lit (.int (n:Int))) (.len (.arg 0))).holds [] {args:= [.list (ns.map .int)]}=true:=by
   let g:=(holds_andW k).1
   rw[p] at g
   show g
  let i:=condW_of g (w_not<|w_lt w_lit<|w_len_list<|w_arg L)
  rw[lQm] at i
  show Nat.le_of_not_lt λq=>?_
  have t:(n:Int)<((ns.length:Nat):Int):=by omega
  first
   |(rw[Qeq t] at i;show absurd i (!1))
   |(simp at i;omega)
 cases j with
 | cons m s=>
   cases s
   cases m with
   |list o f=>show#[_,_,ns,L,L,o,qF ns _ f,e]
def DV(l:OpenLaw)(args:List WData):l.row.toRowW.claim.post args (.bool true) args=true:=
 postW_of (r:=l.row.toRowW) (X:=(true==true))
  (show WShape.has [] (.bool true) .bool=true by first|rfl|decide|simp[WShape.has,WShape.arms,WShape.armsAll])
  (show(WTm.eq .res<|.lit (.bool true)).value [] {args:=args,res:=some (.bool true),after:=args}=some (.bool (true==true)) from w_eq_bool (w_res L) w_lit) L
def zH{l:OpenLaw}{B:World->Heap->Prop}{d:DefRec}
  (M:l.most=some n) (t:d.params.defaults= [])
  (h:∀(w:Xc) (c b:X4) (m u:X3) (i:X8) (o:Obj) (p k g:Xd) (a:X8) (vs:X5) (ns:List Int),
   Ground q e [] C w c m u b.heap->B w b.heap->
   b.heap.get? i=some o->o.data=.func (docDef d.name d.params d.body d.scope p k g)->b.heap.CodeRec k d.name->m d.name=some (.ref i)->
   b.heap.get? a=some {cls:=.type "list",data:=.seq vs.toArray}->IntsAre vs ns->ns.length<=n->b.gens= (List.toArray [])->
   codeAny (model l.prog w) callerA (.call (.ref i) #[[.ref a],[]]) (λr s'=>r=.ok (.ret (.bool true))/\OldK b.heap s'.heap/\s'.os=b.os/\AllBare s'.gens) b):
  WalkO q e C B l.row.toRowW d [] (λf vs=>PySem.call f vs):=by
 intro w c b m u G Y i o p k g Q kV K H x A v I y z S j F R s P
 obtain rfl:Q=.none:=Dflts.none A t
 obtain rfl:kV=.none:=Dflts.noKw A
 let#[a,vs,ns,rfl,rfl,hobj,hints,hlen]:=EI M j s
 show enter_call (codeAny_mono (h w c b m u i o p k g a vs ns G Y K (fd_plain H) x v hobj hints hlen I) λr s' J=>?_)
 let#[rfl,h2,h3,h4]:=J
 show#[.inl #[.bool true,.bool true,[],L,λ_=>rfl,.bool true,DV l _,λ_=>#[List.Pairwise.nil,λ_ N=>(nomatch N)]],h2,h3,h4]
end Att
namespace L2
open PyProof.Rows
theorem vF:∀{vs:X5} {ns:List Int},IntsAre vs ns->bo (ns.map V.int) vs
 |_,_,.nil=>.nil
 |_,_,.cons n t h=>.cons #[t,L] (vF h)
def J3(H:Hp):Prop:=∀b,H b=none\/∃o a,H b=some (.frz o (.lst a))
def Hq{K:X1}{c:X4}{vs:X5}
  (KX:K.In c.heap) (M:c.heap.Ns mainGlobals Q) (g:c.heap.Ns builtinsNs Y) (S:∀x:Str,x≠"__name__" ->Y x=bootBuiltins x) (N:c.heap.NoLimit) (hg:c.gens= (List.toArray []))
  (R:c.heap.get? a=some {cls:=.type "list",data:=.seq vs.toArray}) (hi:IntsAre vs ns) (hl:ns.length<=sizeLine) (hr:dX k callerA)
  (F:∀i:Heap,K.In i->i.Ns mainGlobals Q->bp P w K Q i CX k fa fd [x] sp) (p:∀(s:X4) (u:Xd),BindsTo s fd #[[u],[]] [(x,u)])
  (a0:∀H:Hp,J3 H->ji K H a (ns.map V.int)->sp [.ref a] H (λv _=>v=.bl true) λ_ _ _=>False)
  (Z:∀H e s',CX [] H c (λ_ _ _=>False) e s'->False):
  codeAny (model P w) callerA (.call (.ref fa) #[[.ref a],[]]) (λr s'=>r=.ok (.ret (.bool true))/\OldK c.heap s'.heap/\s'.os=c.os/\AllBare s'.gens) c:=by
 let rv:=vF hi
 let G:=hi.length
 have l:∀H:Hp,J3 H->ji K H a (ns.map V.int)->m4 P w H c.heap->(∀b,H b≠none->b=a)->(H a≠none->K.lookup a=none)->
   codeAny (model P w) callerA (.call (.ref fa) #[[.ref a],[]]) (λr s'=>r=.ok (.ret (.bool true))/\OldK c.heap s'.heap/\s'.os=c.os/\AllBare s'.gens) c:=by
  intro H hO hS y hA hK
  have f:∀{b:X8} {o:Obj},c.heap.get? b=some o->H b=none->(yj c.heap H).get? b=some o:=λe n=>GZ e n
  have U:∀{b:X8} {o:Obj} {C:Array DictEntry} {I:Nat},c.heap.get? b=some o->o.data=.dict C I->H b=none:=λ{b o C I} e d=>by
   cases q:H b with
   |none=>rfl
   | some u=>
     have e':b=a:=hA b (by rw[q];simp)
     subst e'
     rw[R] at e;cases e
     have d':Data.seq vs.toArray _=Data.dict C I:=d
     cases d'
  have j:∀{b:X8} {m:X3},c.heap.Ns b m->(yj c.heap H).Ns b m:=λ{b m} ⟨o,C,I,e,d,r⟩=>#[o,C,I,f e<|U e d,d,r]
  have A:K.In (yj c.heap H):=λb o e=>f (KX b o e) (by
   cases q:H b with
   |none=>rfl
   | some u=>
     have e':b=a:=hA b (by rw[q];simp)
     subst e'
     rw[hK (by rw[q];simp)] at e;cases e)
  have hM:Mod K Q (yj c.heap H):=#[A,j M,#[Y,j g,S],let ⟨mc,h1,h2⟩:=N;#[mc,j h1,h2]]
  have e0:IK P w K Q (yj c.heap H) callerA [] c H:=#[L,hM,λb o e=>HZ e,Nat.le_of_eq<|ER _ _,trivial,λb g=>absurd (show b∈([]:List Addr) from g) (by simp),y,.of_eq hg]
  show codeAny_mono ((F _ A<|j M).run callerA [] c H #[[.ref a],[]] [.ref a] [.ref a] _ _ hr e0 (p c<|.ref a) (.cons rfl .nil) (a0 H hO hS)) λr s' h=>?_
  cases r with
  |error e=>show(Z H e s' h).elim
  | ok fl=>
    cases fl with
    |next=>show False.elim h
    |brk=>show False.elim h
    |cont=>show False.elim h
    | ret u=>
      let#[v,H',os,t,un,J,r',q]:=h
      have q':v=.bl true:=q
      subst q'
      obtain rfl:u=Value.bool true:=r'
      show#[L,OldK.of_keep λb o e=>?_,os,t]
      cases q:H b with
      |none=>show un.keep b o e q (by intro z;show absurd (show b∈([]:List Addr) from z) (by simp)) (by simp)
      | some u=>
        rcases hO b with z|⟨ob,xs,z⟩
        · rw[q] at z;cases z
        · have z2:=un.frzs b ob _ z
          let#[e1,_]:=y b _ z
          let#[e2,_]:=J b _ z2
          rw[e] at e1;cases e1
          show e2
 cases X:K.lookup a with
 | some o=>
   let e:=KX a o X
   rw[R] at e
   cases e
   show l (λ_=>none) (λ_=>.inl L) (.inr #[_,vs.toArray,_,X,L,L,L,by rw[Qjq,G];show hl,by simpa using rv]) (λb u z=>by have B:(none:Option HO)=some u:=z;cases B) (λb z=>absurd L z) λz=>absurd L z
 | none=>
   show l (λb=>if b=a then some (.frz {cls:=.type "list",data:=.seq vs.toArray} (.lst (ns.map V.int))) else none) (λb=>?_) (.inl (.inr #[{cls:=.type "list",data:=.seq vs.toArray},Qhq L])) (λb u z=>?_) (λb z=>?_) λ_=>X
   · by_cases g:b=a
     · show .inr #[_,_,Qhq g]
     · show .inl (Quq g)
   · by_cases g:b=a
     · have B:=(Qhq g).symm.trans z
       cases B
       subst g
       show#[R,by rw[lQm];show hl,vs,_,rv,R]
     · have B:=(Quq g).symm.trans z
       cases B
   · by_cases g:b=a
     · show g
     · show absurd (Quq g) z
def Kh{l:PySem.W.OpenLaw}{P:World->Heap->Prop}{d:DefRec}{K:Params->PySem.W.Frag}{CX:World->Fb}{sp:World->Sp}
  (hn:l.most=some n) (C:n<=sizeLine) (A:d.params.defaults= []) (hr:dX k callerA)
  (Z:∀(w:Xc) (h:Xe),P w h->(K w.params).In h)
  (F:∀(w:Xc) (p:X3) (y:X8) (h:Xe),(K w.params).In h->h.Ns mainGlobals p->p d.name=some (.ref y)->
   ∃ z:FuncData,(∀(s:X4) (u:Xd),BindsTo s z #[[u],[]] [(x,u)])∧
     ∀c:Heap,(K w.params).In c->c.Ns mainGlobals p->bp l.prog w (K w.params) p c (CX w) k y z [x] (sp w))
  (J:∀(w:Xc) (H:Hp) (a:X8) (ns:List Int),ns.length<=n->J3 H->ji (K w.params) H a (ns.map V.int)->sp w [.ref a] H (λv _=>v=.bl true) λ_ _ _=>False)
  (B:∀(w:Xc) (H:Hp) (s:X4) (e:Xd) (s':X4),CX w [] H s (λ_ _ _=>False) e s'->False):
  PySem.W.WalkO q j S P l.row.toRowW d [] (λf vs=>PySem.call f vs):=by
 show Att.zH hn A λw N t p mb y o pm cd a0 a vs ns G Y ho hd a1 I r m i R=>?_
 let M:=Z w _ Y
 let#[z,Q,X]:=F w p y _ M G.T.g I
 show Hq M G.T.g G.T.b G.T.builtins G.T.nolimit R r m (QAq i C) hr X Q (λH U hS=>J w H a ns i U hS) λH e s'=>B w H t e s'
noncomputable def gD(s:Stmt):Arguments:=match s with
 |.FunctionDef _ a _ _ _ _ _ _ _ _=>a
 |_=>{posonlyargs:= [],args:= [],vararg:=none,kwonlyargs:= [],kw_defaults:= [],kwarg:=none,defaults:= []}
noncomputable def eA(s:Stmt):List Stmt:=match s with
 |.FunctionDef _ _ b _ _ _ _ _ _ _=>b
 |_=> []
noncomputable def ay(s:Stmt):Scope:=match s with
 |.FunctionDef _ _ _ _ _ _ a _ _ _=>a
 |_=>{kind:=.function,names:= [],isGenerator:=false,isCoroutine:=false}
abbrev dN:Fb:=λ_ _ _ _ _ _=>False
abbrev E0:XK:=λ_ _ _=>False
def Gs:Bm dN X E0:=λ_ _ _ _ _ _ _ h=>h.elim
structure et(K:X1)(x qual:Str)(st:Stmt)(f:X8)(fd:FuncData):Prop where
 ex:∃(oc:Xd) (od:Option Addr) (kV doc pm:Xd) (an:Option Addr) (cdv ct:Xd) (osl:Array (Option Value)),
  fd=PySem.W.fnOf x qual (gD st) (eA st) (ay st) .none kV doc pm an cdv ct/\K.lookup f=some #[oc,od,.func fd,osl]/\PySem.W.codeIn K cdv qual=true
 kp:PySem.W.keepIn K (.ref f)=true
def et.ok{P:X9}{w:Xc}{K:X1}{b:X3}{a:Xe}{x d:Str}{st:Stmt}{f:X8}{l:FuncData}{N ps:X6}{k:Nat}{sp:Sp}(F:et K x d st f l)(S:aD N ps (ay st))(j:∀vs H Q E,sp vs H Q E->vs.length=ps.length)
  (g:∀(e:Xd) (A:X_) (c:List Env) (s:X4) (H:Hp) (vs:List V) (Q:VK) (E:XK),dX k (A.deeper (envOfC d (ay st) s.heap.objs.size f e))->sp vs H Q E->
   ∃t,qR (zq dN P w K b a N d (ay st) f e A c s H E).nox (eA st) t/\t {nx:=λ_ o=>Q .non o,rt:=Q} (start N vs) H):bp P w K b a dN (k+1) f l ps sp:=by
 let#[u,y,kV,n,r,v,e,z,p,rfl,lk,hcd]:=F.ex
 show N1 lk hcd S j λA c s H vs Q E m i=>?_
 let#[t,h,q]:=g e A c s H vs Q E m i
 show#[t,h.nox,q]
def et.binds{K:X1}{x c:Str}{st:Stmt}{f:X8}{l:FuncData}{ps:X6}(F:et K x c st f l)
  (h:∀(kV e i:Xd) (g:Option Addr) (d k:Xd) (j:X5),j.length=ps.length->bindArgs (PySem.W.fnOf x c (gD st) (eA st) (ay st) .none kV e i g d k) #[j,[]]=pure (ps.zip j)):Binds K l ps []:=by
 let#[o,n,kV,e,i,g,d,k,m,rfl,lk,hcd]:=F.ex
 show .all (h kV e i g d k)
def A0{K:X1}{x d:Str}{st:Stmt}{f:X8}{o:Xd}{n i:Option Addr}{h:Array (Option Value)}{kV g j e m:Xd}(l:K.lookup f=some #[o,n,.func (PySem.W.fnOf x d (gD st) (eA st) (ay st) .none kV g j i e m),h])
  (c:PySem.W.codeIn K e d=true) (k:PySem.W.keepIn K (.ref f)=true):et K x d st f (PySem.W.fnOf x d (gD st) (eA st) (ay st) .none kV g j i e m):=#[#[o,n,kV,g,j,i,e,m,h,L,l,c],k]
def CH(a:dX k A):A.units+1<cLine:=Nat.lt_of_le_of_lt (Nat.add_le_add_left (by decide:1<=64) _) a.units
def bj(h:n<=1000):n<sizeLine:=Nat.lt_of_le_of_lt h (!1)
def pv{X:Cx}(i:Nat)(e:autoParam (X.N[i]?=some x) db._auto_1)(d:autoParam (IA X.env.scope x) dL._auto_1)(c:autoParam ((x==("__debug__":Str))=false) cL._auto_1)
  (b:autoParam ((x==("__classdict__":Str))=false) cL._auto_1):PE X (.Name x a) (Lu i):=GD e d c b
def Ej:dB X (.builtin "len") (λxs H Q=>∃a kvs,xs= [V.ref a]/\H a=some (.dK kvs)/\Q (.int kvs.length) H):=by
 intro b s f H xs d Q I r h
 let#[a,kvs,rfl,ha,q]:=h
 let#[u,rfl,ru]:=vals1 r
 cases ru
 show rH I (.inl ha) λt e c=>#[.int kvs.length,H,c,#[t,L],q]
def nP{R:Result->Shared->Prop}(I:Nat->Shared->Prop)
  (C:∀n s,I n s->wpAny (model prog w) A (pyNext it) (λr f=>match r with
   |none=>R (.ok .next) f
   |some v=>wpAny (model prog w) A (letOwnedTupleGo a it v) (λ_ b=>wpAny (model prog w) A (assign a env v) (λ_ k=>
     wpAny (model prog w) A (forIn t true λc r=>if r=true then do let ok<-isTrue c env (eval c env);pure (ForInStep.yield ok) else pure (ForInStep.yield r)) (λok s₃=>
      if ok=true then wpAny (model prog w) A (eval o env) (λx i=>
       wpAny (model prog w) A (call (.builtin "list.append") [p,x]) (λ_ j=>∃m,m<n/\I m j) (λ_ _=>False) i) (λ_ _=>False) s₃
      else∃m,m<n/\I m s₃) (λ_ _=>False) k) (λ_ _=>False) b) (λ_ _=>False) f) (λ_ _=>False) s)
  (n:Nat) (h:I n s):codeAny (model prog w) A (.compLoop (.ListComp o [#[a,l,t,0]] e B) 0 it p env) R s:=by
 show codeAny_loop L I (λn s F=>?_) n h
 show wpAny _ A ((compTurn (.ListComp o [#[a,l,t,0]] e B) 0 it p env).onRaise (λx=>do noteFrame x env;theTreesLotGoes x)) _ _ s
 show wpAny_noted ?_
 rw[compTurn_list]
 show Qaq<|wpAny_standAt<|Qaq (QRq (C n s F) (λr f g=>?_) λ_ _ d=>d.elim)
 cases r with
 |none=>show Qgq g
 | some v=>
   show Qaq (QRq g (λ_ b q=>?_) λ_ _ d=>d.elim)
   show Qaq (QRq q (λ_ k y=>Qaq (QRq y (λok s₃ h₃=>?_) λ_ _ d=>d.elim)) λ_ _ d=>d.elim)
   cases ok with
   |false=>show Qgq #[L,h₃]
   | true=>
     show Qaq<|Qaq (QRq h₃ (λx i u=>Qaq (QRq u (λ_ j z=>Qgq<|Qgq #[rfl,z]) λ_ _ d=>d.elim)) λ_ _ d=>d.elim)
noncomputable def aF(X:Cx)(N:X6)(a:Scope)(b:List (Str×Addr))(C:X8)(s:X4)(H:Hp)(fp:X7):Cx where
 prog:=X.prog
 w:=X.w
 K:=X.K
 mg:=X.mg
 base:=X.base
 A:=X.A
 N:=N
 s₀:=s
 H₀:=H
 env:=compEnvC a b C X.env
 outer:=X.stack
 stack:=X.stack
 ex:=fp
 fn:=λ_=>false
 calm:=X.calm
 pn:= []
 xe:=λ_ _=>False
noncomputable def jC(js:List (Option Nat))(σ:St):St:=js.map λo=>o.bind λj=>σ.getD j none
structure aL(X:Cx)(N:X6)(js:List (Option Nat))(scope:Scope)(cl:List (Str×Addr)):Prop where
 kind:scope.kind=.function
 nocell:∀y∈scope.names,y.2≠.cell
 names:∀y∈scope.names,y.2=.local->scope.names.lookup y.1=some .local
 clos:closureFor scope X.env=pure cl
 sub:∀x c,cl.lookup x=some c->X.env.cells.lookup x=some c
 has:∀x,((relabel scope X.env).names.lookup x=some .cell\/(relabel scope X.env).names.lookup x=some .free)->∃c,cl.lookup x=some c
 cap:∀(k j:Nat) (x:Str),js[k]?=some (some j)->N[k]?=some x->X.N[j]?=some x/\(X.env.kindOf x=some .cell\/X.env.kindOf x=some .free)/\((relabel scope X.env).names.lookup x=some .cell\/(relabel scope X.env).names.lookup x=some .free)
 len:js.length=N.length
def mK(X:Cx)(d:List Expr)(t:TT):Prop:=
 ∀ (a:X2) (s:X4) (b:St) (H:Hp) (Q:Bool->Hp->Prop),Inv X a b H s->t b H Q->
   wpAny (model X.prog X.w) X.A (forIn d true λc r=>if r=true then do let ok<-isTrue c X.env (eval c X.env);pure (ForInStep.yield ok) else pure (ForInStep.yield r)) (TP X a b Q) X.xe s
def Nf:mK X [] (λ_ H Q=>Q true H):=λ_ _ _ H _ I h=>wpAny_tests_nil #[H,I,h]
def Mq(b:PT X c t):mK X [c] t:=λa s d H Q I h=>
 wpAny_tests_one (cj (b a s d H Q I h) λok s' h'=>h')
def NQ(J:It)(g:TG)(k:TT)(j:TE)(Q:VK)(D:X8)(σ:St)(H:Hp):Prop:=
 ∃ W:Nat->Nat->St->Hp->Prop,(∃m,W 0 m σ H)/\∀i m d e,W i m d e->
   (J.stop i e/\Q (.ref D) e)\/(J.go i e/\∃Nx:St->Hp->Prop,(∀b c,Nx b c->∃h,h<m/\W (i+1) h b c)∧
     ∀ x H2,J.yld i e x H2->g x d H2 λa H3=>k a H3 λok H4=>
       if ok=true then j a H4 λy H5=>∃f,H5 D=some (.lst f)/\f.length<sizeLine/\Nx a (upd H5 D (.lst (f++ [y]))) else Nx a H4)
def FG(js:List (Option Nat))(b:TI)(g:TG)(d:TT)(c:TE):TE:=λa H Q=>b a H λJ H1=>∀D,H1 D=none->NQ J g d c Q D (jC js a) (upd H1 D<|.lst [])
def Kg
  (S:aL X N js a U) (hc:X.calm=true) (hi:PI X tg R wi)
  (hg:∀C s H fp,PG (aF X N a U C s H fp) tg g) (ht:∀C s H fp,mK (aF X N a U C s H fp) b3 tt) (he:∀C s H fp,PE (aF X N a U C s H fp) a9 te)
  (hs:autoParam (∀x,foldedSetIterable R X.env x=pure x) dl._auto_1):PE X (.ListComp a9 [⟨tg,R,b3,0⟩] a b8) (FG js wi g tt te):=by
 intro a7 s σ H Q I h
 rw[eval_ListComp]
 show wpAny_comprehension_free (use:=none) L hs S.clos S.kind S.names (cj (hi a7 s σ H _ I h) λv s1 h1=>cj h1 λd2 f h2=>?_)
 let#[it,fp,tn,J,H2,e,B,T,b1,f2,hD]:=h2
 subst e
 show QhQ<|wpAny_newFunctionEnv S.nocell (by intro y hy;simp at hy) (λM G t=>?_) S.kind
 dsimp only at G t|-
 generalize b0:f.heap.push {cls:=.type "list",dict:=none,data:=.seq ([]:List Value).toArray}=P2 at G t|-
 have hC:P2.objs.size=f.heap.objs.size+1:=by rw[<-b0,Heap.size_push]
 have c5:f.heap.objs.size≠P2.objs.size:=by rw[hC];show Qwq (Nat.lt_succ_self _)
 have a5:f.heap.objs.size<=P2.objs.size:=by rw[hC];show Nat.le_succ _
 have F:∀b,b<f.heap.objs.size->b≠P2.objs.size:=λb k=>by rw[hC];show Qwq (Nat.lt_succ_of_lt k)
 have Y:∀b o,f.heap.get? b=some o->M.get? b=some o:=λb o e=>t.extBut b o (F b<|Qiq e) (Qcq _ (b0▸Qcq _ e))
 have c4:M.get? f.heap.objs.size=some {cls:=.type "list",dict:=none,data:=.seq ([]:List Value).toArray}:=t.extBut _ _ c5 (Qcq _ (b0▸Qrq _ L))
 have nD:H2 f.heap.objs.size=none:=B.fresh
 have nC:H2 P2.objs.size=none:=B.hok.fresh a5
 have b2:∀b∈fp,b<f.heap.objs.size:=λb k=>by
  let#[o,e,_]:=T.obj _ _ b1 b k
  show Qiq e
 let#[W,#[m0,w0],c6]:=hD f.heap.objs.size nD
 have b4:(aF X N a U P2.objs.size f H2 fp).Ok:=by
  show⟨B.ok.mod,S.kind,B.ok.glob,B.ok.blt,a5,λx y c h1 h2=>B.ok.inj x y c (S.sub x c h1) (S.sub y c h2),S.has,(λx c h=>by cases h),B.ok.hd,B.ok.frames,.inl L,
   λb k=>#[F b (b2 b k),λx c h=>(f2 b k).2.2.2.2.1 x c (S.sub x c h)],B.bs,QAq B.ok.bsz B.sz,λb o e k=>?_,λb k z=>?_,B.stack,B.stkFree⟩
  ·rcases(f2 b k).2.2.2.1 with z|z
   ·show B.ok.noex b o e z
   ·show absurd (Qqq (Qqq (Qiq e) B.ok.bsz) z)<|Nat.lt_irrefl _
  ·rcases Qsq.mp (B.stkSub b z) with q|q
   ·show(f2 b k).2.1 q
   ·show(f2 b k).2.2.1 q
 have c0:bR X.prog X.w (upd H2 f.heap.objs.size<|.lst []) M f.heap.objs.size (.lst []):=#[Nat.zero_le _,[],0,.nil,c4]
 have I4:Inv (aF X N a U P2.objs.size f H2 fp) [] (jC js σ) (upd H2 f.heap.objs.size<|.lst []) {f with heap:=M,toks:=f.toks+([]:List (Str×Value)).length}:=by
  show#[b4,L,B.bare,Un.laid Y (Qmq _) nD,#[_,G,λi x v h1 h2 h3=>?_],λx c h=>?_,by show upd H2 _ _ P2.objs.size=none;rw[aM c5.symm];show nC,λx c h=>?_,λp hp=>absurd (show p∈([]:List (Addr×Obj)) from hp) (by simp),B.hok.laid Y (Qmq _) c0,by show(jC js σ).length=N.length;unfold jC;rw[lQm];show S.len]
  ·unfold jC at h2
   rw[gQm] at h2
   cases e:js[i]? with
   |none=>rw[e] at h2;cases h2
   | some o=>
     rw[e] at h2
     cases o with
     |none=>cases h2
     | some j=>
       have a1:σ.getD j none=some v:=QdQ h2
       have hj:σ[j]?=some (some v):=by
         rw[Qlq] at a1
         cases q:σ[j]? with
         |none=>rw[q] at a1;cases a1
         |some y=>rw[q] at a1;show congrArg some a1
       let#[c1,c2,c3]:=S.cap i j x e h1
       let#[m,hn,hl]:=B.loc
       have c9:IA X.env.scope x:=by
         rcases c2 with z|z
         · show .inr (.inl z)
         · show .inr (.inr z)
       let#[u,r,l]:=hl j x v c1 hj c9
       show#[u,r,.inr #[c3,?_]]
       let#[c,b7]:=S.has x c3
       show#[c,b7,?_]
       rcases l with⟨z,_⟩|⟨_,c',e',z⟩
       · rcases c2 with y|y <;>rw[y] at z <;>cases z
       · rw[S.sub x c b7] at e'
         cases e'
         let#[o,ho,hd]:=z
         show#[o,Y _ _ ho,hd]
  ·let#[v,o,ho,hd]:=B.cell x c (S.sub x c h)
   show#[v,o,Y _ _ ho,hd]
  ·let#[v,o,ho,hd]:=B.cell x c (S.sub x c h)
   rw[aM (Qwq<|Qiq ho)]
   show B.freeC x c<|S.sub x c h
 have a0:∀{P:X2} {Z:Hp},P= []->(∀b∈fp,Z b=none)->∀b∈fp,o_ (aF X N a U P2.objs.size f H2 fp) P Z b:=λ{P Z} ep hn b k=>by
  subst ep
  show#[hn b k,F b<|b2 b k,λz=>b4.exfs b k z,.inl k,λx c h=>(f2 b k).2.2.2.2.1 x c (S.sub x c h),λp hp=>absurd (show p∈([]:List (Addr×Obj)) from hp) (by simp)]
 have a6:codeAny (model X.prog X.w) X.A (.compLoop (.ListComp a9 [⟨tg,R,b3,0⟩] a b8) 0 (.ref it) (.ref f.heap.objs.size) (compEnvC a U P2.objs.size X.env))
   (compPost (model X.prog X.w) X.A X.xe none (EP X a7 σ Q) (.ref f.heap.objs.size) P2.objs.size) {f with heap:=M,toks:=f.toks+([]:List (Str×Value)).length}:=by
  show nP (λn s'=>∃i a2 Z,Inv (aF X N a U P2.objs.size f H2 fp) [] a2 Z s'/\tn i s'.heap/\(∀b∈fp,Z b=none)/\W i n a2 Z) ?_ m0
   #[0,_,_,I4,T.keep _ _ _ b1 λb _ o e=>Y b o e,λb k=>by rw[aM (Qwq<|b2 b k)];show(f2 b k).1,w0]
  rintro n s3 ⟨i,a3,H3,I3,b6,b9,w3⟩
  rcases c6 i n a3 H3 w3 with⟨stop,q⟩|⟨go,Nx,hN,b5⟩
  ·show cj (T.done (aF X N a U P2.objs.size f H2 fp) L L L hc i [] s3 a3 H3 _ I3 (a0 L b9) b6 stop) λr s4 qr=>?_
   let#[hr,I5]:=qr
   subst hr
   let#[m,hn,_]:=id I5.loc
   show#[m,hn,λh' a4=>#[.ref f.heap.objs.size,H3,?_,L,q]]
   let u:=I5.base
   have ne:∀b o,f.heap.get? b=some o->b≠P2.objs.size:=λb o e=>F b (Qiq e)
   show B.call' (ch:=fp) I5.os #[λb o e n k hx=>(a4.2 b<|ne b o e).trans (u.keep b o e n k hx),λb o e n k hx=>?_,u.free,λb o e hx=>?_,u.tups,u.frzs,u.tbls] (λb ob e=>?_) I5.bare λb k=>#[(f2 b k).2.2.2.1,(f2 b k).2.1,(f2 b k).2.2.2.2.1,(f2 b k).2.2.2.2.2]
   ·let#[sl,e1]:=u.slot b o e n k hx
    show#[sl,(a4.2 b<|ne b o e).trans e1]
   ·let#[o',e1]:=u.there b o e hx
    show#[o',(a4.2 b<|ne b o e).trans e1]
   ·show(I5.hok b ob e).stay (λc w' hc q=>(a4.2 c ?_).trans q) (λ_ q=>q) λ_ _ q=>q
    have fC:H3 P2.objs.size=none:=I5.free
    rintro rfl
    rcases hc with z|z
    ·rw[<-z,fC] at e;cases e
    ·rw[fC] at z;cases z
  ·show cj (T.item (aF X N a U P2.objs.size f H2 fp) L L L hc i [] s3 a3 H3 _ I3 (a0 L b9) b6 go) λr s4 qr=>?_
   let#[u,hr,h4]:=qr
   subst hr
   show cj h4 λ_ s5 qr=>?_
   let#[x,H5,I5,r5,y5,a8,c8]:=qr
   let d1:=I5.pinned (a0 L c8) (T.obj _ _ a8)
   show cj (hg P2.objs.size f H2 fp _ s5 a3 H5 x u _ d1 r5<|b5 x H5 y5) λ_ s6 qr=>?_
   let#[K,H6,I6,q6]:=qr
   show cj (ht P2.objs.size f H2 fp _ s6 K H6 _ I6 q6) λok s7 qr=>?_
   let#[H7,I7,q7]:=qr
   have again:∀{s8:X4} {H8:Hp},Inv (aF X N a U P2.objs.size f H2 fp) ([]++mX fp s5.heap) K H8 s8->Nx K H8->∃m,m<n/\∃i a2 Z,Inv (aF X N a U P2.objs.size f H2 fp) [] a2 Z s8/\tn i s8.heap/\(∀b∈fp,Z b=none)/\W i m a2 Z:=λ{s8 H8} I8 n8=>by
    let#[m',hm,w8]:=hN K H8 n8
    show#[m',hm,i+1,K,H8,I8.unpinned,T.keep _ _ _ a8 λb k o e=>(I8.pin (b,o)<|Qoq _<|Qoq _<|cW k e).1,λb k=>?_,w8]
    let#[o,e,d]:=T.obj _ _ a8 b k
    show(I8.pin (b,o)<|Qoq _<|Qoq _<|cW k e).2.1
   cases ok with
   |false=>show again I7 q7
   | true=>
     show cj (he P2.objs.size f H2 fp _ s7 K H7 _ I7 q7) λyv s8 qr=>?_
     let#[y,H8,I8,ry,xs,hx,hl,n8]:=qr
     show cj (pI (X:=aF X N a U P2.objs.size f H2 fp) _ s8 K H8 (.ref f.heap.objs.size) [y] (.ref f.heap.objs.size) [yv] (λ_ Z=>Nx K Z) I8 L (.cons ry .nil) #[_,xs,y,L,L,hx,hl,n8]) λ_ s9 qr=>?_
     let#[z,H9,I9,_,q9]:=qr
     show again I9 q9
 show codeAny_compStart_list a6<|T.self _ 0 _ _ _ (T.keep _ _ _ b1 λb _ o e=>Y b o e) a6
def FJ:dB X (.builtin "isinstance") (λxs H Q=>∃x T t b,xs= [x,.ty T]/\pA X.K H x t/\PySem.W.kitOne X.K t (.type T)=some b/\Q (.bl b) H):=by
 intro a s g H xs f Q I r h
 let#[x,T,t,b,rfl,ty,e,q]:=h
 let#[u,c,rfl,rx,rt]:=vals2 r
 cases (show c=Value.type T from rt)
 show D5 I rx ty e λd=>#[.bl b,H,I.tok d,L,q]
noncomputable def Ca:List V->List V->Bool
 | [],[]=>true
 |x::xs,y::ys=>pT x y&&Ca xs ys
 |_,_=>false
theorem Cj:∀{xs ys:List V},xs.length≠ys.length->Ca xs ys=false
 | [],[],h=>absurd L h
 | [],_::_,_=>rfl
 |_::_,[],_=>rfl
 | x::xs,y::ys,h=>by
   have:=Cj (xs:=xs) (ys:=ys) λe=>h (by simp[e])
   show(pT x y&&Ca xs ys)=false
   rw[this,Bool.and_false]
theorem CC:∀{xs ys:List V},xs.length=ys.length->(List.range xs.length).all (λj=>pT (xs.getD j .non)<|ys.getD j .non)=Ca xs ys
 | [],[],_=>rfl
 | [],_::_,h=>by cases h
 |_::_,[],h=>by cases h
 | x::xs,y::ys,h=>by
   let a:=CC (xs:=xs) (ys:=ys) (Nat.succ.inj h)
   rw[Qnq,List.range_succ_eq_map,List.all_cons,List.all_map]
   show(pT x y&&_)=(pT x y&&Ca xs ys)
   rw[<-a]
   rfl
def Lz(r:bo xs a)(d:bo ys vs)(f:xs.all gw=true)(f':ys.all gw=true)(j:Nat)(i:j<a.toArray.size)(g:j<vs.toArray.size):
  SeqAt.EqAt A s a.toArray[j] vs.toArray[j] (pT (xs.getD j .non)<|ys.getD j .non):=by
 let o:=r.length
 let p:=d.length
 have c:j<xs.length:=by rw[o];simpa using i
 have b:j<ys.length:=by rw[p];simpa using g
 let#[u,m,h]:=r.get (gQe c)
 let#[v,l,t]:=d.get (gQe b)
 have k:xs.getD j .non=xs[j]:=by rw[Qlq,gQe c];rfl
 have e:ys.getD j .non=ys[j]:=by rw[Qlq,gQe b];rfl
 have n:a.toArray[j]=u:=by
  have:=(gQs.mp m).2
  simpa using this
 have q:vs.toArray[j]=v:=by
  have:=(gQs.mp l).2
  simpa using this
 rw[n,q,k,e]
 show Hn h t (QUq.mp f _<|List.getElem_mem c)<|QUq.mp f' _<|List.getElem_mem b
def Py(K:X1)(e:Bool):R2:=λx y H Q=>∃a b d c,x=.ref a/\y=.ref b/\ji K H a d/\ji K H b c/\d.all gw=true/\c.all gw=true/\Q (.bl (if e then !Ca d c else Ca d c)) H
def Mt{X:Cx}(n:X.A.units<cLine):j0 X (compareOp .NotEq) (Py X.K true):=by
 intro o s G H x y v u Q I z B h
 let#[a,b,f,l,rfl,rfl,ha,hb,fa,fb,q]:=h
 cases z
 cases B
 let#[c,r,m,F]:=I.list ha
 let#[k,g,d,C]:=I.list hb
 by_cases hl:f.length=l.length
 ·have i:c.toArray.size=k.toArray.size:=by simp[<-r.length,<-g.length,hl]
  show SeqAt.RcNeAt.lists (e:=λj=>pT (f.getD j .non)<|l.getD j .non) m.isList d.isList i n (λj w t=>Lz r g fa fb j w t) _ _ _ _ #[.bl _,H,I,L,?_]
  rw[show c.toArray.size=f.length by simp[r.length],CC hl]
  show q
 ·show SeqAt.RcNeAt.lists_lengths m.isList d.isList (by simpa [<-r.length,<-g.length] using hl) n _ _ _ _ #[.bl _,H,I,L,?_]
  have p:Q (.bl (!Ca f l)) H:=q
  rw[Cj hl] at p
  show p
def Fg:dB X (.type "range") (λxs H Q=>∃j:Int,xs= [.int j]/\∀p,H p=none->Q (.ref p) (upd H p<|.rng 0 j)):=by
 intro a s e H xs c Q I r h
 let#[j,rfl,q]:=h
 let#[u,rfl,t,rfl]:=vals1 r
 show call_range_1 #[.ref _,_,I.laid (o:=.rng 0 j) (λb d q=>Qcq _ q) (Qmq _) #[_,_,_,Qrq _ L],L,q _ I.fresh]
noncomputable def upTo(lo:Int)(n:Nat):List V:=(List.range n).map λ(i:Nat)=>V.int (lo+(i:Int))
def DN{lo:Int}{n:Nat}{a:X5}(h:a.length=n)(b:∀(j:Nat) (v:Xd),a[j]?=some v->∃t,v=.int (lo+j) t):bo (upTo lo n) a:=by
 have c:∀(a:X5) (lo:Int) (n:Nat),a.length=n->(∀(j:Nat) (v:Xd),a[j]?=some v->∃t,v=.int (lo+j) t)->bo (upTo lo n) a:=by
  intro a
  induction a with
  |nil=>intro lo n h _;subst h;show .nil
  | cons v r g=>
    intro lo n h b
    cases n with
    |zero=>cases h
    | succ n=>
      have e:upTo lo (n+1)=V.int lo::upTo (lo+1) n:=by
        unfold upTo
        rw[List.range_succ_eq_map,QDq,QPq]
        show congr (congrArg List.cons (by simp)) (List.map_congr_left λi _=>?_)
        erw[Function.comp]
        show congrArg V.int (!0)
      rw[e]
      let#[t,d]:=b 0 v L
      show .cons #[t,by rw[d];simp] (g (lo+1) n (Nat.succ.inj h) λj w f=>?_)
      let#[t,d]:=b (j+1) w (by simpa using f)
      show#[t,by rw[d];congr 1;omega]
 show c a lo n h b
def Hx{bs:List Bool}{a:X5}(r:bo (bs.map V.bl) a){i:Nat}{v:Xd}(h:a.toArray[i]?=some v):v=.bool (bs.getD i false):=by
 have f:i<a.length:=by
  have:=(Array.getElem?_eq_some_iff.mp h).1
  simpa using this
 let l:=r.length
 rw[lQm] at l
 have b:i<bs.length:=by omega
 let#[u,e,q]:=r.get (i:=i) (x:=V.bl bs[i]) (by rw[gQm,gQe b];rfl)
 have c:a[i]?=some v:=by simpa using h
 rw[e] at c
 cases c
 have d:bs.getD i false=bs[i]:=by rw[Qlq,gQe b];rfl
 rw[d]
 show q
theorem y8:∀bs:List Bool,(List.range bs.length).all (λi=>bs.getD i false)=bs.all id
 | []=>rfl
 | b::bs=>by
   rw[Qnq,List.range_succ_eq_map,List.all_cons,List.all_map,List.all_cons,<-y8 bs]
   rfl
def Ph(K:X1)(f:List Bool->Bool):List V->Hp->VK->Prop:=λc H Q=>∃a b,c= [.ref a]/\ji K H a (b.map V.bl)/\Q (.bl (f b)) H
def Ek{X:Cx}(n:X.calm=true):dB X (.builtin "all") (Ph X.K λbs=>bs.all id):=by
 intro j s z H y C Q I r h
 let#[a,bs,rfl,ha,q]:=h
 let#[u,rfl,rx]:=vals1 r
 cases (show u=Value.ref a from rx)
 let#[c,g,f,x]:=I.list ha
 have hl:c.toArray.size=bs.length:=by have:=g.length;simp at this;simp[this]
 have d:a<s.heap.objs.size:=by let#[o,e,_]:=f.isList;show Qiq e
 show call_all_walk<|wpAny_pyIter_list f.isList #[s.heap.objs.size,_,_,_,_,_,λi=>bs.getD i false,L,Walks.list (A:=X.A.in1) (show X.A.in1.handled=none from I.ok.hd n) s.heap.objs.size a (Qwq d) c.toArray,#[#[_,Qrq _ L,L,L],f.isList.at λo e=>Qcq _ e],?_,λh' t k=>?_]
 ·intro i v p B w m l
  rw[Hx g m]
  show wpAny_truthy_bool l
 ·rw[hl,y8]
  show#[.bl _,H,I.kept (h':=h') λb o e=>k b o ?_<|Qcq _ e,L,q]
  have:=Qiq e
  simp
  show Qwq this
end L2
namespace Dk
open PySem
def t6:mroOf (Value.type "dict")=pure [Value.type "dict",Value.type "object"]:=by
 rw[mroOf_type]
 rfl
def qK:typeLookup (Value.type "dict") (Str.ofString "__new__")=pure (some<|Value.builtin "dict.__new__"):=by
 rw[typeLookup_type,builtinLookup_eq_fast]
 rfl
def zN:isSubtype (Value.type "dict") (Value.type "dict")=pure true:=by
 rw[isSubtype_type]
 rfl
def gZ:plainId "dict.__new__"=true:=by decide +kernel
def cU:TypeCalled "dict" "dict.__new__" "dict.__init__" where
 notType:=by decide +kernel
 canCreate:=by decide +kernel
 mro:=#[_,_,t6]
 made:=madeBy_type t6 qK (by decide +kernel)
 plain:=gZ
 sub:=zN
 init:=F.slot_dict_init
def qQ(a:Xd):checkTypeCall "dict" {pos:= [a]}=pure ():=by rfl
def tm(a:Xd):checkBuiltinCall "dict.__new__" {pos:= [Value.type "dict",a]}=pure ():=by with_unfolding_all rfl
def uz:entryFor table "dict.__new__"=some Builtin.«dict.__new__»:=by rfl
def qO{E:X0}{s:X4}(a:Xd){Q₁:X0}
  (h:Q₁ (.ref s.heap.objs.size) {s with heap:=s.heap.push {cls:=.type "dict",data:=.dict (List.toArray [])}}):
  codeAny (model prog w) A (.call (.builtin "dict.__new__") {pos:= [.type "dict",a]}) (wants Q₁ E) s:=by
 show codeAny_of_tree ?_
 show wpAny _ _ (do checkBuiltinCall "dict.__new__" _;_) _ _ _
 show Qaq<|wpAny_of_eq (tm a)<|Qgq #[plainId_quiet gZ _,codeAny_builtin uz ?_]
 rw[Around.under_plainId gZ]
 show Qaq<|Qgq<|QgQ L<|Qaq<|wpAny_of_eq zN<|QgQ L<|Qaq<|wpAny_of_eq t6<|QgQ ?_ ?_
 ·rfl
 ·show Qaq ?_
  have e:newObj (.type "dict") (.dict (List.toArray []))=newObjAsIs (.type "dict") (.dict (List.toArray [])):=by
   unfold newObj
   simp
  rw[e]
  show Qaq<|wpAny_alloc<|Qgq<|Qgq h
def z4{A:X_}{E:X0}{s:X4}{Q:X0}
  (h:wpAny (model prog w) A.in1.in1 (Builtin.«dict.__init__» {pos:= [.ref s.heap.objs.size,a]})
   (λl s'=>match l with|.done f=>wants (λr b=>r=.none/\Q (.ref s.heap.objs.size) b) E (.ok f) s'|.again u=>u.quiet=true/\codeAny (model prog w) A.in1 u (wants (λr b=>r=.none/\Q (.ref s.heap.objs.size) b) E) s')
   (λe s'=>wants (λr b=>r=.none/\Q (.ref s.heap.objs.size) b) E (.error e) s') {s with heap:=s.heap.push {cls:=.type "dict",data:=.dict (List.toArray [])}}):
  wpAny (model prog w) A (call (.type "dict") [a]) Q E s:=by
 let#[c,B,k]:=cU.mro
 let g:=cU.made
 let j:=cU.sub
 show wpAny_call<|codeAny_of_tree ?_
 show Qgq #[Code.quiet_builtin _ (by decide +kernel),codeAny_builtin F.entry_type_call ?_]
 rw[Around.under_plain (weight_type_call_type "dict" [a] []) L]
 let C:=cU.notType
 let x:=cU.canCreate
 let p:=qQ a
 unfold Builtin.«type.__call__»
 dsimp only
 show QgQ L ?_
 show QgQ (by rw[x];rfl) ?_
 show Qaq<|wpAny_of_eq p<|Qaq<|wpAny_of_eq k<|QgQ L<|Qaq<|wpAny_of_eq g<|Qaq<|Qgq<|Qaq<|QLq<|wpAny_call (codeAny_mono (qO (E:=E) (Q₁:=λv d=>v=.ref s.heap.objs.size/\d={s with heap:=s.heap.push {cls:=.type "dict",data:=.dict (List.toArray [])}}) a #[L,L]) λr d i=>?_)
 cases r with
 |error e=>show i
 | ok q=>
   cases q with
   | ret y=>
     let#[rfl,rfl]:=i
     let z:=Qrq s.heap (o:={cls:=.type "dict",data:=.dict (List.toArray [])}) L
     have m:Shared.TypeIs {s with heap:=s.heap.push {cls:=.type "dict",data:=.dict (List.toArray [])}} (.ref s.heap.objs.size) "dict":=#[_,z,L]
     let t:=cU.init.lookup
     let n:=cU.init.bind (.ref s.heap.objs.size)
     show Qaq<|wpAny_isInstance m j<|QgQ L<|Qaq<|QLq ?_
     unfold callSpecial?
     show Qaq<|wpAny_specialOf m t<|QLq<|Qaq<|wpAny_of_eq n<|Qaq<|wpAny_call (codeAny_mono (codeAny_call_builtin cU.init.plain F.entry_dict_init<|cU.init.check _ _ _ _ _ [a] [] _ m (F.args_dict_init_2 _ _) h) λr b i=>?_)
     cases r with
     |error e=>show i
     | ok q=>
       cases q with
       | ret v=>
         let#[rfl,hq]:=i
         show Qgq<|QgQ L<|Qgq hq
       |_=>show i.elim
   |_=>show i.elim
def jU:entryFor table "dict.update.loop"=some Builtin.«dict.update.loop»:=by rfl
def gu:plainId "dict.update.loop"=true:=by decide +kernel
section
variable{K:Type}[DecidableEq K]
def Bk(kvs:List (K×Value))(k:K)(v:Xd):(stored kvs k v).length<=kvs.length+1:=by
 unfold stored
 split
 ·rw[lQm];omega
 ·rw[lQa];simp
noncomputable def LB(b:Nat->K)(a:Nat->Value):Nat->List (K×Value)
 |0=> []
 |i+1=>stored (LB b a i) (b i) (a i)
theorem DC(b:Nat->K)(a:Nat->Value):∀i,(LB b a i).length<=i
 |0=>Qmq _
 |i+1=>QAq (Bk _ _ _) (Nat.succ_le_succ<|DC b a i)
end
end Dk
namespace L2
open PyProof.Rows
def key_is(r:RelV (kV k) u)(P:X9)(w:Xc):(bA P w).is k u=true:=by
 cases k with
 |inl i=>let#[t,rfl]:=(show∃t,u=Value.int i t from r);simp[bA,qd,Value.isInt]
 |inr x=>let#[t,rfl]:=(show∃t,u=Value.str x t from r);simp[bA,qd,Value.isStrOf]
end L2
namespace Dk
open PySem
end Dk
namespace L2
open PyProof.Rows
def J6{X:Cx}{N:X6}{js:List (Option Nat)}{a:Scope}{Z:List (Str×Addr)}{tg P a7 G:Expr}{a9:List Expr}{b3 b0:Pos}{wi:TI}{g gt:TG}{tt:TT}{te:TE}
  (S:aL X N js a Z) (hc:X.calm=true) (hi:PI X tg P wi)
  (hg:∀C s H fp,PG (aF X N a Z C s H fp) tg g) (ht:∀C s H fp,mK (aF X N a Z C s H fp) a9 tt) (he:∀C s H fp,PE (aF X N a Z C s H fp) a7 te) (d8:PG X G gt)
  (hs:autoParam (∀x,foldedSetIterable P X.env x=pure x) dl._auto_1) (d9:autoParam (swapsWithSole [G] (.ListComp a7 [⟨tg,P,a9,0⟩] a b3) b0.line X.env=pure true) db._auto_1)
  (h1:autoParam ((assignEach [G] X.env).map (·.2)= [assign G X.env]) db._auto_1):PS X (.Assign [G] (.ListComp a7 [#[tg,P,a9,0]] a b3) b0) (D8 (FG js wi g tt te) gt):=by
 intro Y s σ H Dn I h
 rw[exec_Assign_arm]
 show Qaq<|wpAny_standAt<|Qaq<|wpAny_of_eq d9<|wpAny_ite_true L<|Qaq ?_
 rw[h1]
 show wpAny _ _ (do let _<-comprehension _ _ _ _ _ _ _ (some λv=>assignAll v [assign G X.env]);pure ()) _ _ _
 show Qaq ?_
 show wpAny_comprehension_free (use:=some λv=>assignAll v [assign G X.env]) L hs S.clos S.kind S.names (cj (hi Y s σ H _ I h) λv s1 h1=>cj h1 λe2 k h2=>?_)
 let#[it,fp,tn,J,H2,e,B,T,b5,f2,hD]:=h2
 subst e
 show QhQ<|wpAny_newFunctionEnv S.nocell (by intro y hy;simp at hy) (λQ M t=>?_) S.kind
 dsimp only at M t|-
 generalize b4:k.heap.push {cls:=.type "list",dict:=none,data:=.seq ([]:List Value).toArray}=P2 at M t|-
 have hC:P2.objs.size=k.heap.objs.size+1:=by rw[<-b4,Heap.size_push]
 have c9:k.heap.objs.size≠P2.objs.size:=by rw[hC];show Qwq (Nat.lt_succ_self _)
 have a2:k.heap.objs.size<=P2.objs.size:=by rw[hC];show Nat.le_succ _
 have K:∀b,b<k.heap.objs.size->b≠P2.objs.size:=λb f=>by rw[hC];show Qwq (Nat.lt_succ_of_lt f)
 have a0:∀b o,k.heap.get? b=some o->Q.get? b=some o:=λb o e=>t.extBut b o (K b<|Qiq e) (Qcq _ (b4▸Qcq _ e))
 have c8:Q.get? k.heap.objs.size=some {cls:=.type "list",dict:=none,data:=.seq ([]:List Value).toArray}:=t.extBut _ _ c9 (Qcq _ (b4▸Qrq _ L))
 have nD:H2 k.heap.objs.size=none:=B.fresh
 have nC:H2 P2.objs.size=none:=B.hok.fresh a2
 have b6:∀b∈fp,b<k.heap.objs.size:=λb f=>by
  let#[o,e,_]:=T.obj _ _ b5 b f
  show Qiq e
 let#[W,#[m0,w0],d2]:=hD k.heap.objs.size nD
 have b7:(aF X N a Z P2.objs.size k H2 fp).Ok:=by
  show⟨B.ok.mod,S.kind,B.ok.glob,B.ok.blt,a2,λx y c h1 h2=>B.ok.inj x y c (S.sub x c h1) (S.sub y c h2),S.has,(λx c h=>by cases h),B.ok.hd,B.ok.frames,.inl L,
   λb f=>#[K b (b6 b f),λx c h=>(f2 b f).2.2.2.2.1 x c (S.sub x c h)],B.bs,QAq B.ok.bsz B.sz,λb o e f=>?_,λb f z=>?_,B.stack,B.stkFree⟩
  ·rcases(f2 b f).2.2.2.1 with z|z
   ·show B.ok.noex b o e z
   ·show absurd (Qqq (Qqq (Qiq e) B.ok.bsz) z)<|Nat.lt_irrefl _
  ·rcases Qsq.mp (B.stkSub b z) with q|q
   ·show(f2 b f).2.1 q
   ·show(f2 b f).2.2.1 q
 have c6:bR X.prog X.w (upd H2 k.heap.objs.size<|.lst []) Q k.heap.objs.size (.lst []):=#[Nat.zero_le _,[],0,.nil,c8]
 have I4:Inv (aF X N a Z P2.objs.size k H2 fp) [] (jC js σ) (upd H2 k.heap.objs.size<|.lst []) {k with heap:=Q,toks:=k.toks+([]:List (Str×Value)).length}:=by
  show#[b7,L,B.bare,Un.laid a0 (Qmq _) nD,#[_,M,λi x v h1 h2 h3=>?_],λx c h=>?_,by show upd H2 _ _ P2.objs.size=none;rw[aM c9.symm];show nC,λx c h=>?_,λp hp=>absurd (show p∈([]:List (Addr×Obj)) from hp) (by simp),B.hok.laid a0 (Qmq _) c6,by show(jC js σ).length=N.length;unfold jC;rw[lQm];show S.len]
  ·unfold jC at h2
   rw[gQm] at h2
   cases e:js[i]? with
   |none=>rw[e] at h2;cases h2
   | some o=>
     rw[e] at h2
     cases o with
     |none=>cases h2
     | some j=>
       have a4:σ.getD j none=some v:=QdQ h2
       have hj:σ[j]?=some (some v):=by
         rw[Qlq] at a4
         cases q:σ[j]? with
         |none=>rw[q] at a4;cases a4
         |some y=>rw[q] at a4;show congrArg some a4
       let#[c1,c2,c3]:=S.cap i j x e h1
       let#[m,hn,hl]:=B.loc
       have d7:IA X.env.scope x:=by
         rcases c2 with z|z
         · show .inr (.inl z)
         · show .inr (.inr z)
       let#[u,r,l]:=hl j x v c1 hj d7
       show#[u,r,.inr #[c3,?_]]
       let#[c,c0]:=S.has x c3
       show#[c,c0,?_]
       rcases l with⟨z,_⟩|⟨_,c',e',z⟩
       · rcases c2 with y|y <;>rw[y] at z <;>cases z
       · rw[S.sub x c c0] at e'
         cases e'
         let#[o,ho,hd]:=z
         show#[o,a0 _ _ ho,hd]
  ·let#[v,o,ho,hd]:=B.cell x c (S.sub x c h)
   show#[v,o,a0 _ _ ho,hd]
  ·let#[v,o,ho,hd]:=B.cell x c (S.sub x c h)
   rw[aM (Qwq<|Qiq ho)]
   show B.freeC x c<|S.sub x c h
 have a3:∀{R:X2} {H':Hp},R= []->(∀b∈fp,H' b=none)->∀b∈fp,o_ (aF X N a Z P2.objs.size k H2 fp) R H' b:=λ{R H'} ep hn b f=>by
  subst ep
  show#[hn b f,K b<|b6 b f,λz=>b7.exfs b f z,.inl f,λx c h=>(f2 b f).2.2.2.2.1 x c (S.sub x c h),λp hp=>absurd (show p∈([]:List (Addr×Obj)) from hp) (by simp)]
 have b1:codeAny (model X.prog X.w) X.A (.compLoop (.ListComp a7 [⟨tg,P,a9,0⟩] a b3) 0 (.ref it) (.ref k.heap.objs.size) (compEnvC a Z P2.objs.size X.env))
   (compPost (model X.prog X.w) X.A X.xe (some λv=>assignAll v [assign G X.env]) (λ_ s9=>wpAny (model X.prog X.w) X.A (pure ()) (λ_ d3=>wpAny (model X.prog X.w) X.A (pure Flow.next) (SP X Y Dn) X.xe d3) X.xe s9) (.ref k.heap.objs.size) P2.objs.size) {k with heap:=Q,toks:=k.toks+([]:List (Str×Value)).length}:=by
  show nP (λn s'=>∃i a5 H',Inv (aF X N a Z P2.objs.size k H2 fp) [] a5 H' s'/\tn i s'.heap/\(∀b∈fp,H' b=none)/\W i n a5 H') ?_ m0
   #[0,_,_,I4,T.keep _ _ _ b5 λb _ o e=>a0 b o e,λb f=>by rw[aM (Qwq<|b6 b f)];show(f2 b f).1,w0]
  rintro n s3 ⟨i,a6,H3,I3,b9,c5,w3⟩
  rcases d2 i n a6 H3 w3 with⟨stop,q⟩|⟨go,Nx,hN,b8⟩
  ·show cj (T.done (aF X N a Z P2.objs.size k H2 fp) L L L hc i [] s3 a6 H3 _ I3 (a3 L c5) b9 stop) λr s4 U=>?_
   let#[hr,I5]:=U
   subst hr
   let#[m,hn,_]:=id I5.loc
   have d5:∀h',Heap.SameBut P2.objs.size s4.heap h'->Inv X Y σ H3 {s4 with heap:=h'}:=by
    intro h' a1
    let u:=I5.base
    have ne:∀b o,k.heap.get? b=some o->b≠P2.objs.size:=λb o e=>K b (Qiq e)
    show B.call' (ch:=fp) I5.os #[λb o e n f hx=>(a1.2 b<|ne b o e).trans (u.keep b o e n f hx),λb o e n f hx=>?_,u.free,λb o e hx=>?_,u.tups,u.frzs,u.tbls] (λb ob e=>?_) I5.bare λb f=>#[(f2 b f).2.2.2.1,(f2 b f).2.1,(f2 b f).2.2.2.2.1,(f2 b f).2.2.2.2.2]
    ·let#[sl,e1]:=u.slot b o e n f hx
     show#[sl,(a1.2 b<|ne b o e).trans e1]
    ·let#[o',e1]:=u.there b o e hx
     show#[o',(a1.2 b<|ne b o e).trans e1]
    ·show(I5.hok b ob e).stay (λc w' hc q=>(a1.2 c ?_).trans q) (λ_ q=>q) λ_ _ q=>q
     have fC:H3 P2.objs.size=none:=I5.free
     rintro rfl
     rcases hc with z|z
     ·rw[<-z,fC] at e;cases e
     ·rw[fC] at z;cases z
   let IX:=d5 s4.heap #[L,λ_ _=>rfl]
   have a8:o_ X Y H3 P2.objs.size:=B.fpOk a2 I5.free
   let#[oC,es,ep,d1,c4,d4]:=hn
   let IP:=IX.pinned (fp:= [P2.objs.size]) (λb f=>by rw[Qfq] at f;rw[f];show a8) (λb f=>by rw[Qfq] at f;rw[f];show#[oC,d1,λv=>by rw[c4];simp])
   show wpAny _ _ (assignAll (.ref k.heap.objs.size) [assign G X.env]) _ _ _
   rw[assignAll.eq_2]
   show cj (d8 _ s4 σ H3 (.ref k.heap.objs.size) (.ref k.heap.objs.size) _ IP L q) λ_ s6 U=>?_
   let#[F,H6,I6,q6]:=U
   let pC:=I6.pin (P2.objs.size,oC) (Qoq _<|Qoq _<|cW (Qfq.mpr L) d1)
   show#[m,#[oC,es,ep,pC.1,c4,d4],λh' a1=>Qgq<|Qgq #[F,H6,?_,q6]]
   show I6.unpinned.turned (it:=P2.objs.size) (t':=s6.toks) (λb o' f e=>(a1.2 b f).trans e) pC.2.1 pC.2.2.1 a8.2.2.2.1 a8.2.2.2.2.1 a8.2.2.2.2.2
  ·show cj (T.item (aF X N a Z P2.objs.size k H2 fp) L L L hc i [] s3 a6 H3 _ I3 (a3 L c5) b9 go) λr s4 U=>?_
   let#[u,hr,h4]:=U
   subst hr
   show cj h4 λ_ s5 U=>?_
   let#[x,H5,I5,r5,y5,b2,d6]:=U
   let e0:=I5.pinned (a3 L d6) (T.obj _ _ b2)
   show cj (hg P2.objs.size k H2 fp _ s5 a6 H5 x u _ e0 r5<|b8 x H5 y5) λ_ s6 U=>?_
   let#[F,H6,I6,q6]:=U
   show cj (ht P2.objs.size k H2 fp _ s6 F H6 _ I6 q6) λok s7 U=>?_
   let#[H7,I7,q7]:=U
   have again:∀{s8:X4} {H8:Hp},Inv (aF X N a Z P2.objs.size k H2 fp) ([]++mX fp s5.heap) F H8 s8->Nx F H8->∃m,m<n/\∃i a5 H',Inv (aF X N a Z P2.objs.size k H2 fp) [] a5 H' s8/\tn i s8.heap/\(∀b∈fp,H' b=none)/\W i m a5 H':=λ{s8 H8} I8 n8=>by
    let#[m',hm,w8]:=hN F H8 n8
    show#[m',hm,i+1,F,H8,I8.unpinned,T.keep _ _ _ b2 λb f o e=>(I8.pin (b,o)<|Qoq _<|Qoq _<|cW f e).1,λb f=>?_,w8]
    let#[o,e,d]:=T.obj _ _ b2 b f
    show(I8.pin (b,o)<|Qoq _<|Qoq _<|cW f e).2.1
   cases ok with
   |false=>show again I7 q7
   | true=>
     show cj (he P2.objs.size k H2 fp _ s7 F H7 _ I7 q7) λyv s8 U=>?_
     let#[y,H8,I8,ry,xs,hx,hl,n8]:=U
     show cj (pI (X:=aF X N a Z P2.objs.size k H2 fp) _ s8 F H8 (.ref k.heap.objs.size) [y] (.ref k.heap.objs.size) [yv] (λ_ H'=>Nx F H') I8 L (.cons ry .nil) #[_,xs,y,L,L,hx,hl,n8]) λ_ s9 U=>?_
     let#[z,H9,I9,_,q9]:=U
     show again I9 q9
 show codeAny_compStart_list b1<|T.self _ 0 _ _ _ (T.keep _ _ _ b5 λb _ o e=>a0 b o e) b1
end L2
namespace Dk
open PySem
end Dk
namespace L2
open PyProof.Rows
def Kb(K:X1):List V->Hp->VK->Prop:=λd H Q=>∃(a:X8) (c:X6),d= [.ref a]/\ji K H a (c.map V.str)/\c.length<64/\∀(l:X8) (b:X6),H l=none->sortedS b=true->b.Perm c->Q (.ref l) (upd H l<|.lst (b.map V.str))
theorem vq:∀{ys:X6} {a:X5},bo (ys.map V.str) a->StrsAre a ys
 | [],_,r=>by cases r;show .nil
 | y::ys,_,r=>by
   cases r with
   | cons h t=>
     let#[b,rfl]:=h
     show .cons y b (vq t)
def wG(h:StrsAre vs a):bo (a.map V.str) vs:=by
 induction h with
 |nil=>show .nil
 |cons y t _ b=>show .cons #[t,L] b
def xn:dB X (.builtin "sorted") (Kb X.K):=by
 intro m s A H z B Q I r h
 let#[a,j,rfl,ha,h64,q]:=h
 let#[u,rfl,rx]:=vals1 r
 cases (show u=Value.ref a from rx)
 let#[f,k,t,y]:=I.list ha
 have v:f.length=j.length:=by have:=k.length;simpa using this.symm
 have g:s.heap.objs.size<=s.heap.objs.size+1:=Nat.le_succ _
 show sorted_strs t.isList (vq k) (!0) λc d p l w=>?_
 let#[e,x]:=sortedAll_at s.heap f c
 have i:d.length=j.length:=l.length_eq
 show#[.ref (s.heap.objs.size+1),_,I.laid (a:=s.heap.objs.size+1) (o:=.lst (d.map V.str)) (h':=sortedAll s.heap f c) (t':=s.toks) (λb o n=>?_) g #[?_,c.toList,e,wG p,?_],L,q _ d (I.hok.fresh g) w l]
 ·show sortedAll_old n
 ·rw[lQm,i]
  show QAq (nQl h64) (!1)
 ·simpa using x
end L2
namespace Zp
open PySem
def N6{E:X0}{s:X4}{Q:X0}(c:s.heap.IsTupleIter i t k)(g:s.heap.IsTuple t vs)(h:vs[k]?=some v)
  (q:∀h',h'.IsTupleIter i t (k+1)->Heap.SameBut i s.heap h'->Q v {s with heap:=h'}):wpAny (model prog w) A (Builtin.SmallTypes.nextOf<|.ref i) Q E s:=by
 let#[j,b,e,a]:=id c
 let#[m,f,_,l,d]:=g
 unfold Builtin.SmallTypes.nextOf
 show Qaq<|QiQ (name:=Str.ofString "__next__") c.typeIs F.slot_tuple_iterator_next<|wpAny_call_entry F.slot_tuple_iterator_next c.typeIs F.entry_tuple_iterator_next ?_<|F.args_tuple_iterator_next_1 _
 show(?_:wpAny _ _ (field (.ref i) 0 >>= _) _ _ s)
 show Qaq<|QMq b a (x:=.ref t) L ?_
 show(?_:wpAny _ _ (if (Value.ref t==Value.none)=true then _ else _) _ _ s)
 rw[Quq (λz=>by cases (show false=true from z))]
 show(?_:wpAny _ _ (field (.ref i) 1 >>= _) _ _ s)
 show Qaq<|QMq b a (x:=.int k 0) L ?_
 show(?_:wpAny _ _ (seqItems? (.ref t) >>= _) _ _ s)
 show Qaq<|wpAny_seqItems f d ?_
 erw[Int.toNat_natCast,h]
 show Qaq<|wpAny_setField b a (by simp)<|Qgq #[v,L,Qgq<|q _ #[_,Heap.get?_update_self _ b<|Obj.isFreed_of_fields<|Obj.data_mapFields a _,(Obj.cls_mapFields ..).trans e,?_]<|Heap.SameBut.update ..]
 rw[Obj.data_mapFields a]
 simp[rawInt]
def Os{A:X_}{E:X0}{s:X4}(f:A.handled=none)(b:s.heap.IsTupleIter i t k)(j:s.heap.IsTuple t vs)(l:vs[k]?=none)
  (q:∀h' e,Heap.ExtBut i s.heap h'->(∃o,h'.get? e=some o/\o.cls=.type "StopIteration")->E (.ref e) {s with heap:=h'}):wpAny (model prog w) A (Builtin.SmallTypes.nextOf<|.ref i) Q E s:=by
 let#[p,c,n,d]:=id b
 let#[u,h,_,r,g]:=j
 unfold Builtin.SmallTypes.nextOf
 show Qaq<|QiQ (name:=Str.ofString "__next__") b.typeIs F.slot_tuple_iterator_next<|wpAny_call_entry F.slot_tuple_iterator_next b.typeIs F.entry_tuple_iterator_next ?_<|F.args_tuple_iterator_next_1 _
 show(?_:wpAny _ _ (field (.ref i) 0 >>= _) _ _ s)
 show Qaq<|QMq c d (x:=.ref t) L ?_
 show(?_:wpAny _ _ (if (Value.ref t==Value.none)=true then _ else _) _ _ s)
 rw[Quq (λz=>by cases (show false=true from z))]
 show(?_:wpAny _ _ (field (.ref i) 1 >>= _) _ _ s)
 show Qaq<|QMq c d (x:=.int k 0) L ?_
 show(?_:wpAny _ _ (seqItems? (.ref t) >>= _) _ _ s)
 show Qaq<|wpAny_seqItems h g ?_
 erw[Int.toNat_natCast,l]
 show Qaq<|wpAny_rule<|Qaq<|wpAny_setField c d (by simp) ?_
 show(?_:wpAny _ _ (newExc (.type "StopIteration") [] >>= _) _ _ _)
 show Qaq ?_
 erw[newExc,newTuple]
 show Qaq<|QhQ ?_ (by size_fits)
 show Qaq (m:=firstArgMember _ _)<|wpAny_of_eq (a:=Value.none) (by first|rfl|(erw[firstArgMember];rfl))<|QhQ ?_ (by size_fits)
 erw[raiseNew]
 show Qaq<|wpAny_handled ?_
 first|rw[show A.in1.handled=none from f]|rw[f]
 show Qaq<|Qgq<|wpAny_throw<|q _ _ (((Heap.SameBut.update ..).extBut.push _).push _) #[_,Qrq _ L,L]
def Rest(z O i j:X8)(h h':Xe):Prop:=∀c o,c≠z->c≠O->c≠i->c≠j->h.get? c=some o->h'.get? c=some o
end Zp
namespace L2
open PyProof.Rows
def Inv.turnedL{X:Cx}{a:X2}{σ:St}{H:Hp}{s:X4}{h':Xe}{t':Nat}{fp:X7}(I:Inv X a σ H s)(f:∀b∈fp,o_ X a H b)(k:∀b o,b∉fp->s.heap.get? b=some o->h'.get? b=some o):Inv X a σ H {s with heap:=h',toks:=t'}:=by
 have g:∀b u,H b=some u->b∉fp:=λb u e z=>by rw[(f b z).1] at e;cases e
 show I.step (g':=s.gens) (d':=s.drawn) (ch:=fp) (λb h=>#[(f b h).2.2.2.1,(f b h).2.1,(f b h).2.2.2.2.1,(f b h).2.2.2.2.2]) (λb o _ _ d e _=>k b o d e) (λb o _ _ d e _=>#[o.slots,k b o d e]) (λ_ _ _ _ n=>n)
  (λb o d e=>#[o,k b o d e]) (λ_ _ e=>e) (λ_ _ _ e=>e) (λb t e=>#[(List.toArray []),by rw[e];simp]) (λm l=>?_) (λb u e=>?_) I.bare
 ·let#[o,j,p,i,r]:=l
  show#[o,j,p,k _ o (λz=>(f _ z).2.1 L) i,r]
 ·show(I.hok b u e).stay (λc v d q=>k c v ?_ q) (λ_ q=>q) λ_ _ q=>q
  rcases d with z|z
  ·rw[z];show g b u e
  ·show g c _ z
def Inv.turnedNew{X:Cx}{a:X2}{σ:St}{H:Hp}{s:X4}{h':Xe}{t':Nat}{fp:X7}{p:X8}{o:HO}(I:Inv X a σ H s)(g:∀b∈fp,o_ X a H b)(k:∀b u,b∉fp->s.heap.get? b=some u->h'.get? b=some u)(l:s.heap.objs.size<=p)
  (j:bR X.prog X.w (upd H p o) h' p o):Inv X a σ (upd H p o) {s with heap:=h',toks:=t'}:=by
 let y:=I.hok.fresh l
 have i:∀b u,H b=some u->b∉fp:=λb u e z=>by rw[(g b z).1] at e;cases e
 have h:∀b u,H b=some u->upd H p o b=some u:=λb u e=>by rw[aM (eD e y)];show e
 show I.step (g':=s.gens) (d':=s.drawn) (ch:=fp) (λb d=>#[(g b d).2.2.2.1,(g b d).2.1,(g b d).2.2.2.2.1,(g b d).2.2.2.2.2]) (λb o _ _ f e _=>k b o f e) (λb o _ _ f e _=>#[o.slots,k b o f e])
  (λb u _ e n=>by rw[aM (λz=>Nat.lt_irrefl _<|Qqq (Qiq e) (by rw[z];show l))];show n)
  (λb o f e=>#[o,k b o f e]) (λb F e=>h b _ e) (λb u v e=>h b _ e) (λb C e=>#[(List.toArray []),by rw[h b _ e];simp]) (λm A=>?_) (λb u e=>?_) I.bare
 ·let#[o,x,B,t,r]:=A
  show#[o,x,B,k _ o (λz=>(g _ z).2.1 L) t,r]
 ·by_cases d:b=p
  ·subst d
   rw[aR] at e
   cases e
   show j
  ·rw[aM d] at e
   show(I.hok b u e).stay (λc v f q=>k c v ?_ q) (λc q=>h c _ q) λc _ q=>h c _ q
   rcases f with z|z
   ·rw[z];show i b u e
   ·show i c _ z
end L2
namespace Zp
open PySem PySem.W PyProof.Rows
noncomputable def rS(n:Nat):KasT (Array Nat)->Bool
 |.ret _=>true
 |.ask i j k=>decide (i<n)&&decide (j<n)&&decide (i≠j)&&rS n (k true)&&rS n (k false)
end Zp
namespace L2
open PyProof.Rows
mutual
inductive pP(N:Addr->Prop)(H:Hp):PyData->V->Prop
 |non:pP N H .none .non
 |bl (b:Bool):pP N H (.bool b) (.bl b)
 |int (i:Int):pP N H (.int i) (.int i)
 |str (x:Str):pP N H (.str x) (.str x)
 |tup {a:X8} {us:List V} {xs:List PyData}:H a=some (.tup us)->uw N H xs us->pP N H (.tuple xs) (.ref a)
 |lst {a:X8} {us:List V} {xs:List PyData}:H a=some (.lst us)->N a->uw N H xs us->pP N H (.list xs) (.ref a)
 |dct {a:X8}:H a=some (.dK [])->pP N H (.dict []) (.ref a)
inductive uw(N:Addr->Prop)(H:Hp):List PyData->List V->Prop
 |nil:uw N H [] []
 |cons {x:PyData} {u:V} {xs:List PyData} {us:List V}:pP N H x u->uw N H xs us->uw N H (x::xs) (u::us)
end
mutual
theorem nN{X:Cx}{g:X2}{σ:St}{H:Hp}{s:X4}{N:Addr->Prop}(I:Inv X g σ H s)(q:∀a,N a->a≠sysModules):∀{d:PyData} {v:V} {u:Xd},pP N H d v->RelV v u->∃as,Reads s.heap u d as/\sysModules∉as
 |_,_,_,.non,r=>by cases r;show#[_,.none,by simp]
 |_,_,_,.bl b,r=>by cases r;show#[_,.bool b,by simp]
 |_,_,_,.int i,r=>by let#[t,rfl]:=r;show#[_,.int i t,by simp]
 |_,_,_,.str x,r=>by let#[t,rfl]:=r;show#[_,.str x t,by simp]
 | _,_,_,.tup (a:=a) h hs,r=>by
   cases r
   let#[k,l,#[o,f,c,n,p],A]:=I.tuple (gh.of h)
   let#[as,j,m]:=pY I q hs l
   show#[as,.tuple f c p (by simpa using j),m]
 | _,_,_,.lst (a:=a) h n hs,r=>by
   cases r
   let#[k,l,C,A]:=I.list (ji.of h)
   let#[o,f,c,K,p]:=C.isList
   let#[as,j,m]:=pY I q hs l
   show#[_,.list f c p (by simpa using j),by rw[Qsq];show λe=>e.elim (λe=>q _ n e.symm) m]
 | _,_,_,.dct (a:=a) h,r=>by
   cases r
   let#[_,y,M,G,z]:=An I.hok h
   cases G
   let#[o,F,P,f,J,c,_,B,_]:=z
   have w:F.toList= []:=List.eq_nil_of_length_eq_zero B.length
   show⟨_,.dict (as:= []) (bs:= []) (kvs:= []) f J.1 c (by rw[w];show .nil) (by rw[w];show .nil),by
     simp
     intro e
     rw[e] at y
     simp at y⟩
theorem pY{N:Addr->Prop}(I:Inv X b σ H s)(d:∀a,N a->a≠sysModules):∀{xs:List PyData} {c:List V} {vs:X5},uw N H xs c->bo c vs->∃as,ReadsAll s.heap vs xs as/\sysModules∉as
 |_,_,_,.nil,r=>by cases r;show#[_,.nil,by simp]
 | _,_,_,.cons h hs,r=>by
   cases r with
   | cons r i=>
     let#[as,f,j]:=nN I d h r
     let#[l,k,g]:=pY I d hs i
     show#[_,.cons f k,by rw[mQa];show λe=>e.elim j g]
end
def JG:j0 X (binaryOp .Mult) (rI IntMulOk λi j=>.int (i*j)):=PV λ_ _ _ _ _ _ _ a q=>mul_int q a
theorem oY:∀{rs:X7} {b:X5},bo (rs.map V.ref) b->b=rs.map Value.ref
 | [],_,r=>by cases r;rfl
 | a::rs,_,r=>by
   cases r with
   | cons h t=>
     cases h
     rw[oY t]
     rfl
theorem ui:∀(rs:X7),bo (rs.map V.ref) (rs.map Value.ref)
 | []=>.nil
 |a::rs=>.cons L (ui rs)
end L2
namespace HT
open PyProof.Rows
def lN{prog:X9}{w:Xc}{A:X_}{E:X0}{s:X4}{t sl:X8}{items:Xa}{g e:Xd}{lo hi:Xb}{Q:X0}(ht:IsTup s.heap t items)(i:s.heap.IsSliceOf sl g e .none)(n:IsPart g lo)(o:IsPart e hi)
  (f:eG items.size 0 lo=0/\eG items.size items.size hi=items.size) (h:Q (.ref t) s):wpAny (model prog w) A (getItem (.ref t)<|.ref sl) Q E s:=by
 let#[l,c,b,k]:=id i
 have d:s.TypeIs (.ref sl) "slice":=#[l,c,b]
 unfold getItem
 try with_reducible show QLq ?_
 first|show Qaq (Qgq ?_)|skip
 show Qaq<|wpAny_sequenceKey ht.typeIs (!1) ?_
 show Qaq (QiQ (name:=Str.ofString "__getitem__") ht.typeIs PyProof.Rows.slot_tuple_getitem
  (wpAny_call_entry PyProof.Rows.slot_tuple_getitem ht.typeIs entry_tuple_getitem ?_ (args_tuple_getitem _ _)))
 show wpAny _ _ (Builtin.Tuple.tupleItemsOf (.ref t) >>= _) _ _ s
 show Qaq<|tupleItemsOf_ ht ?_
 show Qaq<|wpAny_typeOf d ?_
 rw[Qhq (!1)]
 show Qaq<|jb i n o ?_
 have a:(((eG items.size 0 lo:Nat):Int)==0&&(1:Int)==1&&(eG items.size items.size hi-eG items.size 0 lo)==items.size)=true:=by
  rw[f.1,f.2]
  simp
 show wpAny _ _ (if (((eG items.size 0 lo:Nat):Int)==0&&(1:Int)==1&&(eG items.size items.size hi-eG items.size 0 lo)==items.size)=true then _ else _) _ _ s
 rw[Qhq a]
 have j:∀{A:X_} {E:X0} {R:Xf},R true s->wpAny (model prog w) A (Builtin.Tuple.tupleIsExact<|.ref t) R E s:=λ{A E R} h=>by
  unfold Builtin.Tuple.tupleIsExact
  show Qaq<|wpAny_typeOf ht.typeIs<|Qgq h
 show Qaq (m:=Builtin.Tuple.tupleIsExact _)<|j ?_
 rw[Qhq L]
 show Qaq<|wpAny_rule ?_
 show Qgq #[_,L,Qgq h]
end HT
namespace L2
open PyProof.Rows
def QU(K:X1):V->Option Int->Option Int->Hp->VK->Prop:=λx c d H Q=>∃a b,x=.ref a/\gh K H a b∧
 (HT.eG b.length 0 c=0/\HT.eG b.length b.length d=b.length->Q (.ref a) H)/\(¬(HT.eG b.length 0 c=0/\HT.eG b.length b.length d=b.length)->∀p,H p=none->Q (.ref p) (upd H p<|.tup (A3 b c d)))
def Ih:Q6 X (QU X.K):=by
 intro d s q H x v p o n m sl Q I k l i j h
 let#[a,b,rfl,hx,q1,q2]:=h
 by_cases e:HT.eG b.length 0 n=0/\HT.eG b.length b.length m=b.length
 ·cases k
  let#[f,r,g,t]:=I.tuple hx
  have c:f.toArray.size=b.length:=by rw[Qjq];show r.length.symm
  show⟨"tuple",_,PyProof.Rows.slot_tuple_getitem.lookup,g.typeIs,?_⟩
  show HT.lN g l i j (by rw[c];show e) ⟨.ref a,H,I,L,q1 e⟩
 ·show MU d s q H _ v p o n m sl Q I k l i j ⟨a,b,L,hx,e,q2 e⟩
end L2
namespace ST
open PySem
noncomputable def sm:Nat->Nat
 |0=>0
 |n+1=>5*sm n+1
theorem L1:∀n,5^n=4*sm n+1
 |0=>rfl
 |n+1=>by rw[Nat.pow_succ,L1 n,sm];omega
theorem HG(a:Nat):∀b,sm (a+b)=5^b*sm a+sm b
 |0=>by simp[sm]
 |b+1=>by rw[<-Nat.add_assoc,sm,HG a b,sm,Nat.pow_succ,Nat.mul_add,Nat.mul_comm (5^b) 5,Nat.mul_assoc];omega
theorem GM:∀n,sm n%2=n%2
 |0=>rfl
 |n+1=>by have:=GM n;rw[sm];omega
def DI(h:2^k ∣ a*(2*c+1)):2^k ∣ a:=by
 have:Nat.Coprime (2^k) (2*c+1):=Nat.Coprime.pow_left k (by rw[Nat.coprime_iff_gcd_eq_one,Nat.gcd_rec];simp[Nat.add_mod])
 show this.dvd_of_dvd_mul_right h
theorem F7:∀(k d:Nat),2^k ∣ sm d->2^k ∣ d
 |0,d,_=>by simp
 | k+1,d,h=>by
   have b:2 ∣ sm d:=Nat.dvd_trans ⟨2^k,by rw[Nat.pow_succ,Nat.mul_comm]⟩ h
   have:=GM d
   obtain⟨e,rfl⟩:∃e,d=e+e:=#[d/2,by omega]
   have a:sm (e+e)=2*(sm e*(2*sm e+1)):=by
     rw[HG,L1,Nat.add_mul,Nat.mul_add]
     have:sm e*(2*sm e)=2*(sm e*sm e):=by rw[<-Nat.mul_assoc,Nat.mul_comm (sm e) 2,Nat.mul_assoc]
     rw[this,Nat.mul_assoc]
     omega
   rw[a,Nat.pow_succ,Nat.mul_comm] at h
   have:=F7 k e (DI<|Nat.dvd_of_mul_dvd_mul_left (!1) h)
   rw[Nat.pow_succ,<-Nat.two_mul,Nat.mul_comm]
   show Nat.mul_dvd_mul_left 2 this
noncomputable def AC(N x:Nat):Nat->Nat
 |0=>x
 |n+1=>(AC N x n*5+1)%N
theorem Cu(a:x<N):∀n,AC N x n=(5^n*x+sm n)%N
 |0=>by simp[AC,sm,Nat.mod_eq_of_lt a]
 | n+1=>by
   rw[AC,Cu a n,Nat.add_mod,Nat.mod_mul_mod,<-Nat.add_mod,sm,Nat.pow_succ,Nat.add_mul]
   congr 1
   rw[Nat.mul_right_comm]
   omega
def Mk(a:0<N)(b:x<N):∀n,AC N x n<N
 |0=>b
 |n+1=>Nat.mod_lt _ a
theorem CF(a:Nat):∀b,AC N x (a+b)=AC N (AC N x a) b
 |0=>rfl
 |b+1=>by rw[<-Nat.add_assoc,AC,CF a b,AC]
def Kd(b:x<2^k)(h:AC (2^k) x d=x):2^k ∣ d:=by
 rw[Cu b,L1] at h
 show F7 k d<|DI (c:=2*x) ?_
 have e:(4*sm d+1)*x+sm d=x+sm d*(2*(2*x)+1):=by
  rw[Nat.add_mul,Nat.mul_add]
  have:4*sm d*x=sm d*(2*(2*x)):=by rw[<-Nat.mul_assoc 2 2 x,<-Nat.mul_assoc (sm d),Nat.mul_comm (sm d) (2*2)]
  omega
 rw[e] at h
 have f:(x+sm d*(2*(2*x)+1))%2^k=x%2^k:=by rw[h,Nat.mod_eq_of_lt b]
 let a:=Nat.sub_mod_eq_zero_of_mod_eq f
 rw[Nat.add_sub_cancel_left] at a
 show Nat.dvd_of_mod_eq_zero a
def Iv(d:x<2^k)(c:a<b)(f:b-a<2^k):AC (2^k) x a≠AC (2^k) x b:=by
 intro h
 have e:b=a+(b-a):=by omega
 rw[e,CF] at h
 have:=Kd (Mk (Nat.two_pow_pos k) d a) h.symm
 show absurd (Nat.le_of_dvd (!0) this) (!0)
theorem nF[DecidableEq α]:∀{l m:List α},l.Nodup->(∀x∈l,x∈m)->l.length<=m.length
 | [],_,_,_=>Nat.zero_le _
 | x::l,m,n,h=>by
   rw[List.nodup_cons] at n
   let b:=h x QBq
   have:=nF (l:=l) (m:=m.erase x) n.2 λy a=>(List.mem_erase_of_ne (λz=>n.1 (by rw[<-z];show a))).mpr (h y<|Qpq _ a)
   rw[List.length_erase_of_mem b] at this
   have:=List.length_pos_of_mem b
   simp
   omega
def HD{occ:List Nat}(o:x<2^k)(h:occ.length<2^k):∃n,n<=occ.length/\AC (2^k) x n∉occ:=by
 show Classical.byContradiction λc=>?_
 have d:∀n,n<=occ.length->AC (2^k) x n∈occ:=λn e=>Classical.byContradiction λg=>c #[n,e,g]
 have f:((List.range (occ.length+1)).map (AC (2^k) x)).Nodup:=by
  rw[List.nodup_iff_pairwise_ne,List.pairwise_map]
  show List.Pairwise.imp_of_mem (R:=(·<·)) ?_ List.pairwise_lt_range
  intro a b p j l
  have:=List.mem_range.mp j
  show Iv o l (!0)
 have:=nF f (m:=occ) λy i=>by
  let#[n,e,rfl]:=Qkq.mp i
  show d n (by have:=List.mem_range.mp e;omega)
 simp at this
 omega
end ST
namespace ST
open PySem PySem.SetTable
noncomputable def rn(m:Nat)(h:Int):Nat->Nat×Nat
 |0=>(bits h%(m+1),bits h)
 |n+1=>leap m (rn m h n).1 (rn m h n).2
noncomputable def L(m i:Nat):Nat:=runEnd m i-i
def Kt(m i:Nat):L m i<=9:=by unfold L runEnd;split <;>omega
def Pz(hi:i<=m)(a:r<=L m i):i+r<=m:=by
 unfold L runEnd at a
 split at a <;>omega
def KA(m:Nat)(h:Int):∀n,(rn m h n).1<=m
 |0=>Nat.le_of_lt_succ (Nat.mod_lt _<|Nat.succ_pos m)
 | n+1=>by
   show(leap m (rn m h n).1 (rn m h n).2).1<=m
   show Nat.le_of_lt_succ<|Nat.mod_lt _<|Nat.succ_pos m
def Ja(h:Int):bits h<2^64:=by
 unfold bits
 let a:=Int.emod_nonneg h (show(2^64:Int)≠0 by decide)
 let b:=Int.emod_lt_of_pos h (show(0:Int)<2^64 by decide)
 have:((h%(2^64:Int)).toNat:Int)<2^64:=by omega
 omega
theorem HI(m:Nat)(h:Int):∀n,(rn m h n).2=bits h/32^n
 |0=>by simp[rn]
 | n+1=>by
   show(rn m h n).2/32=_
   rw[HI m h n,Nat.div_div_eq_div_mul,Nat.pow_succ]
def Qr(m:Nat)(h:Int)(a:13<=n):(rn m h n).2=0:=by
 rw[HI]
 show Nat.div_eq_of_lt<|Qqq (Ja h) ?_
 show QAq (show 2^64<=32^13 by decide)<|Nat.pow_le_pow_right (!1) a
theorem KW(h:Int)(a:m+1=2^k):∀n,(rn m h (13+n)).1=AC (2^k) (rn m h 13).1 n
 |0=>rfl
 | n+1=>by
   show((rn m h (13+n)).1*5+1+(rn m h (13+n)).2/32)%(m+1)=_
   rw[Qr m h (!0),KW h a n,a]
   rfl
def Dz(h:Int)(a:m+1=2^k){occ:List Nat}(c:occ.length<=m):∃n,n<=13+occ.length/\(rn m h n).1∉occ:=by
 let#[n,d,b]:=HD (k:=k) (x:=(rn m h 13).1) (occ:=occ) (by have:=KA m h 13;omega) (!0)
 show#[13+n,by omega,by rw[KW h a];show b]
noncomputable def sl(m:Nat)(h:Int)(n r:Nat):Nat:=(rn m h n).1+r
noncomputable def pb(m:Nat)(h:Int)(n r:Nat):Probe:={j:=sl m h n r,more:=L m (rn m h n).1-r,i:=(rn m h n).1,perturb:=(rn m h n).2,dummy:=none}
def Hd{t:SetTable}(a:r<L t.mask (rn t.mask h n).1):t.advance (pb t.mask h n r)=pb t.mask h n (r+1):=by
 unfold advance
 rw[Qhq (by show 0<L _ _-r;omega)]
 erw[pb,sl,Probe.mk.injEq]
 show#[by omega,by omega,trivial,trivial,trivial]
def C1{t:SetTable}:t.advance (pb t.mask h n<|L t.mask (rn t.mask h n).1)=pb t.mask h (n+1) 0:=by
 unfold advance
 rw[Quq (by show¬0<L _ _-L _ _;omega)]
 rfl
def uP(m:Nat)(h:Int)(n r:Nat)(V:Nat->Prop):Prop:=(∀b a,b<n->a<=L m (rn m h b).1->V (sl m h b a))/\∀a,a<r->V (sl m h n a)
def uP.in{V:Nat->Prop}(b:uP m h n r V)(v:V (sl m h n r)):uP m h n (r+1) V:=
 #[b.1,λa c=>(Nat.lt_succ_iff_lt_or_eq.mp c).elim (b.2 a) λe=>e▸v]
def uP.out{V:Nat->Prop}(b:uP m h n (L m (rn m h n).1) V)(v:V (sl m h n<|L m (rn m h n).1)):uP m h (n+1) 0 V:=
 ⟨λf d g a=>(Nat.lt_succ_iff_lt_or_eq.mp g).elim (λc=>b.1 f d c a) λe=>by
  subst e
  show(Nat.lt_or_eq_of_le a).elim (b.2 d) λe=>e▸v,λd a=>absurd a (Nat.not_lt_zero _)⟩
def uP.zero{V:Nat->Prop}:uP m h 0 0 V:=#[λ_ _ c=>absurd c<|Nat.not_lt_zero _,λ_ c=>absurd c<|Nat.not_lt_zero _]
def uP.imp{V W:Nat->Prop}(b:uP m h n r V)(i:∀j,V j->W j):uP m h n r W:=#[λe a c d=>i _<|b.1 e a c d,λa c=>i _<|b.2 a c]
def JJ(m:Nat)(h:Int)(V:Nat->Prop)(j:Nat):Prop:=∃n r,r<=L m (rn m h n).1/\j=sl m h n r/\uP m h n r V
def JJ.imp{V W:Nat->Prop}(x:JJ m h V j)(i:∀j,V j->W j):JJ m h W j:=by
 let#[n,r,b,a,c]:=x
 show#[n,r,b,a,c.imp i]
def rF(xs:Array Nat)(j:Nat)(w:xs.toList.Pairwise (·<·)):below xs j<=xs.size/\(∀i x,xs[i]?=some x->i<below xs j->x<j)/\∀i x,xs[i]?=some x->below xs j<=i->j<=x:=by
 have f:∀{i p x r:Nat},xs[i]?=some x->xs[p]?=some r->i<p->x<r:=λ{i p x r} q l c=>by
  let#[z,C]:=Array.getElem?_eq_some_iff.mp q
  let#[A,B]:=Array.getElem?_eq_some_iff.mp l
  have:=List.pairwise_iff_getElem.mp w i p (by simpa using z) (by simpa using A) c
  simp at this
  omega
 have s:∀a d b,d<=b->b<=xs.size->b-d<=a->(∀i x,xs[i]?=some x->i<d->x<j)->(∀i x,xs[i]?=some x->b<=i->j<=x)->
   below.go xs j a d b<=xs.size/\(∀i x,xs[i]?=some x->i<below.go xs j a d b->x<j)/\∀i x,xs[i]?=some x->below.go xs j a d b<=i->j<=x:=by
  intro a
  induction a with
  | zero=>
    intro d b q l y m n
    have:d=b:=by omega
    subst this
    show#[l,m,n]
  | succ a v=>
    intro d b q l y m n
    unfold below.go
    by_cases c:d<b
    · rw[Qhq c]
      dsimp only
      have u:(d+b)/2<xs.size:=by omega
      have e:xs.getD ((d+b)/2) j=xs[(d+b)/2]:=by simp[Array.getD,u]
      have g:xs[(d+b)/2]?=some xs[(d+b)/2]:=by simp[u]
      rw[e]
      by_cases o:xs[(d+b)/2]<j
      · rw[Qhq o]
        show v _ _ (!0) l (!0) (λi x k hl=>?_) n
        by_cases t:i=(d+b)/2
        · subst t;rw[g] at k;cases k;show o
        · show Nat.lt_trans (f k g (!0)) o
      · rw[Quq o]
        show v _ _ (!0) (!0) (!0) m (λi x k hl=>?_)
        by_cases t:i=(d+b)/2
        · subst t;rw[g] at k;cases k;omega
        · have:=f g k (!0);omega
    · rw[Quq c]
      have:d=b:=by omega
      subst this
      show#[l,m,n]
 show s xs.size 0 xs.size (Nat.zero_le _) (Qmq _) (!0) (λi x _ c=>absurd c (Nat.not_lt_zero _)) (λi x h c=>by
  have:=(Array.getElem?_eq_some_iff.mp h).1;omega)
def AA{xs:Array Nat}(e:xs.toList.Pairwise (·<·)){i a x:Nat}(g:xs[i]?=some x)(f:xs[a]?=some x):i=a:=by
 let#[b,h]:=Array.getElem?_eq_some_iff.mp g
 let#[d,j]:=Array.getElem?_eq_some_iff.mp f
 rcases Nat.lt_trichotomy i a with c|c|c
 ·have:=List.pairwise_iff_getElem.mp e i a (by simpa using b) (by simpa using d) c
  simp at this;omega
 ·show c
 ·have:=List.pairwise_iff_getElem.mp e a i (by simpa using d) (by simpa using b) c
  simp at this;omega
def below_at{xs:Array Nat}(d:xs.toList.Pairwise (·<·))(h:xs[i]?=some j):below xs j=i:=by
 let#[l,g,k]:=rF xs j d
 rcases Nat.lt_trichotomy (below xs j) i with c|c|c
 ·have f:below xs j<xs.size:=Nat.lt_trans c (Array.getElem?_eq_some_iff.mp h).1
  have e:xs[below xs j]?=some xs[below xs j]:=by simp[f]
  let a:=k _ _ e (Qmq _)
  let b:=(Array.getElem?_eq_some_iff.mp h)
  let#[b,m]:=b
  have:=List.pairwise_iff_getElem.mp d (below xs j) i (by simpa using f) (by simpa using b) c
  simp at this
  omega
 ·show c
 ·have:=g i j h c;omega
def lj{t:SetTable}(a:t.place.toList.Pairwise (·<·))(h:t.place[i]?=some j):t.slot j=.live i:=by
 unfold slot
 dsimp only
 rw[below_at a h,h]
 simp
def BQ{t:SetTable}(a:t.dummies= (List.toArray []))(h:j∉t.place.toList):t.slot j=.empty:=by
 unfold slot
 dsimp only
 rw[Quq,Quq]
 ·rw[a]
  simp[has,below,below.go]
 ·intro z
  have z:t.place[below t.place j]?=some j:=by simpa using z
  show h (by have:=Array.mem_of_getElem? z;simpa using this)
structure TI(t:SetTable)(es:Array (Int×Value)):Prop where
 pw:∃k,t.mask+1=2^k/\1<=k
 dm:t.dummies= (List.toArray [])
 rise:t.place.toList.Pairwise (·<·)
 sz:t.place.size=es.size
 room:es.size<=t.mask
 rch:∀(i:Nat) (h:Int) (v:Xd) (j:Nat),es[i]?=some (h,v)->t.place[i]?=some j->JJ t.mask h (·∈t.place.toList) j
def TI.fits(x:TI t es):t.fits es.size=true:=by
 unfold SetTable.fits fill
 rw[x.dm,x.sz]
 simpa using x.room
def TI.odd(x:TI t es):t.gaveWay=false:=by
 let#[k,a,c]:=x.pw
 obtain⟨k,rfl⟩:∃b,k=b+1:=#[k-1,by omega]
 rw[Nat.pow_succ] at a
 unfold SetTable.gaveWay
 erw[beq_eq_false_iff_ne,ne_eq]
 omega
def TI.live(x:TI t es)(h:j∈t.place.toList):∃i,t.place[i]?=some j/\i<es.size:=by
 let#[i,a,e]:=QbQ h
 have a:i<t.place.size:=by simpa using a
 show#[i,by rw[Array.getElem?_eq_getElem a];simpa using e,by rw[<-x.sz];show a]
def TI.free(x:TI t es)(h:Int):∃N,N<=13+es.size/\(rn t.mask h N).1∉t.place.toList:=by
 let#[k,b,_]:=x.pw
 have hl:t.place.toList.length=es.size:=by rw[Array.length_toList];show x.sz
 let#[N,a,c]:=Dz (m:=t.mask) h b (occ:=t.place.toList) (by rw[hl];show x.room)
 show#[N,by rw[hl] at a;show a,c]
def JB(x:TI t es){hashAt:Nat->Int}(F:(rn t.mask h N).1∉t.place.toList){V:Nat->Prop}(C:∀i j,t.place[i]?=some j->hashAt i≠h->V j):∀a n r,r<=L t.mask (rn t.mask h n).1->(n<N\/n=N/\r=0)->10*(N-n)+1<=a+r->uP t.mask h n r V->
  ∃ b d,d<=L t.mask (rn t.mask h b).1/\(b<N\/b=N/\d=0)/\10*n+r<=10*b+d/\uP t.mask h b d V∧
    ((sl t.mask h b d∉t.place.toList/\probe.go t hashAt h a (pb t.mask h n r)=some (.empty (sl t.mask h b d) none))∨
      ∃i,t.place[i]?=some (sl t.mask h b d)/\hashAt i=h/\probe.go t hashAt h a (pb t.mask h n r)=some (.candidate (sl t.mask h b d) i (t.advance (pb t.mask h b d)))):=by
 intro a
 induction a with
 |zero=>intro n r p f B;have:=Kt t.mask (rn t.mask h n).1;omega
 | succ a w=>
   intro n r p f B l
   by_cases c:sl t.mask h n r∈t.place.toList
   · let#[i,k,_]:=x.live c
     by_cases g:hashAt i=h
     · show#[n,r,p,f,Qmq _,l,.inr #[i,k,g,?_]]
       unfold probe.go
       rw[show(pb t.mask h n r).j=sl t.mask h n r from rfl,lj x.rise k]
       simp[g]
     · have y:=C i _ k g
       have e:probe.go t hashAt h (a+1) (pb t.mask h n r)=probe.go t hashAt h a (t.advance<|pb t.mask h n r):=by
         conv=>lhs;unfold probe.go
         rw[show(pb t.mask h n r).j=sl t.mask h n r from rfl,lj x.rise k]
         simp[g]
       rw[e]
       have u:n<N:=by
         rcases f with f|⟨rfl,rfl⟩
         · show f
         · show absurd c F
       by_cases v:r<L t.mask (rn t.mask h n).1
       · rw[Hd v]
         let#[b,d,q,s,A,o,m]:=w n (r+1) v (.inl u) (!0) (l.in y)
         show#[b,d,q,s,by omega,o,m]
       · have z:r=L t.mask (rn t.mask h n).1:=by omega
         have:=Kt t.mask (rn t.mask h n).1
         subst z
         rw[C1]
         let#[b,d,q,s,A,o,m]:=w (n+1) 0 (Nat.zero_le _) (!0) (!0) (l.out y)
         show#[b,d,q,s,by omega,o,m]
   · show#[n,r,p,f,Qmq _,l,.inl #[c,?_]]
     unfold probe.go
     rw[show(pb t.mask h n r).j=sl t.mask h n r from rfl,BQ x.dm c]
     rfl
def BG(x:TI t es){hashAt:Nat->Int}(c:N<=13+es.size)(g:(rn t.mask h N).1∉t.place.toList){V:Nat->Prop}(f:∀i j,t.place[i]?=some j->hashAt i≠h->V j)(d:r<=L t.mask (rn t.mask h n).1)(k:n<N\/n=N/\r=0)(e:uP t.mask h n r V):
  ∃ a b,b<=L t.mask (rn t.mask h a).1/\(a<N\/a=N/\b=0)/\10*n+r<=10*a+b/\uP t.mask h a b V∧
    ((sl t.mask h a b∉t.place.toList/\t.probe hashAt h (pb t.mask h n r)=some (.empty (sl t.mask h a b) none))∨
      ∃i,t.place[i]?=some (sl t.mask h a b)/\hashAt i=h/\t.probe hashAt h (pb t.mask h n r)=some (.candidate (sl t.mask h a b) i (t.advance (pb t.mask h a b)))):=by
 unfold SetTable.probe
 show JB x g f _ n r d k ?_ e
 have:=x.room
 unfold turns
 omega
def y_(x:TI t es){hashAt:Nat->Int}(e:t.probe hashAt h p=m)(y:p=pb t.mask h n r)(q:∀i,hashAt i=(es[i]?.map (·.1)).getD 0){same:Nat->Bool}(f:N<=13+es.size)(C:(rn t.mask h N).1∉t.place.toList)(z:r<=L t.mask (rn t.mask h n).1)(B:n<N\/n=N/\r=0)
  (I:uP t.mask h n r (λj=>∃i,t.place[i]?=some j/\∀v,es[i]?=some (h,v)->same i=false)):
  ∃ a b,b<=L t.mask (rn t.mask h a).1/\(a<N\/a=N/\b=0)/\10*n+r<=10*a+b/\uP t.mask h a b (λj=>∃i,t.place[i]?=some j/\∀v,es[i]?=some (h,v)->same i=false)∧
    ((sl t.mask h a b∉t.place.toList/\m=some (.empty (sl t.mask h a b) none))∨
      ∃i v,t.place[i]?=some (sl t.mask h a b)/\es[i]?=some (h,v)/\m=some (.candidate (sl t.mask h a b) i (t.advance (pb t.mask h a b)))):=by
 subst y
 let#[a,b,F,G,u,w,d]:=BG x (hashAt:=hashAt) f C (λi j k g=>#[i,k,λv H=>absurd (by rw[q,H];rfl) g]) z B I
 show#[a,b,F,G,u,w,?_]
 rw[e] at d
 rcases d with d|⟨i,l,c,A⟩
 ·show .inl d
 ·let#[j,s,o]:=x.live (j:=sl t.mask h a b) (by have:=Array.mem_of_getElem? l;simpa using this)
  have:i=j:=AA x.rise l s
  subst this
  show .inr #[i,es[i].2,l,?_,A]
  rw[Array.getElem?_eq_getElem o]
  rw[q,Array.getElem?_eq_getElem o] at c
  have c:es[i].1=h:=c
  rw[<-c]
def Ql(es:Array (Int×Value)):Prop:=∀(i:Nat) (h:Int) (v:Xd),es[i]?=some (h,v)->∃b,v=.ref b
def zh{E:X0}{s:X4}(T:TI t es)(R:Ql es)(ho:s.heap.get? a=some o)(hd:o.data=.set es c t){same:Nat->Bool}(G:N<=13+es.size)(hN:(rn t.mask h N).1∉t.place.toList)
  (I:∀(Q:Xf),Q false s->wpAny (model prog w) A (searchCouldBeSeen x ((es.filter (·.1==h)).toList.map (·.2))) Q E s)
  (U:∀i v,es[i]?=some (h,v)->∀(Q:Xf),Q (same i) s->wpAny (model prog w) A (eqBool v x) Q E s)
  {Q:SetFound->Shared->Prop} (q1:(∃i v,es[i]?=some (h,v)/\same i=true)->∀f:Option Nat,(adding=false->f.isSome=true)->Q (.there f) s) (q2:(∀i v,es[i]?=some (h,v)->same i=false)->∀j,j∉t.place.toList->JJ t.mask h (·∈t.place.toList) j->Q (.free j false) s):
  ∀ g n r l,l.getD (t.probeStart h)=pb t.mask h n r->r<=L t.mask (rn t.mask h n).1->(n<N\/n=N/\r=0)->10*(N-n)+1<=g+r->uP t.mask h n r (λj=>∃i,t.place[i]?=some j/\∀v,es[i]?=some (h,v)->same i=false)->
    wpAny (model prog w) A (setSearchFrom a x h adding g l) Q E s:=by
 intro g
 induction g with
 |zero=>intro n r _ _ Z hn hf;have:=Kt t.mask (rn t.mask h n).1;omega
 | succ g ih=>
   intro n r l H Z hn hf hB
   unfold setSearchFrom
   show Qaq<|wpAny_setState_of ho hd T.fits ?_
   dsimp only
   rw[T.odd]
   erw[Bool.false_eq_true,if_false]
   split
   · rename_i a6 e
     let#[k,u,a1,P,a3,C,X]:=y_ T e H (λ_=>rfl) G hN Z hn hB
     rcases X with⟨y,p⟩|⟨i,v,y,p,b3⟩
     · cases p
       dsimp only
       show Qgq<|q2 (λi v K=>?_) _ y #[k,u,a1,rfl,C.imp λj ⟨i,K,_⟩=>by have:=Array.mem_of_getElem? K;simpa using this]
       cases F:same i with
       |false=>rfl
       | true=>
         exfalso
         have J:i<t.place.size:=by rw[T.sz];show(Array.getElem?_eq_some_iff.mp K).1
         let#[W,M,c1,c2,c3]:=T.rch i h v _ K (Array.getElem?_eq_getElem J)
         have no:∀{n1 S:Nat},sl t.mask h W M=sl t.mask h n1 S->(∃q,t.place[q]?=some (sl t.mask h n1 S)/\∀v,es[q]?=some (h,v)->same q=false)->False:=λ{n1 S} e ⟨q,d1,d2⟩=>by
           have:q=i:=AA T.rise d1 (by rw[Array.getElem?_eq_getElem J,c2,e])
           subst this
           rw[d2 v K] at F
           cases F
         rcases Nat.lt_trichotomy W k with d|d|d
         · show no rfl<|C.1 W M d c1
         · subst d
           rcases Nat.lt_trichotomy M u with d|d|d
           · show no rfl<|C.2 M d
           · subst d
             show y (by rw[<-c2];simp)
           · show y<|c3.2 u d
         · show y<|c3.1 k u d a1
     · cases b3
       have a0:k<N:=by
         rcases P with P|⟨rfl,rfl⟩
         · show P
         · show absurd (by have:=Array.mem_of_getElem? y;simpa [sl] using this) hN
       let#[b,rfl]:=R i h v p
       have B:wpAny (model prog w) A (do
           let equal<-holding [Value.ref b] (eqBool (Value.ref b) x)
           let __x<-setState a
           if (adding&&equal)=true then pure (SetFound.there none)
             else
               match __x.2.snd.sameMemory t.moves t.mask with
               | some same=>
                 match if same=true then __x.2.snd.slot (sl t.mask h k u) else Slot.empty with
                 | Slot.live q=>
                   match __x.fst[q]? with
                   | some (fst,y')=>do
                     let __do_lift<-isSame y' (Value.ref b)
                     let still<-pure (if __do_lift=true then some q else none)
                     match still with
                       | none=>do
                         rule "set.search.anew"
                         setSearchFrom a x h adding g none
                       | some q=>
                         if equal=true then pure (SetFound.there<|some q)
                         else setSearchFrom a x h adding g (some<|t.advance<|pb t.mask h k u)
                   | none=>do
                     let still<-pure none
                     match still with
                       | none=>do
                         rule "set.search.anew"
                         setSearchFrom a x h adding g none
                       | some q=>
                         if equal=true then pure (SetFound.there<|some q)
                         else setSearchFrom a x h adding g (some<|t.advance<|pb t.mask h k u)
                 | x_1=>do
                   let still<-pure none
                   match still with
                     | none=>do
                       rule "set.search.anew"
                       setSearchFrom a x h adding g none
                     | some q=>
                       if equal=true then pure (SetFound.there<|some q)
                       else setSearchFrom a x h adding g (some<|t.advance<|pb t.mask h k u)
               |x=>unsupported "set.changed-during-lookup:is-the-new-block-at-the-old-address") Q E s:=by
         show Qaq<|QLq<|U i _ p _ ?_
         show Qaq<|wpAny_setState_of ho hd T.fits ?_
         dsimp only
         have sm:t.sameMemory t.moves t.mask=some true:=by unfold sameMemory;simp
         cases F:same i with
         | true=>
           cases adding with
           | true=>
             erw[Bool.true_and,if_true]
             show Qgq (q1 #[i,_,p,F] _ λz=>by cases z)
           | false=>
             erw[Bool.false_and,Bool.false_eq_true,if_false]
             rw[sm]
             dsimp only
             rw[Qhq rfl,lj T.rise y]
             dsimp only
             rw[p]
             dsimp only
             show Qaq ?_
             unfold isSame
             dsimp only
             rw[Qhq (by simp)]
             show Qgq<|Qaq<|Qgq ?_
             erw[if_true]
             show Qgq (q1 #[i,_,p,F] _ λ_=>rfl)
         | false=>
           rw[Bool.and_false]
           erw[Bool.false_eq_true,if_false]
           rw[sm]
           dsimp only
           rw[Qhq rfl,lj T.rise y]
           dsimp only
           rw[p]
           dsimp only
           show Qaq ?_
           unfold isSame
           dsimp only
           rw[Qhq (by simp)]
           show Qgq<|Qaq<|Qgq ?_
           erw[if_true]
           have hv:∃Y,t.place[Y]?=some (sl t.mask h k u)/\∀v,es[Y]?=some (h,v)->same Y=false:=#[i,y,λ_ _=>F]
           have:=Kt t.mask (rn t.mask h k).1
           by_cases cr:u<L t.mask (rn t.mask h k).1
           · show ih k (u+1) _ (by rw[<-Hd cr];rfl) cr (.inl a0) (!0)<|C.in hv
           · have er:u=L t.mask (rn t.mask h k).1:=by omega
             subst er
             show ih (k+1) 0 _ (by rw[<-C1];rfl) (Nat.zero_le _) (!0) (!0)<|C.out hv
       dsimp only
       split
       · show Qaq (I _ ?_)
         erw[Bool.false_eq_true,if_false]
         rw[p]
         show B
       · rw[p]
         show B
   · rename_i e
     let#[k,u,a1,P,a3,C,X]:=y_ T (m:=t.probe _ h _) rfl H (λ_=>rfl) G hN Z hn hB
     rcases X with⟨_,p⟩|⟨_,_,_,_,p⟩
     · show absurd p<|e _
     · show absurd p<|e _
def JN(a:Array (Option Nat))(j:Nat):Prop:=∃k:Nat,a[j]?=some (some k)
structure OI(m:Nat)(hs:List Int)(ow:Array (Option Nat)):Prop where
 sz:ow.size=m+1
 fn:∀(k:Nat) (h:Int),hs[k]?=some h->∃j,ow[j]?=some (some k)/\JJ m h (JN ow) j
 inj:∀(j j' k:Nat),ow[j]?=some (some k)->ow[j']?=some (some k)->j=j'
 lt:∀(j k:Nat),ow[j]?=some (some k)->k<hs.length
noncomputable def slots(m:Nat)(g:Array (Option Nat)):List (Nat×Nat):=(List.range (m+1)).filterMap λj=>(g.getD j none).map (j,·)
def getD_some{g:Array (Option Nat)}:g.getD j none=some k↔g[j]?=some (some k):=by
 unfold Array.getD
 by_cases h:j<g.size
 ·simp[h]
 ·simp[h]
def eL(x:OI m l g):p∈slots m g↔g[p.1]?=some (some p.2):=by
 unfold slots
 rw[List.mem_filterMap]
 constructor
 ·rintro⟨j,_,e⟩
  let#[k,a,rfl]:=oQm.mp e
  show getD_some.mp a
 ·intro h
  show#[p.1,List.mem_range.mpr ?_,by rw[getD_some.mpr h];rfl]
  rw[<-x.sz]
  show(Array.getElem?_eq_some_iff.mp h).1
theorem sN:∀(n a:Nat) (f:Nat->Option Nat),(((List.range' a n).filterMap λj=>(f j).map (j,·)).map (·.1)).Pairwise (·<·)
 |0,a,f=>by simp
 | n+1,a,f=>by
   rw[List.range'_succ]
   let c:=sN n (a+1) f
   cases e:f a with
   |none=>rw[List.filterMap_cons_none (by rw[e];rfl)];show c
   | some k=>
     rw[List.filterMap_cons_some (by rw[e];rfl),QDq,List.pairwise_cons]
     show#[λb i=>?_,c]
     let#[p,d,rfl]:=Qkq.mp i
     let#[j,h,e]:=List.mem_filterMap.mp d
     let#[o,_,rfl]:=oQm.mp e
     have:=(List.mem_range'_1.mp h).1
     show a<j
     omega
def yJ(m:Nat)(g:Array (Option Nat)):((slots m g).map (·.1)).Pairwise (·<·):=by
 unfold slots
 rw[List.range_eq_range']
 show sN (m+1) 0 λj=>g.getD j none
def rV(x:OI m l g):((slots m g).map (·.2)).Perm (List.range l.length):=by
 show(List.perm_ext_iff_of_nodup ?_ List.nodup_range).mpr λk=>?_
 ·rw[List.nodup_iff_pairwise_ne,List.pairwise_map]
  let c:=yJ m g
  rw[List.pairwise_map] at c
  show List.Pairwise.imp_of_mem (λ{p q} a hq lt e=>?_) c
  let h:=(eL x).mp a
  let b:=(eL x).mp hq
  rw[<-e] at b
  have:=x.inj _ _ _ h b
  omega
 ·rw[Qkq,List.mem_range]
  constructor
  ·rintro⟨p,a,rfl⟩
   show x.lt _ _ ((eL x).mp a)
  ·intro d
   let#[j,f,_]:=x.fn k l[k] (gQe d)
   show#[(j,k),(eL x).mpr f,rfl]
def D7{g:Array (Option Nat)}(I:g.size=m+1)(C:¬JN g (rn m h N).1):∀a n,n<=N->N-n<a->uP m h n 0 (JN g)->∃j,layClean.free m g a (rn m h n).1 (rn m h n).2=some j/\g[j]?=some none/\JJ m h (JN g) j:=by
 have p:∀{j:Nat},j<=m->¬JN g j->g[j]?=some none:=λ{j} w no=>by
  have hl:j<g.size:=by omega
  rw[Array.getElem?_eq_getElem hl]
  cases e:g[j] with
  |none=>rfl
  |some k=>show absurd #[k,by rw[Array.getElem?_eq_getElem hl,e]] no
 intro a
 induction a with
 |zero=>intro n B A;omega
 | succ a F=>
   intro n B A x
   let v:=KA m h n
   have G:runEnd m (rn m h n).1+1-(rn m h n).1=L m (rn m h n).1+1:=by unfold L runEnd;split <;>omega
   unfold layClean.free
   rw[G]
   cases e:(List.range (L m (rn m h n).1+1)).find? λk=>(g.getD ((rn m h n).1+k)<|some 0).isNone with
   | some r=>
     have u:r<=L m (rn m h n).1:=by have:=List.mem_range.mp (List.mem_of_find?_eq_some e);omega
     let t:=List.find?_some e
     have w:(rn m h n).1+r<=m:=Pz v u
     have hl:(rn m h n).1+r<g.size:=by omega
     show#[_,rfl,?_,n,r,u,rfl,x.1,λb o=>?_]
     · rw[Array.getElem?_eq_getElem hl]
       erw[Array.getD,hl,dif_pos] at t
       simpa using t
     · have f:=List.find?_range_eq_some.mp e
       let#[_,_,f]:=f
       let f:=f b o
       have i:(rn m h n).1+b<g.size:=by omega
       erw[Array.getD,i,dif_pos,Bool.not_eq_true',Option.isNone_eq_false_iff,Option.isSome_iff_exists] at f
       let#[k,s]:=f
       show#[k,by show g[(rn m h n).1+b]?=_;rw[Array.getElem?_eq_getElem i];show congrArg some s]
   | none=>
     have q:∀b,b<=L m (rn m h n).1->JN g (sl m h n b):=λb o=>by
       have:=List.find?_eq_none.mp e b (List.mem_range.mpr (!0))
       have w:(rn m h n).1+b<=m:=Pz v o
       have i:(rn m h n).1+b<g.size:=by omega
       erw[Array.getD,i,dif_pos,Bool.not_eq_true,Option.isNone_eq_false_iff,Option.isSome_iff_exists] at this
       let#[k,s]:=this
       show#[k,by show g[(rn m h n).1+b]?=_;rw[Array.getElem?_eq_getElem i];show congrArg some s]
     have H:n≠N:=λz=>by subst z;show C (q 0<|Nat.zero_le _)
     show F (n+1) (!0) (!0) #[λy b c d=>(Nat.lt_succ_iff_lt_or_eq.mp c).elim (λc=>x.1 y b c d) λe=>by subst e;show q b d,λb c=>absurd c<|Nat.not_lt_zero _]
def OI.step(u:m+1=2^k)(x:OI m l g)(hl:l.length<=m)(h:Int):∃j,layClean.free m g (turns m) (bits h%(m+1)) (bits h)=some j/\OI m (l++ [h]) (g.setIfInBounds j<|some l.length):=by
 let n:=(rV x).length_eq
 rw[lQm,QVq] at n
 let#[N,r,p]:=Dz (m:=m) h u (occ:=(slots m g).map (·.1)) (by rw[lQm,n];show hl)
 rw[lQm,n] at r
 have z:¬JN g (rn m h N).1:=λ⟨k,b⟩=>p (Qkq.mpr #[((rn m h N).1,k),(eL x).mpr b,rfl])
 let#[j,v,f,w]:=D7 x.sz z (turns m) 0 (Nat.zero_le _) (by unfold turns;omega) uP.zero
 show#[j,v,?_]
 have y:j<g.size:=(Array.getElem?_eq_some_iff.mp f).1
 have d:∀i,(g.setIfInBounds j<|some l.length)[i]?=if j=i then some (some l.length) else g[i]? :=λi=>by
  rw[Array.getElem?_setIfInBounds]
  by_cases c:j=i
  ·subst c;simp[y]
  ·simp[c]
 have o:∀i,JN g i->JN (g.setIfInBounds j<|some l.length) i:=λi s=>by
  let#[k,b]:=s
  show#[k,?_]
  rw[d,Quq]
  ·show b
  ·rintro rfl;rw[f] at b;cases b
 show#[by rw[Array.size_setIfInBounds];show x.sz,λk q b=>?_,λi A k a e=>?_,λi k a=>?_]
 ·by_cases c:k<l.length
  ·rw[QHq c] at b
   let#[i,a,t]:=x.fn k q b
   show#[i,?_,t.imp o]
   rw[d,Quq]
   ·show a
   ·rintro rfl;rw[f] at a;cases a
  ·rw[QQq (!0)] at b
   have:k-l.length=0:=by have:=(gQs.mp b).1;simp at this;omega
   rw[this] at b
   cases b
   have:k=l.length:=by omega
   subst this
   show#[j,by rw[d,Qhq rfl],w.imp o]
 ·rw[d] at a e
  split at a <;>split at e
  ·omega
  ·cases a;have:=x.lt _ _ e;omega
  ·cases e;have:=x.lt _ _ a;omega
  ·show x.inj _ _ _ a e
 ·rw[d] at a
  rw[lQa]
  split at a
  ·cases a;simp
  ·have:=x.lt _ _ a;simp;omega
def OI.nil:OI m [] (Array.replicate (m+1) none):=by
 show#[by simp,λk h e=>by simp at e,λj a k h _=>?_,λj k h=>?_]
 ·rw[Array.getElem?_replicate] at h;split at h <;>cases h
 ·rw[Array.getElem?_replicate] at h;split at h <;>cases h
noncomputable def Qd(m:Nat)(a:Option (Array (Option Nat)×Nat))(h:Int):Option (Array (Option Nat)×Nat):=do
 let (owner,k)<-a
 let j<-layClean.free m owner (turns m) (bits h%(m+1)) (bits h)
 pure (owner.setIfInBounds j<|some k,k+1)
theorem Cw(c:m+1=2^k):∀(more l:List Int) (g:Array (Option Nat)),OI m l g->l.length+more.length<=m+1->
  ∃a,more.foldl (Qd m) (some (g,l.length))=some (a,l.length+more.length)/\OI m (l++more) a
 | [],l,g,x,_=>#[g,rfl,by rw[List.append_nil];show x]
 | h::more,l,g,x,hl=>by
   rw[Qnq] at hl
   let#[j,e,y]:=x.step c (!0) h
   let#[a,b,z]:=Cw c more (l++ [h]) _ y (by rw[lQa];simp;omega)
   show#[a,?_,by rw[Qvq] at z;show z]
   have d:Qd m (some (g,l.length)) h=some (g.setIfInBounds j<|some l.length,l.length+1):=by simp[Qd,e]
   rw[List.foldl_cons,d]
   rw[lQa] at b
   erw[Qnq,QGq,Nat.zero_add] at b|-
   rw[b]
   congr 2
   omega
def HS(a:m+1=2^k)(l:Array Int)(hl:l.size<=m+1):∃g,layClean m l=some g/\OI m l.toList g:=by
 let#[g,e,x]:=Cw a l.toList [] _ OI.nil (by simpa using hl)
 show#[g,?_,by simpa using x]
 unfold layClean
 rw[<-Array.foldl_toList]
 show Option.map _ (l.toList.foldl (Qd m)<|some (Array.replicate (m+1) none,0))=_
 rw[show(some (Array.replicate (m+1) none,0):Option (Array (Option Nat)×Nat))=some (Array.replicate (m+1) none,([]:List Int).length) from rfl,e]
 rfl
theorem Aj:∀(b n a:Nat),(∃k,a=2^k/\3<=k)->n<a*2^b->a<=2*n+8->(∃k,sizeAbove.go n b a=2^k/\3<=k)/\n<sizeAbove.go n b a/\sizeAbove.go n b a<=2*n+8
 |0,n,a,h,lt,le=>#[h,by simpa [sizeAbove.go] using lt,le]
 | b+1,n,a,h,lt,le=>by
   unfold sizeAbove.go
   by_cases c:a<=n
   · rw[Qhq c]
     let#[k,rfl,hk]:=h
     show Aj b n _ #[k+1,by rw[Nat.pow_succ],by omega] ?_ (!0)
     rw[Nat.pow_succ] at lt
     rw[Nat.mul_assoc,Nat.mul_comm 2]
     show lt
   · rw[Quq c]
     show#[h,by omega,le]
def tR(a:n<2^64):(∃k,sizeAbove n=2^k/\3<=k)/\n<sizeAbove n/\sizeAbove n<=2*n+8:=by
 unfold sizeAbove
 show Aj 64 n 8 #[3,rfl,Qmq _] ?_ (!0)
 omega
def yz{t:SetTable}{es:Array (Int×Value)}(hw:es.size<=wanted)(A:wanted<2^64):∃(t':SetTable) (a:Array Nat),t.relaid (es.map (·.1)) wanted=some (t',a)/\t'.mask+1=sizeAbove wanted∧
  (a.filterMap (es[·]?)).size=es.size/\(a.filterMap (es[·]?)).toList.Perm es.toList/\TI t' (a.filterMap (es[·]?)):=by
 let#[#[k,P,W],Z,Y]:=tR A
 have I:sizeAbove wanted-1+1=2^k:=by rw[P];have:=Nat.two_pow_pos k;omega
 generalize z:sizeAbove wanted-1=m at I
 have F:(es.map (·.1)).size=es.size:=by simp
 let#[K,e,x]:=HS I (es.map (·.1)) (by rw[F];omega)
 have hl:((es.map (·.1)).toList).length=es.size:=by simp
 let c:=rV x
 rw[hl] at c
 let d:_:=slots m K
 let b:_:=(d.map (·.2)).toArray.filterMap (es[·]?)
 have o:d.length=es.size:=by have:=c.length_eq;simpa using this
 have w:∀i (f:i<d.length),b[i]?=es[(d[i]).2]? :=by
  have B:∀(l:List (Nat×Nat)),(∀p∈l,p.2<es.size)->∀i (f:i<l.length),((l.map (·.2)).filterMap (es[·]?))[i]?=es[(l[i]).2]? :=by
   intro l
   induction l with
   |nil=>intro _ i f;simp at f
   | cons p l X=>
     intro g i f
     let r:=g p (QBq ..)
     rw[QDq,List.filterMap_cons_some (Array.getElem?_eq_getElem r)]
     cases i with
     |zero=>simp[r]
     |succ i=>simpa using X (λq Q=>g q<|Qpq _ Q) i (by simpa using f)
  intro i f
  have:=B d (λp g=>by have:=x.lt _ _ ((eL x).mp g);rw[hl] at this;show this) i f
  simpa [b] using this
 have J:b.toList.Perm es.toList:=by
  have:=c.filterMap (es[·]?)
  rw[filterMap_getElem?_range] at this
  simpa [b] using this
 have n:b.size=es.size:=by have:=J.length_eq;simpa using this
 show#[{mask:=m,place:=(d.map (·.1)).toArray,dummies:= (List.toArray []),finger:=t.finger,led:=t.led,moves:=t.movedTo m,plain:=t.plain},(d.map (·.2)).toArray,?_,?_,n,J,?_]
 ·unfold relaid laid
  rw[z,e]
  rfl
 ·show m+1=_
  omega
 ·show#[#[k,I,by omega],rfl,?_,?_,?_,?_]
  ·show((d.map (·.1)).toArray.toList).Pairwise _
   show yJ m K
  ·show(d.map (·.1)).toArray.size=b.size
   rw[n,Qjq,lQm]
   show o
  ·show b.size<=m
   omega
  ·intro i h v j s u
   have u:(d.map (·.1))[i]?=some j:=by simpa using u
   rw[gQm] at u
   let#[p,g,rfl]:=oQm.mp u
   let#[f,y]:=gQs.mp g
   have s:b[i]?=some (h,v):=s
   rw[w i f,y] at s
   let#[N,H,S]:=x.fn p.2 h (by
    rw[Array.toList_map,gQm]
    have:es.toList[p.2]?=some (h,v):=by simpa using s
    rw[this]
    rfl)
   let G:=(eL x).mp (mQg g)
   have:N=p.1:=x.inj _ _ _ H G
   subst this
   show S.imp λM U=>?_
   let#[R,C]:=U
   show M∈((d.map (·.1)).toArray).toList
   show Qkq.mpr #[(M,R),(eL x).mpr C,rfl]
mutual
noncomputable def nu:Nat->PyData->Bool
 |_,.int _=>true
 |n+1,.tuple ps=>lR n ps
 |_,_=>false
noncomputable def lR:Nat->List PyData->Bool
 |_,[]=>true
 |n,p::ps=>nu n p&&lR n ps
end
mutual
noncomputable def xW:PyData->Int
 |.int i=>hashInt i
 |.tuple a=>reduceHash (Builtin.Tuple.tupleHashOf<|sT a)
 |_=>0
noncomputable def sT:List PyData->List Int
 | []=> []
 |p::ps=>xW p::sT ps
end
mutual
theorem HB:∀{n:Nat} {p q:PyData} {m:Nat},nu n p=true->nu m q=true->PyData.eqv p q=true->p=q
 |_,.int i,.int j,_,_,_,h=>by simp[PyData.eqv] at h;rw[h]
 | n+1,.tuple ps,.tuple qs,m+1,h1,h2,h=>by
   erw[nu] at h1 h2
   rw[PyData.eqv] at h
   rw[FK h1 h2 h]
 |_,.int i,.tuple qs,_,_,_,h=>by simp[PyData.eqv] at h
 |_,.tuple ps,.int j,_,_,_,h=>by simp[PyData.eqv] at h
 |_,.none,_,_,h,_,_=>by simp[nu] at h
 |_,.bool _,_,_,h,_,_=>by simp[nu] at h
 |_,.str _,_,_,h,_,_=>by simp[nu] at h
 |_,.list _,_,_,h,_,_=>by simp[nu] at h
 |_,.dict _,_,_,h,_,_=>by simp[nu] at h
 |_,_,.none,_,_,h,_=>by simp[nu] at h
 |_,_,.bool _,_,_,h,_=>by simp[nu] at h
 |_,_,.str _,_,_,h,_=>by simp[nu] at h
 |_,_,.list _,_,_,h,_=>by simp[nu] at h
 |_,_,.dict _,_,_,h,_=>by simp[nu] at h
 |0,.tuple _,_,_,h,_,_=>by simp[nu] at h
 |_,_,.tuple _,0,_,h,_=>by simp[nu] at h
theorem FK:∀{n:Nat} {ps a:List PyData} {m:Nat},lR n ps=true->lR m a=true->PyData.eqvAll ps a=true->ps=a
 |_,[],[],_,_,_,_=>rfl
 | _,p::ps,q::a,_,h1,h2,h=>by
   erw[lR,QCq] at h1 h2
   erw[PyData.eqvAll,QCq] at h
   rw[HB h1.1 h2.1 h.1,FK h1.2 h2.2 h.2]
 |_,[],_::_,_,_,_,h=>by simp[PyData.eqvAll] at h
 |_,_::_,[],_,_,_,h=>by simp[PyData.eqvAll] at h
end
mutual
theorem wm:∀{n:Nat} {p:PyData} {v:Xd} {as:X7} {A:X_} {E:X0} {s:X4} {Q:Int->Shared->Prop},Reads s.heap v p as->nu n p=true->A.units+n<cLine->(∀d,Q (xW p) {s with toks:=d})->wpAny (model prog w) A (pyHash v) Q E s
 |_,.int i,_,_,A,E,s,Q,.int _ t,_,_,q=>wpAny_pyHash_int (q _)
 | n+1,.tuple ps,_,_,A,E,s,Q,.tuple (a:=a) (o:=o) (vs:=vs) ho hc hd hi,hn,hu,q=>by
   have b:s.TypeIs (.ref a) "tuple":=#[o,ho,hc]
   unfold pyHash
   first|unfold pyHashByItsType|skip
   show Qaq<|wpAny_cRoomFor_or (.inr (!0))<|Qaq<|wpAny_specialOf b F.slot_tuple_hash.lookup ?_
   show wpAny _ _ (if (some (Value.builtin "tuple.__hash__")==some Value.none)=true then _ else _) Q E s
   rw[Quq (by rw[beq_builtin_none];show Qtq)]
   show Qaq<|wpAny_specialOf b F.slot_tuple_hash.lookup ?_
   show wpAny _ _ (callSpecialIfBoundUnlessNone? (.ref a) "__hash__" _ >>= _) Q E s
   show Qaq<|wpAny_callSpecialIfBoundUnlessNone?_slot b F.slot_tuple_hash<|wpAny_call_entry F.slot_tuple_hash b F.entry_tuple_hash ?_<|F.args_tuple_hash_1 _
   show wpAny _ _ (Builtin.Tuple.tupleItemsOf (.ref a) >>= _) _ _ s
   show Qaq<|wpAny_tupleItemsOf ho hd<|Qaq ?_
   rw[<-Array.forIn_toList]
   show ug (n:=n) (List.toArray []) hi hn (show A.in1.units+n<cLine from by have:A.in1.units=A.units+1:=rfl;omega) λd=>?_
   show wpAny _ _ (retInt<|Builtin.Tuple.tupleHashOf ((List.toArray [])++(sT ps).toArray).toList) _ _ _
   rw[show((List.toArray [])++(sT ps).toArray:Array Int).toList=sT ps by simp]
   show wpAny_ret_mkInt ?_
   let q:=q
   erw[xW] at q
   generalize Builtin.Tuple.tupleHashOf (sT ps)=z at q
   show wpAny _ _ (if (decide (-(2:Int)^63<=z)&&decide (z<2^63))=true then _ else _) Q E _
   unfold reduceHash at q
   by_cases c:(decide (-(2:Int)^63<=z)&&decide (z<2^63))=true
   · rw[Qhq c]
     rw[Qhq c] at q
     show Qgq<|q _
   · rw[Quq c]
     rw[Quq c] at q
     show Qaq<|wpAny_rule<|Qgq<|q _
 |_,.none,_,_,_,_,_,_,_,h,_,_=>by simp[nu] at h
 |_,.bool _,_,_,_,_,_,_,_,h,_,_=>by simp[nu] at h
 |_,.str _,_,_,_,_,_,_,_,h,_,_=>by simp[nu] at h
 |_,.list _,_,_,_,_,_,_,_,h,_,_=>by simp[nu] at h
 |_,.dict _,_,_,_,_,_,_,_,h,_,_=>by simp[nu] at h
 |0,.tuple _,_,_,_,_,_,_,_,h,_,_=>by simp[nu] at h
theorem ug:∀{n:Nat} {ps:List PyData} {vs:X5} {as:X7} {A:X_} {E:X0} {s:X4} {R:Array Int->Shared->Prop} (a:Array Int),ReadsAll s.heap vs ps as->lR n ps=true->A.units+n<cLine->(∀b,R (a++(sT ps).toArray) {s with toks:=b})->
  wpAny (model prog w) A (forIn vs a λx d=>do let h<-pyHash x;pure (ForInStep.yield<|d.push h)) R E s
 | _,[],_,_,A,E,s,R,a,.nil,_,_,q=>by
   rw[List.forIn_nil]
   have:=q s.toks
   simp[sT] at this
   show Qgq this
 | n,p::ps,_,_,A,E,s,R,a,.cons h d,hn,hu,q=>by
   erw[lR,QCq] at hn
   rw[List.forIn_cons]
   show Qaq<|Qaq (wm h hn.1 hu λb=>Qgq ?_)
   show ug (s:={s with toks:=b}) (a.push<|xW p) d hn.2 hu λc=>?_
   have:=q c
   erw[sT] at this
   rw[show a.push (xW p)++(sT ps).toArray=a++(xW p::sT ps).toArray by apply Array.toList_inj.mp;simp]
   show this
end
mutual
theorem tE:∀{n:Nat} {p:PyData} {v:Xd} {as:X7} {A:X_} {E:X0} {s:X4} {Q:Xf} {m:Nat},Reads s.heap v p as->nu n p=true->n<=m->Q true s->wpAny (model prog w) A (eqIsQuiet m v) Q E s
 |_,.int i,_,_,A,E,s,Q,m,.int _ t,_,_,q=>by rw[eqIsQuiet_byValue m rfl];show Qgq q
 | n+1,.tuple ps,_,_,A,E,s,Q,m+1,.tuple (a:=a) (o:=o) (vs:=vs) ho hc hd hi,hn,hm,q=>by
   have b:s.TypeIs (.ref a) "tuple":=#[o,ho,hc]
   unfold eqIsQuiet
   show Qaq<|wpAny_specialOf b F.slot_tuple_eq.lookup ?_
   show wpAny _ _ (isInstance (.ref a) (.type "tuple") >>= _) _ _ s
   show Qaq<|wpAny_isInstance b isSubtype_tuple_tuple ?_
   erw[Bool.not_true,Bool.false_eq_true,if_false]
   show Qaq<|wpAny_seqItems ho hd<|Qaq ?_
   show wpAny _ _ (forIn vs _ _) _ _ s
   rw[<-Array.forIn_toList]
   show rP (n:=n) hi hn (!0)<|Qgq q
 |n+1,.tuple _,_,_,_,_,_,_,0,_,_,hm,_=>absurd hm (Nat.not_succ_le_zero n)
 |_,.none,_,_,_,_,_,_,_,_,h,_,_=>by simp[nu] at h
 |_,.bool _,_,_,_,_,_,_,_,_,h,_,_=>by simp[nu] at h
 |_,.str _,_,_,_,_,_,_,_,_,h,_,_=>by simp[nu] at h
 |_,.list _,_,_,_,_,_,_,_,_,h,_,_=>by simp[nu] at h
 |_,.dict _,_,_,_,_,_,_,_,_,h,_,_=>by simp[nu] at h
 |0,.tuple _,_,_,_,_,_,_,_,_,h,_,_=>by simp[nu] at h
theorem rP:∀{n:Nat} {ps:List PyData} {vs:X5} {as:X7} {A:X_} {E:X0} {s:X4} {R:Option Bool×Unit->Shared->Prop} {m:Nat},ReadsAll s.heap vs ps as->lR n ps=true->n<=m->R (none,()) s->
  wpAny (model prog w) A (forIn vs (none,()) λy (r:Option Bool×Unit)=>do let b<-eqIsQuiet m y;if (!b)=true then pure (ForInStep.done (some false,())) else pure (ForInStep.yield (none,()))) R E s
 |_,[],_,_,A,E,s,R,_,.nil,_,_,q=>by rw[List.forIn_nil];show Qgq q
 | n,p::ps,_,_,A,E,s,R,m,.cons h hs,hn,hm,q=>by
   erw[lR,QCq] at hn
   rw[List.forIn_cons]
   show Qaq<|Qaq<|tE h hn.1 hm ?_
   erw[Bool.not_true,Bool.false_eq_true,if_false]
   show Qgq<|rP hs hn.2 hm q
end
mutual
theorem pU:∀{n:Nat} {p:PyData} {v:Xd} {as:X7} {A:X_} {E:X0} {s:X4} {Q:Xf} {m:Nat},Reads s.heap v p as->nu n p=true->n<=m->Q false s->wpAny (model prog w) A (ofAClassStatement m v) Q E s
 |_,.int i,_,_,A,E,s,Q,m,.int _ t,_,_,q=>by unfold ofAClassStatement;show Qgq q
 | n+1,.tuple ps,_,_,A,E,s,Q,m+1,.tuple (a:=a) (o:=o) (vs:=vs) ho hc hd hi,hn,hm,q=>by
   have b:s.TypeIs (.ref a) "tuple":=#[o,ho,hc]
   unfold ofAClassStatement
   show Qaq<|wpAny_typeOf b ?_
   dsimp only
   rw[Qhq (!1)]
   show Qaq<|Qgq ?_
   erw[Bool.not_true,Bool.false_eq_true,if_false]
   show Qaq<|wpAny_seqItems ho hd ?_
   dsimp only
   show Qaq ?_
   rw[<-Array.forIn_toList]
   show qA (n:=n) hi hn (!0)<|Qgq q
 |n+1,.tuple _,_,_,_,_,_,_,0,_,_,hm,_=>absurd hm (Nat.not_succ_le_zero n)
 |_,.none,_,_,_,_,_,_,_,_,h,_,_=>by simp[nu] at h
 |_,.bool _,_,_,_,_,_,_,_,_,h,_,_=>by simp[nu] at h
 |_,.str _,_,_,_,_,_,_,_,_,h,_,_=>by simp[nu] at h
 |_,.list _,_,_,_,_,_,_,_,_,h,_,_=>by simp[nu] at h
 |_,.dict _,_,_,_,_,_,_,_,_,h,_,_=>by simp[nu] at h
 |0,.tuple _,_,_,_,_,_,_,_,_,h,_,_=>by simp[nu] at h
theorem qA:∀{n:Nat} {ps:List PyData} {vs:X5} {as:X7} {A:X_} {E:X0} {s:X4} {R:Option Bool×Unit->Shared->Prop} {m:Nat},ReadsAll s.heap vs ps as->lR n ps=true->n<=m->R (none,()) s->
  wpAny (model prog w) A (forIn vs (none,()) λy (r:Option Bool×Unit)=>do let b<-ofAClassStatement m y;if b=true then pure (ForInStep.done (some true,())) else pure (ForInStep.yield (none,()))) R E s
 |_,[],_,_,A,E,s,R,_,.nil,_,_,q=>by rw[List.forIn_nil];show Qgq q
 | n,p::ps,_,_,A,E,s,R,m,.cons h hs,hn,hm,q=>by
   erw[lR,QCq] at hn
   rw[List.forIn_cons]
   show Qaq<|Qaq<|pU h hn.1 hm ?_
   erw[Bool.false_eq_true,if_false]
   show Qgq<|qA hs hn.2 hm q
end
mutual
theorem zE:∀{n:Nat} {p:PyData} {v:Xd} {as:X7} {A:X_} {E:X0} {s:X4} {Q:Xf} {m:Nat},Reads s.heap v p as->nu n p=true->n<=m->(∀b,Q b s)->wpAny (model prog w) A (hashByValue m v) Q E s
 |_,.int i,_,_,A,E,s,Q,m,.int _ t,_,_,q=>by unfold hashByValue;show Qgq (q _)
 | n+1,.tuple ps,_,_,A,E,s,Q,m+1,.tuple (a:=a) (o:=o) (vs:=vs) ho hc hd hi,hn,hm,q=>by
   have c:s.TypeIs (.ref a) "tuple":=#[o,ho,hc]
   unfold hashByValue
   show Qaq<|wpAny_specialOf c F.slot_tuple_hash.lookup ?_
   dsimp only
   show wpAny _ _ (seqItems? (.ref a) >>= _) _ _ s
   show Qaq<|wpAny_seqItems ho hd<|Qaq ?_
   show wpAny _ _ (forIn vs _ _) _ _ s
   rw[<-Array.forIn_toList]
   show rQ (n:=n) hi hn (!0) (Qgq<|q _)<|Qgq<|q _
 |n+1,.tuple _,_,_,_,_,_,_,0,_,_,hm,_=>absurd hm (Nat.not_succ_le_zero n)
 |_,.none,_,_,_,_,_,_,_,_,h,_,_=>by simp[nu] at h
 |_,.bool _,_,_,_,_,_,_,_,_,h,_,_=>by simp[nu] at h
 |_,.str _,_,_,_,_,_,_,_,_,h,_,_=>by simp[nu] at h
 |_,.list _,_,_,_,_,_,_,_,_,h,_,_=>by simp[nu] at h
 |_,.dict _,_,_,_,_,_,_,_,_,h,_,_=>by simp[nu] at h
 |0,.tuple _,_,_,_,_,_,_,_,_,h,_,_=>by simp[nu] at h
theorem rQ:∀{n:Nat} {ps:List PyData} {vs:X5} {as:X7} {A:X_} {E:X0} {s:X4} {R:Option Bool×Unit->Shared->Prop} {m:Nat},ReadsAll s.heap vs ps as->lR n ps=true->n<=m->R (none,()) s->R (some false,()) s->
  wpAny (model prog w) A (forIn vs (none,()) λy (r:Option Bool×Unit)=>do let b<-hashByValue m y;if (!b)=true then pure (ForInStep.done (some false,())) else pure (ForInStep.yield (none,()))) R E s
 |_,[],_,_,A,E,s,R,_,.nil,_,_,q,_=>by rw[List.forIn_nil];show Qgq q
 | n,p::ps,_,_,A,E,s,R,m,.cons h hs,hn,hm,q,q'=>by
   erw[lR,QCq] at hn
   rw[List.forIn_cons]
   show Qaq<|Qaq (zE h hn.1 hm λb=>?_)
   cases b with
   | true=>
     erw[Bool.not_true,Bool.false_eq_true,if_false]
     show Qgq<|rQ hs hn.2 hm q q'
   | false=>
     erw[Bool.not_false,if_true]
     show Qgq<|Qgq q'
end
def KB[Decidable c]{E:X0}(e:wpAny M A a Q E s)(d:wpAny M A b Q E s):wpAny M A (if c then a else b) Q E s:=by
 split
 ·show e
 ·show d
def Lj{E:X0}{s:X4}(f:Reads s.heap x p as)(e:nu 8 p=true):∀(l:X5) {Q:Xf},(∀y∈l,∃q bs,Reads s.heap y q bs/\nu 8 q=true)->Q false s->wpAny (model prog w) A (searchCouldBeSeen x l) Q E s:=by
 intro l Q hl q
 unfold searchCouldBeSeen
 show Qaq<|wpAny_forIn_list _ (λa (r:Option Bool×Unit) c=>r=(none,())/\c=s/\∀y∈a,∃q bs,Reads s.heap y q bs/\nu 8 q=true) _ ?_ ?_ _ _ #[rfl,rfl,hl]
 ·rintro y a r c ⟨rfl,rfl,hr⟩
  let#[i,bs,g,d]:=hr y (QBq ..)
  have b:∀y∈a,∃q bs,Reads c.heap y q bs/\nu 8 q=true:=λy h=>hr y (Qpq _ h)
  dsimp only
  show KB (Qgq ⟨rfl,rfl,b⟩) ?_
  ·show Qaq (tE f e (Qmq _) ?_)
   erw[Bool.not_true,Bool.false_eq_true,if_false]
   show Qaq<|tE g d (Qmq _) ?_
   erw[Bool.not_true,Bool.false_eq_true,if_false]
   show Qaq<|pU f e (Qmq _) ?_
   erw[Bool.false_eq_true,if_false]
   show Qaq<|pU g d (Qmq _) ?_
   erw[Bool.false_eq_true,if_false]
   show Qgq ⟨rfl,rfl,b⟩
 ·rintro r c ⟨rfl,rfl,_⟩
  show Qgq q
def qS{xs:Array α}(d:p<=xs.size)(i:Nat):(insertAt xs p x)[i]?=if i<p then xs[i]? else if i=p then some x else xs[i-1]? :=by
 rw[<-Array.getElem?_toList,SetTable.toList_insertAt]
 have hl:(xs.toList.take p).length=p:=by rw[Qxq,Array.length_toList];omega
 by_cases c:i<p
 ·rw[Qhq c,QHq (!0),List.getElem?_take_of_lt c,Array.getElem?_toList]
 ·rw[Quq c,QQq (!0),hl]
  by_cases a:i=p
  ·subst a;simp
  ·obtain⟨k,b⟩:∃k,i-p=k+1:=#[i-p-1,by omega]
   rw[Quq a,b,List.getElem?_cons_succ,List.getElem?_drop,Array.getElem?_toList]
   congr 1
   omega
def TI.put(T:TI t es)(S:j∉t.place.toList)(Q:JJ t.mask h (·∈t.place.toList) j)(q:es.size+1<=t.mask):
  TI (t.put j).1 (insertAt es (t.put j).2 (h,x))/\(t.put j).1.mask=t.mask/\(insertAt es (t.put j).2 (h,x)).size=es.size+1:=by
 let#[B,R,M]:=rF t.place j T.rise
 have N:(t.put j).2=below t.place j:=rfl
 have g:(t.put j).1.place=insertAt t.place (below t.place j) j:=rfl
 have u:(t.put j).1.dummies= (List.toArray []):=by
  show(if has t.dummies j then _ else t.dummies)= (List.toArray [])
  rw[T.dm]
  simp[has,below,below.go]
 have m:(t.put j).1.mask=t.mask:=rfl
 rw[N]
 have w:below t.place j<=es.size:=by rw[<-T.sz];show B
 have k:∀{I:Type} (r:Array I) (p:Nat) (y:I),(insertAt r p y).size=r.size+1:=λr p y=>by
  have:=(SetTable.insertAt_perm r p y).length_eq
  simpa using this
 have f:∀i,i∈t.place.toList->i∈(t.put j).1.place.toList:=λi o=>by
  rw[g]
  show(SetTable.insertAt_perm t.place _ j).mem_iff.mpr ?_
  rw[Array.toList_push]
  show mQa.mpr<|.inl o
 show#[#[T.pw,u,?_,?_,?_,?_],m,k ..]
 ·rw[g,SetTable.toList_insertAt]
  have z:∀a∈t.place.toList.take (below t.place j),a<j:=λa n=>by
   let#[i,o,e]:=QbQ n
   rw[Qxq] at o
   rw[List.getElem_take] at e
   show R i a (by rw[<-Array.getElem?_toList,gQe (!0),e]) (!0)
  have v:∀a∈t.place.toList.drop (below t.place j),j<a:=λa n=>by
   let#[i,o,e]:=QbQ n
   rw[List.length_drop] at o
   rw[List.getElem_drop] at e
   have:=M (below t.place j+i) a (by rw[<-Array.getElem?_toList,gQe (!0),e]) (!0)
   rcases Nat.lt_or_eq_of_le this with c|c
   ·show c
   ·show absurd (c▸List.mem_of_mem_drop n) S
  let H:=T.rise
  rw[<-List.take_append_drop (below t.place j) t.place.toList] at H
  let#[P,K,J]:=List.pairwise_append.mp H
  show List.pairwise_append.mpr #[P,List.pairwise_cons.mpr #[v,K],λa n b s=>?_]
  rcases Qsq.mp s with rfl|s
  ·show z a n
  ·show J a n b s
 ·rw[g,k,k,T.sz]
 ·rw[k,m];show q
 ·intro i F C A l d
  rw[m]
  rw[g,qS B] at d
  rw[qS w] at l
  by_cases c:i<below t.place j
  ·rw[Qhq c] at l d
   show(T.rch i F C A l d).imp f
  ·rw[Quq c] at l d
   by_cases G:i=below t.place j
   ·rw[Qhq G] at l d
    cases l
    cases d
    show Q.imp f
   ·rw[Quq G] at l d
    show(T.rch _ F C A l d).imp f
def cK(a:X8)(c:List (PyData×Addr))(h:Xe):Prop:=∃o b d t,h.get? a=some o/\o.ExactSet/\o.data=.set b d t/\TI t b/\b.size*5<t.mask*3/\b.toList.Perm (c.map λe=>(xW e.1,.ref e.2))
def cK.keep{h h':Xe}(x:cK a b h)(k:∀o,h.get? a=some o->h'.get? a=some o):cK a b h':=by
 let#[o,f,c,t,e,d]:=x
 show#[o,f,c,t,k o e,d]
def Mm(h:Xe)(a:List (PyData×Addr)):Prop:=∀e∈a,nu 8 e.1=true/\∃b,Reads h (.ref e.2) e.1 b
mutual
theorem mC:∀{n:Nat} {p:PyData},nu n p=true->p.canLay0=true/\p.depth<=n+1
 |_,.int _,_=>#[rfl,by simp[PyData.depth]]
 | n+1,.tuple ps,h=>by
   let#[a,b]:=DB (n:=n) (ps:=ps) h
   show#[a,by erw[PyData.depth];omega]
 |_,.none,h=>by simp[nu] at h
 |_,.bool _,h=>by simp[nu] at h
 |_,.str _,h=>by simp[nu] at h
 |_,.list _,h=>by simp[nu] at h
 |_,.dict _,h=>by simp[nu] at h
 |0,.tuple _,h=>by simp[nu] at h
theorem DB:∀{n:Nat} {ps:List PyData},lR n ps=true->PyData.canLayAll0 ps=true/\PyData.depthAll ps<=n+1
 |_,[],_=>#[rfl,by simp[PyData.depthAll]]
 | n,p::ps,h=>by
   erw[lR,QCq] at h
   let#[a,c]:=mC h.1
   let#[b,d]:=DB h.2
   show#[by erw[PyData.canLayAll0,QCq];show#[a,b],by erw[PyData.depthAll];omega]
end
def vw{A:X_}{E:X0}{s:X4}{c:List (PyData×Addr)}{Q:SetFound->Shared->Prop}(hu:A.units+16<cLine)(ho:s.heap.get? a=some o)(hd:o.data=.set es U t)(T:TI t es)(M:es.toList.Perm (c.map λe=>(xW e.1,.ref e.2)))(he:Mm s.heap c)(hl:c.length<=5000)
  (Y:Reads s.heap (.ref b) p as) (S:nu 8 p=true) (q1:(c.any λe=>PyData.eqv e.1 p)=true->∀f:Option Nat,(adding=false->f.isSome=true)->Q (.there f) s) (q2:(c.any λe=>PyData.eqv e.1 p)=false->∀j,j∉t.place.toList->JJ t.mask (xW p) (·∈t.place.toList) j->Q (.free j false) s):
  wpAny (model prog w) A (setSearch a (.ref b) (xW p) adding) Q E s:=by
 have a0:es.size=c.length:=by have:=M.length_eq;simpa using this
 let#[lp,dp]:=mC S
 let#[N,P,W]:=T.free (xW p)
 have d:∀{i:Nat} {h:Int} {v:Xd},es[i]?=some (h,v)->∃e∈c,h=xW e.1/\v=.ref e.2:=λ{i h v} k=>by
  have m:(h,v)∈es.toList:=by have:=Array.mem_of_getElem? k;simpa using this
  let#[e,he,l]:=Qkq.mp (M.mem_iff.mp m)
  cases l
  show#[e,he,rfl,rfl]
 have x:∀{e:PyData×Addr},e∈c->∃i:Nat,es[i]?=some (xW e.1,.ref e.2):=λ{e} he=>by
  let m:=M.mem_iff.mpr (Qkq.mpr #[e,he,rfl])
  let#[i,k,l]:=QbQ m
  show#[i,by rw[<-Array.getElem?_toList,gQe k,l]]
 let same:Nat->Bool:=λi=> @decide (∃e∈c,es[i]?=some (xW e.1,.ref e.2)/\PyData.eqv e.1 p=true) (Classical.propDecidable _)
 have g:∀{i:Nat} {h:Int} {e:PyData×Addr},e∈c->es[i]?=some (h,.ref e.2)->same i=PyData.eqv e.1 p:=λ{i h e} n k=>by
  cases l:PyData.eqv e.1 p with
  | true=>
    let#[G,C,F,r]:=d k
    show @Qeq _ (Classical.propDecidable _) #[e,n,?_,l]
    rw[k,F]
    congr 2
    let#[u,q,B]:=he e n
    let#[n2,K,H]:=he G C
    have r:e.2=G.2:=by injection r
    rw[<-r] at H
    rw[SeqAt.Reads.unique _ _ _ _ _ (mC u).1 B H]
  | false=>
    show @Qdq _ (Classical.propDecidable _) ?_
    rintro⟨G,C,F,r⟩
    rw[k] at F
    have h3:Value.ref e.2=Value.ref G.2:=by injection F with F;injection F
    let#[u,q,B]:=he e n
    let#[n2,K,H]:=he G C
    rw[<-h3] at H
    rw[SeqAt.Reads.unique _ _ _ _ _ (mC u).1 B H] at l
    rw[l] at r
    cases r
 unfold setSearch
 show zh T (λi h v k=>by let#[e,_,_,rfl]:=d k;show#[_,rfl]) ho hd (same:=same) P W (λQ' I=>?_) (λi v k Q' I=>?_) (λR f hf=>?_) (λJ j hj hr=>?_) 100000 0 0 none rfl (Nat.zero_le _) (!0) (!0) uP.zero
 ·show Lj Y S _ (λy hy=>?_) I
  let#[z,l,rfl]:=Qkq.mp hy
  have l:z∈es.toList:=by
   rw[Array.toList_filter] at l
   show(List.mem_filter.mp l).1
  let#[i,k,X]:=QbQ l
  let#[e,n,_,r]:=d (i:=i) (h:=z.1) (v:=z.2) (by rw[<-Array.getElem?_toList,gQe k,X])
  let#[u,q,B]:=he e n
  rw[r]
  show#[e.1,q,B,u]
 ·let#[e,n,_,rfl]:=d k
  let#[u,q,B]:=he e n
  rw[g n k] at I
  show SeqAt.eqBoolOverData _ _ _ _ _ _ _ _ _ _ _ _ B Y (mC u).1 lp (by have:=(mC u).2;omega) I
 ·show q1 ?_ f hf
  let#[i,v,k,Z]:=R
  let#[e,n,_,rfl]:=d k
  rw[g n k] at Z
  show List.any_eq_true.mpr #[e,n,Z]
 ·show q2 ?_ j hj hr
  rw[List.any_eq_false]
  intro e n l
  let U:=HB (he e n).1 S l
  let#[i,k]:=x n
  have:=J i _ (by rw[<-U];show k)
  rw[g n k] at this
  rw[l] at this
  cases this
def Aw{A:X_}{E:X0}{s:X4}{Q:Xf}(x:A.units+16<cLine)(z:cK a c s.heap)(he:Mm s.heap c)(hl:c.length<=5000)(l:Reads s.heap (.ref b) p as)(m:nu 8 p=true)(q:∀d,Q (c.any λe=>PyData.eqv e.1 p) {s with toks:=d}):
  wpAny (model prog w) A (setContains a<|.ref b) Q E s:=by
 let#[o,v,F,t,k,C,h,T,n,u]:=z
 unfold setContains
 show QLq<|Qaq (wm l m (!0) λd=>Qaq ?_)
 unfold setFind setFindIn
 show Qaq<|wpAny_setState_of (s:={s with toks:=d}) k h T.fits ?_
 dsimp only
 have r:byScan (Value.ref b) v=false:=by unfold byScan Value.scannable;simp
 rw[r]
 erw[Bool.false_eq_true,if_false]
 show Qaq (vw (s:={s with toks:=d}) x k h T u he hl l m (λf y g=>?_) λf j G B=>?_)
 ·cases y with
  |none=>show absurd (g rfl) (!1)
  | some i=>
    show Qgq<|Qgq ?_
    have:=q d
    rw[f] at this
    show this
 ·show Qgq (Qgq ?_)
  have:=q d
  rw[f] at this
  show this
def MS{A:X_}{E:X0}{s:X4}{Q:Xf}(hu:A.units+16<cLine)(Z:cK a c s.heap)(he:Mm s.heap c)(hl:c.length<=5000)(R:Reads s.heap (.ref b) p as)(S:nu 8 p=true)
  (q:∀h f h',Heap.SameBut a s.heap h'->cK a (if (c.any λe=>PyData.eqv e.1 p)=true then c else c++ [(p,b)]) h'->Q f {s with heap:=h',toks:=h}):
  wpAny (model prog w) A (setAdd a<|.ref b) Q E s:=by
 let I:=Z
 let#[o,es,n,t,z,hx,r,T,a0,K]:=Z
 have a4:es.size=c.length:=by have:=K.length_eq;simpa using this
 unfold setAdd
 show QLq<|Qaq (wm R S (!0) λh=>?_)
 unfold setAddHashed setAddHashedIn
 show QLq<|Qaq<|wpAny_setState_of (s:={s with toks:=h}) z r T.fits ?_
 dsimp only
 have hb:byScan (Value.ref b) es=false:=by unfold byScan Value.scannable;simp
 rw[hb]
 erw[Bool.false_eq_true,if_false]
 show Qaq (vw (s:={s with toks:=h}) (adding:=true) hu z r T K he hl R S (λJ o' _=>?_) λJ j hj hr=>?_)
 ·show Qgq ?_
  have:=q h false s.heap (Heap.SameBut.refl a s.heap)
  rw[J,Qhq rfl] at this
  show this I
 ·dsimp only
  show Qaq<|wpAny_setState_of (s:={s with toks:=h}) z r T.fits ?_
  dsimp only
  rw[J,Quq (!1)] at q
  let#[k,a2,a1]:=T.pw
  let#[l,Y,H]:=T.put (x:=Value.ref b) hj hr (!0)
  have M:(insertAt es (t.put j).2 (xW p,Value.ref b)).toList.Perm ((c++ [(p,b)]).map λe=>(xW e.1,Value.ref e.2)):=by
   show(SetTable.insertAt_perm es _ _).trans ?_
   rw[Array.toList_push,Qzq]
   show K.append_right _
  generalize (insertAt es (t.put j).2 (xW p,Value.ref b))=es1 at l H M|-
  generalize (t.put j).1=t1 at l Y|-
  have i:∀(d:SetTable),TI d es1->d.mask=t1.mask->wpAny (model prog w) A (do
    storeSet a es1 d
    if (!false&&d.tooFull)=true then do
     setRelay a (SetTable.grown (es.size+1))
     pure true
    else pure true) Q E {s with toks:=h}:=by
   intro d F m2
   show Qaq<|wpAny_storeSet_of (s:={s with toks:=h}) z r ?_ (by rw[H,sizeLine_eq];omega)
   have C:(s.heap.update a<|Obj.putSet es1 d).get? a=some {o with data:=.set es1 (n+1) d}:=by
    have:=Heap.get?_update_self (Obj.putSet es1 d) z (by rw[putSet_of es1 d r];rfl)
    rw[putSet_of es1 d r] at this
    show this
   have v:({o with data:=.set es1 (n+1) d}:Obj).ExactSet:=hx
   have B:Heap.SameBut a s.heap (s.heap.update a<|Obj.putSet es1 d):=Heap.SameBut.update _ a _
   have a5:t1.mask=t.mask:=Y
   cases hf:(!false&&d.tooFull) with
   | true=>
     rw[Qhq rfl]
     have P:SetTable.grown (es.size+1)=(es.size+1)*4:=by unfold SetTable.grown;rw[Quq (!0)]
     have u:(es.size+1)*4<2^64:=by omega
     let#[_,a3,a6]:=tR u
     show Qaq ?_
     rw[P]
     unfold setRelay
     show Qaq<|wpAny_setState_of (s:={s with toks:=h,heap:=s.heap.update a (Obj.putSet es1 d)}) C rfl F.fits ?_
     dsimp only
     rw[Quq (by rw[sizeLine_eq];omega)]
     let#[m,g,e1,e2,U,e4,W]:=yz (t:=d) (es:=es1) (wanted:=(es.size+1)*4) (!0) u
     show Qaq ?_
     rw[e1]
     have y:((g.filterMap (es1[·]?)).size !=es1.size)=false:=by rw[U];simp
     show(?_:wpAny (model prog w) A (do
       if ((g.filterMap (es1[·]?)).size !=es1.size)=true then unsupported "internal:set-table-lost-an-element"
       pure (g.filterMap (es1[·]?),m)) _ E _)
     rw[y]
     erw[Bool.false_eq_true,if_false]
     show Qgq ?_
     generalize (g.filterMap (es1[·]?))=es3 at U e4 W
     dsimp only
     show wpAny_storeSet_of (s:={s with toks:=h,heap:=s.heap.update a (Obj.putSet es1 d)}) C rfl ?_ (by rw[U,H,sizeLine_eq];omega)
     have G:((s.heap.update a<|Obj.putSet es1 d).update a (Obj.putSet es3 m)).get? a=some {o with data:=.set es3 (n+1+1) m}:=by
       have:=Heap.get?_update_self (Obj.putSet es3 m) C (by rw[putSet_of (o:={o with data:=.set es1 (n+1) d}) es3 m rfl];rfl)
       rw[putSet_of (o:={o with data:=.set es1 (n+1) d}) es3 m rfl] at this
       show this
     show Qgq<|q h true _ (B.trans<|Heap.SameBut.update _ a _) #[_,es3,n+1+1,m,G,v,rfl,W,by omega,e4.trans M]
   | false=>
     rw[Quq (!1)]
     show Qgq<|q h true _ B #[_,es1,n+1,d,C,v,rfl,F,?_,M]
     have:d.tooFull=false:=by simpa using hf
     unfold SetTable.tooFull SetTable.fill at this
     rw[F.dm] at this
     let h5:=F.sz
     simp at this
     omega
  have N:∀X:Bool,TI {t1 with plain:=X} es1:=λX=>#[l.pw,l.dm,l.rise,l.sz,l.room,l.rch]
  show KB ?_ ?_
  ·show Qaq (zE (s:={s with toks:=h}) R S (Qmq _) λbv=>?_)
   cases bv with
   |true=>show i t1 l rfl
   |false=>show i _ (N false) rfl
  ·show Qaq<|Qgq<|i t1 l rfl
def cK.typeIs{s:X4}(x:cK a c s.heap):s.TypeIs (.ref a) "set":=by
 let#[o,g,f,t,e,d,_]:=x
 show#[o,e,d.1]
def cK.noDict{s:X4}(x:cK a c s.heap):∀b,Value.ref a=.ref b->∃d,s.heap.get? b=some d/\d.dict=none:=λb e=>by
 let#[o,i,h,t,g,f,_]:=x
 cases e
 show#[o,g,f.2.1]
def Mg{A:X_}{E:X0}{s:X4}{Q:Xf}(i:A.units+32<cLine)(d:cK a c s.heap)(he:Mm s.heap c)(hl:c.length<=5000)(g:Reads s.heap (.ref b) p as)(h:nu 8 p=true)(q:∀f,Q (c.any λe=>PyData.eqv e.1 p) {s with toks:=f}):
  wpAny (model prog w) A (contains (.ref a)<|.ref b) Q E s:=by
 unfold contains
 try with_reducible show QLq ?_
 show Qaq<|wpAny_specialOf d.typeIs F.slot_set_contains.lookup ?_
 show wpAny _ _ (if (some (Value.builtin "set.__contains__")==some Value.none)=true then _ else _) _ E s
 rw[Quq (by rw[beq_builtin_none];show Qtq)]
 show Qaq<|wpAny_callSpecialUnlessNone?_slot (name:=Str.ofString "__contains__") d.typeIs F.slot_set_contains<|wpAny_call_entry F.slot_set_contains d.typeIs entry_set_contains ?_<|F.args_set_contains_2 _ _
 unfold Builtin.«frozenset.__contains__» Builtin.Frozenset.oneOther
 erw[List.isEmpty_nil,bind_assoc]
 unfold Builtin.Frozenset.addrOf Builtin.Frozenset.withSetAsKey
 show Qaq<|Qgq ?_
 try dsimp only
 show Qaq<|Qgq ?_
 try dsimp only
 show Qaq<|wpAny_tryCatch (Aw (show A.in1.units+16<cLine from by have:A.in1.units=A.units+1:=rfl;omega) d he hl g h λf=>?_)
 show wpAny _ _ (ret<|Value.bool _) _ _ _
 show Qgq #[_,rfl,wpAny_truthy_bool<|q f]
def G0{A:X_}{E:X0}{s:X4}{Q:X0}(g:A.units+32<cLine)(f:cK a c s.heap)(he:Mm s.heap c)(hl:c.length<=5000)(h:Reads s.heap (.ref b) p as)(i:nu 8 p=true)(q:∀d,Q (.bool (!c.any λe=>PyData.eqv e.1 p)) {s with toks:=d}):
  wpAny (model prog w) A (compareOp .NotIn (.ref b)<|.ref a) Q E s:=by
 show wpAny _ _ (do return .bool (!(<-contains (.ref a) (.ref b)))) Q E s
 show Qaq (Mg g f he hl h i λd=>Qgq<|q d)
def JV{A:X_}{E:X0}{s:X4}{Q:X0}(l:A.units+32<cLine)(h:cK a c s.heap)(he:Mm s.heap c)(hl:c.length<=5000)(i:Reads s.heap (.ref b) p as)(k:nu 8 p=true)
  (q:∀d h',Heap.SameBut a s.heap h'->cK a (if (c.any λe=>PyData.eqv e.1 p)=true then c else c++ [(p,b)]) h'->Q .none {s with heap:=h',toks:=d}):
  wpAny (model prog w) A (call (.builtin "set.add") [.ref a,.ref b]) Q E s:=by
 show wpAny_call_entry F.slot_set_add h.typeIs F.entry_set_add ?_<|F.args_set_add_2 _ _
 unfold Builtin.«set.add» Builtin.Frozenset.oneOther
 erw[List.isEmpty_nil,bind_assoc]
 unfold Builtin.Frozenset.addrOf
 show Qaq<|Qgq ?_
 try dsimp only
 show Qaq<|Qgq ?_
 try dsimp only
 show Qaq (MS (show A.in1.units+16<cLine from by have:A.in1.units=A.units+1:=rfl;omega) h he hl i k λd f h' j g=>?_)
 show wpAny _ _ (ret Value.none) _ _ _
 show Qgq #[_,rfl,q d h' j g]
def IB{E:X0}{s:X4}{Q:X0}(q:∀h':Heap,(∀b o,s.heap.get? b=some o->h'.get? b=some o)->cK s.heap.objs.size [] h'->Q (.ref s.heap.objs.size) {s with heap:=h'}):wpAny (model prog w) A (call (.type "set") []) Q E s:=by
 show call_set_0 λd=>?_
 show q _ (λb o e=>Qcq _ e) #[_,(List.toArray []),0,.fresh 0 0 d,Qrq _ rfl,#[rfl,rfl,rfl],rfl,#[#[3,rfl,by decide],rfl,by simp[SetTable.fresh],rfl,Nat.zero_le _,λi h v j e=>by simp at e],by show 0<7*3;decide,by simp]
end ST
namespace DL
open PyProof.Rows L2
inductive D where
 |non|bl (b:Bool)|int (i:Int)|str (x:Str)|tup (xs:List D)|ref (k:Nat)|fn (x:Str)
inductive O where
 |lst (xs:List D)|frz (xs:List D)|dct (kvs:List (Key×D))|sett (xs:List D)
abbrev az:=List O
mutual
noncomputable def fj:D->Option PyData
 |.int i=>some (.int i)
 |.tup a=>(dH a).map .tuple
 |_=>none
noncomputable def dH:List D->Option (List PyData)
 | []=>some []
 |d::ds=>(fj d).bind λp=>(dH ds).map (p::·)
end
abbrev cf:=List (Option D)
structure Md where
 K:PySem.W.Frag
 mg:Str->Option Value
mutual
inductive Rel(M:Md)(ρ:X7)(H:Hp):D->V->Prop
 |non:Rel M ρ H .non .non
 |bl (b:Bool):Rel M ρ H (.bl b) (.bl b)
 |int (i:Int):Rel M ρ H (.int i) (.int i)
 |str (x:Str):Rel M ρ H (.str x) (.str x)
 |tup {a:X8} {vs:List V} {ds:List D}:H a=some (.tup vs)->aO M ρ H ds vs->Rel M ρ H (.tup ds) (.ref a)
 |ref {k:Nat} {a:X8}:ρ[k]?=some a->Rel M ρ H (.ref k) (.ref a)
 |fn {x:Str} {a:X8}:M.mg x=some (.ref a)->Rel M ρ H (.fn x) (.ref a)
inductive aO(M:Md)(ρ:X7)(H:Hp):List D->List V->Prop
 |nil:aO M ρ H [] []
 |cons {d:D} {v:V} {ds:List D} {vs:List V}:Rel M ρ H d v->aO M ρ H ds vs->aO M ρ H (d::ds) (v::vs)
end
def Qt:HO->Prop
 |.tup _=>True
 |.frz _ _=>True
 |_=>False
structure bB(ρ:X7)(H:Hp)(g:X7)(s:Hp):Prop where
 pre:ρ <+: g
 new:∀a∈g,a∈ρ\/H a=none
 keep:∀a o,H a=some o->a∉ρ\/Qt o->s a=some o
 grow:∀a,s a=none->H a=none
def bB.refl:bB ρ H ρ H:=#[List.prefix_refl _,λ_ h=>.inl h,λ_ _ h _=>h,λ_ h=>h]
def bB.trans{H1 H2:Hp}(e:bB ρ H b H1)(f:bB b H1 d H2):bB ρ H d H2 where
 pre:=e.pre.trans f.pre
 new:=λa h=>(f.new a h).elim (λh=>e.new a h) λh=>.inr (e.grow a h)
 keep:=λa o h c=>f.keep a o (e.keep a o h c) (c.imp (λn m=>(e.new a m).elim n λz=>by rw[z] at h;cases h) id)
 grow:=λa h=>e.grow a (f.grow a h)
def bB.laid{H:Hp}(h:H a=none):bB ρ H ρ (upd H a o) where
 pre:=List.prefix_refl _
 new:=λ_ h=>.inl h
 keep:=λb c e _=>by rw[aM];show e;intro z;subst z;rw[h] at e;cases e
 grow:=λb e=>by
  by_cases z:b=a
  ·subst z;show h
  ·rw[aM z] at e;show e
theorem i3:∀{l:List α},l.Nodup->∀{i j:Nat} {a:α},l[i]?=some a->l[j]?=some a->i=j
 | [],_,_,_,_,h,_=>by simp at h
 |x::l,n,0,0,_,_,_=>rfl
 | x::l,n,0,j+1,a,h1,h2=>by
   rw[List.nodup_cons] at n
   simp at h1 h2
   subst h1
   show absurd (mQg h2) n.1
 | x::l,n,i+1,0,a,h1,h2=>by
   rw[List.nodup_cons] at n
   simp at h1 h2
   subst h2
   show absurd (mQg h1) n.1
 | x::l,n,i+1,j+1,a,h1,h2=>by
   rw[List.nodup_cons] at n
   simp at h1 h2
   show congrArg (·+1)<|i3 n.2 h1 h2
def bN(h:some (a,b)=some (c,d)):a=c/\b=d:=by cases h;show#[L,L]
def cn{α:Type}{l b:List α}(h:l <+: b){k:Nat}{a:α}(e:l[k]?=some a):b[k]?=some a:=by
 let#[t,rfl]:=h
 rw[QHq (gQs.mp e).1]
 show e
mutual
theorem Rel.ext(e:bB ρ H g s):∀{d:D} {v:V},Rel M ρ H d v->Rel M g s d v
 |_,_,.non=>.non
 |_,_,.bl b=>.bl b
 |_,_,.int i=>.int i
 |_,_,.str x=>.str x
 |_,_,.tup h hs=>.tup (e.keep _ _ h<|.inr trivial) (aO.ext e hs)
 |_,_,.ref h=>.ref (cn e.pre h)
 |_,_,.fn h=>.fn h
theorem aO.ext(e:bB ρ H g s):∀{ds:List D} {vs:List V},aO M ρ H ds vs->aO M g s ds vs
 |_,_,.nil=>.nil
 |_,_,.cons h hs=>.cons (Rel.ext e h) (aO.ext e hs)
end
mutual
theorem Rel.pre(e:ρ <+: g):∀{d:D} {v:V},Rel M ρ H d v->Rel M g H d v
 |_,_,.non=>.non
 |_,_,.bl b=>.bl b
 |_,_,.int i=>.int i
 |_,_,.str x=>.str x
 |_,_,.tup h hs=>.tup h (aO.pre e hs)
 |_,_,.ref h=>.ref (cn e h)
 |_,_,.fn h=>.fn h
theorem aO.pre(e:ρ <+: g):∀{ds:List D} {vs:List V},aO M ρ H ds vs->aO M g H ds vs
 |_,_,.nil=>.nil
 |_,_,.cons h hs=>.cons (Rel.pre e h) (aO.pre e hs)
end
theorem aO.length:∀{ds:List D} {vs:List V},aO M ρ H ds vs->ds.length=vs.length
 |_,_,.nil=>rfl
 |_,_,.cons _ h=>congrArg (·+1) h.length
theorem aO.append:∀{ds es:List D} {vs ws:List V},aO M ρ H ds vs->aO M ρ H es ws->aO M ρ H (ds++es) (vs++ws)
 |_,_,_,_,.nil,h=>h
 |_,_,_,_,.cons h hs,h'=>.cons h (hs.append h')
theorem aO.get:∀{ds:List D} {vs:List V} {i:Nat} {d:D},aO M ρ H ds vs->ds[i]?=some d->∃v,vs[i]?=some v/\Rel M ρ H d v
 |_,_,0,_,.cons h _,e=>by cases e;show#[_,L,h]
 |_,_,i+1,_,.cons _ hs,e=>hs.get (i:=i) (by simpa using e)
 |_,_,_,_,.nil,e=>by simp at e
theorem aO.set(h:Rel M ρ H d v):∀{ds:List D} {vs:List V} (i:Nat),aO M ρ H ds vs->aO M ρ H (ds.set i d) (vs.set i v)
 |_,_,_,.nil=>.nil
 |_,_,0,.cons _ t=>.cons h t
 |_,_,i+1,.cons q t=>.cons q (aO.set h i t)
theorem aO.take:∀{ds:List D} {vs:List V} (n:Nat),aO M ρ H ds vs->aO M ρ H (ds.take n) (vs.take n)
 |_,_,0,_=>.nil
 |_,_,_+1,.nil=>.nil
 |_,_,n+1,.cons h hs=>.cons h (hs.take n)
theorem aO.drop:∀{ds:List D} {vs:List V} (n:Nat),aO M ρ H ds vs->aO M ρ H (ds.drop n) (vs.drop n)
 |_,_,0,h=>h
 |_,_,_+1,.nil=>.nil
 |_,_,n+1,.cons _ hs=>hs.drop n
theorem aO.rep(h:aO M ρ H ds vs):∀k:Nat,aO M ρ H (List.replicate k ds).flatten (List.replicate k vs).flatten
 |0=>.nil
 |k+1=>by rw[QNq,QNq,List.flatten_cons,List.flatten_cons];show h.append (h.rep k)
def bM(M:Md)(ρ:X7)(H:Hp):List (Key×D)->List (Key×V)->Prop
 | [],kv=>kv= []
 |(k,d)::r,kv=>∃v t,kv=(k,v)::t/\Rel M ρ H d v/\bM M ρ H r t
theorem bM.imp(f:∀d v,Rel M ρ H d v->Rel M g s d v):∀{l:List (Key×D)} {kv:List (Key×V)},bM M ρ H l kv->bM M g s l kv
 | [],_,h=>h
 |(_,_)::_,_,#[v,t,e,h,hs]=>#[v,t,e,f _ _ h,bM.imp f hs]
theorem bM.length:∀{l:List (Key×D)} {kv:List (Key×V)},bM M ρ H l kv->l.length=kv.length
 | [],_,h=>by cases h;rfl
 |(_,_)::_,_,#[v,t,e,h,hs]=>by subst e;show congrArg (·+1) hs.length
def nX(M:Md)(ρ:X7)(H:Hp)(a:X8):O->Prop
 |.lst b=>∃c,H a=some (.lst c)/\aO M ρ H b c
 |.frz b=>∃c o,H a=some (.frz o (.lst c))/\aO M ρ H b c
 |.dct d=>∃f,H a=some (.dK f)/\bM M ρ H d f
 |.sett b=>∃(h:X7) (e:List PyData),H a=some (.ext (ST.cK a<|List.zip e h))/\aO M ρ H b (h.map V.ref)/\dH b=some e/\ST.lR 8 e=true
structure fg(M:Md)(ρ:X7)(S:az)(H:Hp):Prop where
 len:ρ.length=S.length
 nd:ρ.Nodup
 obj:∀(k:Nat) (a:X8) (o:O),ρ[k]?=some a->S[k]?=some o->nX M ρ H a o
def nX.lay(h:nX M ρ H a o)(j:H b=none):nX M ρ (upd H b u) a o:=by
 have e:bB ρ H ρ (upd H b u):=bB.laid j
 have f:∀{x},H a=some x->upd H b u a=some x:=λ{x} h=>by rw[aM];show h;intro z;subst z;rw[j] at h;cases h
 cases o with
 |lst k=>let#[i,d,c]:=h;show#[i,f d,c.ext e]
 |frz k=>let#[i,o,d,c]:=h;show#[i,o,f d,c.ext e]
 |dct l=>let#[q,d,c]:=h;show#[q,f d,c.imp λ_ _ r=>r.ext e]
 |sett k=>let#[m,n,d,c,p]:=h;show#[m,n,f d,c.ext e,p]
def fg.lay(h:fg M ρ S H)(e:H b=none):fg M ρ S (upd H b u):=#[h.len,h.nd,λk a o d c=>(h.obj k a o d c).lay e]
theorem nX.pre(e:ρ <+: g)(h:nX M ρ H a o):nX M g H a o:=by
 cases o with
 |lst f=>let#[d,c,b]:=h;show#[d,c,b.pre e]
 |frz f=>let#[d,o,c,b]:=h;show#[d,o,c,b.pre e]
 |dct i=>let#[j,c,b]:=h;show#[j,c,b.imp λ_ _ r=>r.pre e]
 |sett f=>let#[m,k,c,b,l]:=h;show#[m,k,c,b.pre e,l]
def fg.box(h:fg M ρ S H)(m:a∉ρ)(i:nX M (ρ++ [a]) H a o):fg M (ρ++ [a]) (S++ [o]) H where
 len:=by rw[lQa,lQa,h.len];rfl
 nd:=by rw[List.nodup_append];show#[h.nd,by simp,λx l y f=>by rw[Qfq] at f;subst f;show λz=>m (z▸l)]
 obj:=λk b u d e=>by
  by_cases c:k<ρ.length
  ·rw[QHq c] at d
   rw[QHq (h.len▸c)] at e
   show(h.obj k b u d e).pre (List.prefix_append _ _)
  ·have c:ρ.length<=k:=Nat.le_of_not_lt c
   rw[QQq c] at d
   rw[QQq (h.len▸c)] at e
   have z:k-ρ.length=0:=by
    have:=(gQs.mp d).1
    simp at this
    omega
   have j:k-S.length=0:=by rw[<-h.len];show z
   rw[z] at d
   rw[j] at e
   cases d
   cases e
   show i
def fg.put(h:fg M ρ S H)(t:ρ[k]?=some a)(P:S[k]?=some o)(Q:nX M ρ (upd H a u) a o')(J:∀x,H a=some x->¬Qt x):fg M ρ (S.set k o') (upd H a u)/\bB ρ H ρ (upd H a u):=by
 have N:a∈ρ:=mQg t
 have e:bB ρ H ρ (upd H a u):=by
  show#[List.prefix_refl _,λ_ h=>.inl h,λb x A c=>?_,λb m=>?_]
  ·rw[aM]
   ·show A
   ·intro z
    subst z
    show c.elim (λn=>n N) λU=>J _ A U
  ·by_cases z:b=a
   ·subst z;rw[aR] at m;cases m
   ·rw[aM z] at m;show m
 show#[#[by rw[List.length_set];show h.len,h.nd,λj b p i l=>?_],e]
 by_cases c:j=k
 ·subst c
  rw[t] at i
  cases i
  rw[Qyq (gQs.mp P).1] at l
  cases l
  show Q
 ·rw[QKq (Ne.symm c)] at l
  have v:b≠a:=by
   intro z
   subst z
   let B:=(gQs.mp i)
   let C:=(gQs.mp t)
   let#[B,X]:=B
   let#[C,W]:=C
   show c<|i3 h.nd i t
  let q:=h.obj j b p i l
  cases p with
  |lst y=>let#[w,d,f]:=q;show#[w,by rw[aM v];show d,f.ext e]
  |frz y=>let#[w,o,d,f]:=q;show#[w,o,by rw[aM v];show d,f.ext e]
  |dct F=>let#[R,d,f]:=q;show#[R,by rw[aM v];show d,f.imp λ_ _ r=>r.ext e]
  |sett y=>let#[G,I,d,f,K]:=q;show#[G,I,by rw[aM v];show d,f.ext e,K]
structure En(M:Md)(ρ:X7)(H:Hp)(Γ:cf)(σ:L2.St):Prop where
 len:σ.length=Γ.length
 get:∀(i:Nat) (d:D),Γ[i]?=some (some d)->∃v,σ[i]?=some (some v)/\Rel M ρ H d v
def En.ext(h:En M ρ H c σ)(e:bB ρ H a b):En M a b c σ:=#[h.len,λi d q=>by let#[v,g,f]:=h.get i d q;show#[v,g,f.ext e]]
def En.set(h:En M ρ H a σ)(r:Rel M ρ H d v):En M ρ H (a.set i<|some d) (σ.set i<|some v) where
 len:=by rw[List.length_set,List.length_set];show h.len
 get:=λj e q=>by
  by_cases c:i=j
  ·subst c
   have l:i<a.length:=by
    have:=(gQs.mp q).1
    rwa [List.length_set] at this
   rw[Qyq l] at q
   cases q
   show#[v,Qyq (h.len▸l),r]
  ·rw[QKq c] at q|-
   show h.get j e q
structure Ok(M:Md)(ρ:X7)(Γ:cf)(S:az)(σ:L2.St)(H:Hp):Prop where
 en:En M ρ H Γ σ
 st:fg M ρ S H
def Ok.to(h:Ok M ρ d S σ H)(e:bB ρ H a b)(s:fg M a c b):Ok M a d c σ b:=#[h.en.ext e,s]
abbrev aU:=cf->az->Option (D×az)
abbrev fI:=cf->az->Option (List D×az)
abbrev iH:=cf->az->Option (Bool×az)
def tD(M:Md)(f:aU):TE:=λh H Q=>∃e g S d c,Ok M e g S h H/\f g S=some (d,c)/\∀a v b,bB e H a b->fg M a c b->Rel M a b d v->Q v b
def tL(M:Md)(f:fI):TE:=λj H Q=>∃g h S i d,Ok M g h S j H/\f h S=some (i,d)∧
 ∀b a e c,bB g H b c->fg M b d c->H a=none->a∉b->c a=some (.lst e)->aO M b c i e->Q (.ref a) c
def y2(M:Md)(f:fI):TA:=λi H Q=>∃e g S h c,Ok M e g S i H/\f g S=some (h,c)/\∀a d b,bB e H a b->fg M a c b->aO M a b h d->Q d b
def tB(M:Md)(f:iH):TT:=λh H Q=>∃e g S b d,Ok M e g S h H/\f g S=some (b,d)/\∀a c,bB e H a c->fg M a d c->Q b c
noncomputable abbrev md(X:Cx):Md:=#[X.K,X.mg]
def jl{t t':TE}(h:PE X e t)(w:∀σ H Q,t' σ H Q->t σ H Q):PE X e t':=λa s σ H Q I q=>h a s σ H Q I (w _ _ _ q)
def P5{t t':TT}(h:PT X e t)(w:∀σ H Q,t' σ H Q->t σ H Q):PT X e t':=λa s σ H Q I q=>h a s σ H Q I (w _ _ _ q)
def RQ{t t':TT}(h:PW X e t)(w:∀σ H Q,t' σ H Q->t σ H Q):PW X e t':=λb a s σ H Q I q=>h b a s σ H Q I (w _ _ _ q)
def RP{t t':TA}(h:PA X es t)(w:∀σ H Q,t' σ H Q->t σ H Q):PA X es t':=λb a s σ H Q I q=>h b a s σ H Q I (w _ _ _ q)
def Dc{t t':TS}(h:PS X e t)(w:∀D σ H,t' D σ H->t D σ H):PS X e t':=λa s σ H D I q=>h a s σ H D I (w _ _ _ q)
def Pv{t t':TS}(h:qR X e t)(w:∀D σ H,t' D σ H->t D σ H):qR X e t':=λa s σ H D I q=>h a s σ H D I (w _ _ _ q)
noncomputable def ar(i:Nat):aU:=λa S=>match a[i]? with
 |some (some d)=>some (d,S)
 |_=>none
def EE(h:ar i b S=some (d,a)):b[i]?=some (some d)/\a=S:=by
 unfold ar at h
 split at h
 ·cases h;show#[by assumption,L]
 ·cases h
def NG(h:PE X e (Lu i)):PE X e (tD (md X)<|ar i):=jl h λl H Q b=>by
 let#[c,k,S,d,j,ok,e,q]:=b
 let#[a,rfl]:=EE e
 let#[v,g,f]:=ok.en.get i d a
 show#[v,g,q c v H bB.refl ok.st f]
noncomputable def cF(d:D):aU:=λ_ S=>some (d,S)
def lG(h:PE X e (tC v))(r:∀ρ H,Rel (md X) ρ H d v):PE X e (tD (md X)<|cF d):=jl h λg H Q a=>by
 let#[ρ,f,S,c,b,ok,e,q]:=a
 cases e
 show q ρ v H bB.refl ok.st<|r _ _
def vV{i:Int}{j pos}:PE X (.Constant (.int i) j pos) (tD (md X)<|cF<|.int i):=lG Lq λ_ _=>.int i
def Sk{b:Bool}{j pos}:PE X (.Constant (.bool b) j pos) (tD (md X)<|cF<|.bl b):=lG Ov λ_ _=>.bl b
def KD{j pos}:PE X (.Constant .none j pos) (tD (md X)<|cF .non):=lG LP λ_ _=>.non
def RY{x:Str}{j pos}:PE X (.Constant (.str x) j pos) (tD (md X)<|cF<|.str x):=lG Mr λ_ _=>.str x
noncomputable def eR(f:fI):aU:=λb S=>(f b S).bind λ(c,a)=>some (.ref a.length,a++ [.lst c])
def K1(h:PE X e (tL (md X) f)):PE X e (tD (md X)<|eR f):=jl h λz H Q t=>by
 let#[u,k,S,d,A,ok,e,q]:=t
 unfold eR at e
 cases j:f k S with
 |none=>rw[j] at e;cases e
 | some p=>
   let#[n,w]:=p
   rw[j] at e
   let#[rfl,rfl]:=bN e
   show#[u,k,S,n,w,ok,j,λg a m y x l o s v r=>?_]
   let i:=r.pre (List.prefix_append g [a])
   show q (g++ [a]) (.ref a) y #[x.pre.trans<|List.prefix_append _ _,λb c=>?_,x.keep,x.grow] (l.box s #[m,v,i])<|.ref ?_
   · rcases mQa.mp c with c|c
     · show x.new b c
     · rw[Qfq] at c;subst c;show .inr o
   · rw[<-l.len,QQq (Qmq _)]
     simp
noncomputable def ax:fI:=λ_ S=>some ([],S)
noncomputable def aw(f:aU)(g:fI):fI:=λa S=>(f a S).bind λ(d,c)=>(g a c).bind λ(e,b)=>some (d::e,b)
def aq{o:Option α}(h:o.bind f=some b):∃a,o=some a/\f a=some b:=by
 cases o with
 |none=>cases h
 |some a=>show#[a,L,h]
def jV:PA X [] (y2 (md X) ax):=RP de λg H Q a=>by
 let#[b,f,S,d,c,ok,e,q]:=a
 cases e
 show q b [] H bB.refl ok.st .nil
def cN(A:PE X e (tD (md X) f))(t:PA X es (y2 (md X) g))(w:autoParam (starEach (e::es) X.env=(false,eval e X.env)::starEach es X.env) db._auto_1):PA X (e::es) (y2 (md X)<|aw f g):=
 RP (bJ A t w) λB H Q r=>by
  let#[s,i,S,d,C,ok,e,q]:=r
  let#[#[x,k],z,e]:=aq e
  let#[#[u,p],o,e]:=aq e
  let#[rfl,rfl]:=bN e
  show#[s,i,S,x,k,ok,z,λh v H1 l a m=>#[h,i,k,u,p,ok.to l a,o,λb n H2 j c y=>?_]]
  show q b (v::n) H2 (l.trans j) c<|.cons (m.ext j) y
noncomputable def bc(f:fI):aU:=λc S=>(f c S).bind λ(a,b)=>if a.length<=sizeLine then some (.tup a,b) else none
def Gv{es:List Expr}{f:fI}{k pos}(h:PA X es (y2 (md X) f)):PE X (.Tuple es k pos) (tD (md X)<|bc f):=jl (Gb h) λu H Q l=>by
 let#[m,n,S,d,v,ok,e,q]:=l
 let#[#[j,r],o,e]:=aq e
 dsimp only at e
 split at e
 ·rename_i c
  let#[rfl,rfl]:=bN e
  show#[m,n,S,j,r,ok,o,λb t H1 s a i=>#[i.length▸c,λp g=>?_]]
  show q b (.ref p) _ (s.trans<|bB.laid g) (a.lay g)<|.tup aR (i.ext<|bB.laid g)
 ·cases e
noncomputable def ft(f:fI):fI:=λc S=>(f c S).bind λ(a,b)=>if a.length<=sizeLine then some (a,b) else none
def cD(x:bB ρ H a d)(st:fg M a S d)(b:d p=none):p∉a:=λm=>by
 let#[k,f]:=List.getElem?_of_mem m
 have l:k<S.length:=st.len▸(gQs.mp f).1
 have:=st.obj k p _ f (gQe l)
 cases e:S[k] with
 |lst c=>rw[e] at this;let#[g,h,_]:=this;rw[b] at h;cases h
 |frz c=>rw[e] at this;let#[g,o,h,_]:=this;rw[b] at h;cases h
 |dct c=>rw[e] at this;let#[g,h,_]:=this;rw[b] at h;cases h
 |sett c=>rw[e] at this;let#[_,_,h,_]:=this;rw[b] at h;cases h
def K4{es:List Expr}{f:fI}{pos}(h:PA X es (y2 (md X) f)):PE X (.List es pos) (tL (md X)<|ft f):=jl (Mc h) λt H Q m=>by
 let#[n,o,S,d,u,ok,e,q]:=m
 let#[#[l,s],r,e]:=aq e
 dsimp only at e
 split at e
 ·rename_i c
  let#[rfl,rfl]:=bN e
  show#[n,o,S,l,s,ok,r,λg k H1 i a j=>#[j.length▸c,λp b=>?_]]
  show q g p k _ (i.trans<|bB.laid b) (a.lay b) (i.grow p b) (cD i a b) aR<|j.ext<|bB.laid b
 ·cases e
def G4:j0 X (binaryOp .Add) (λx y H Q=>∃a b ys,x=.ref a/\y=.ref b/\gh X.K H a []/\gh X.K H b ys/\Q (.ref b) H):=by
 intro z s S H x y v u Q I M N h
 let#[a,b,ys,rfl,rfl,ha,j,q]:=h
 cases M
 cases N
 let#[J,C,G,_]:=I.tuple ha
 let#[g,U,j,_]:=I.tuple j
 cases C
 let#[#[B,P,r,sl],w,A,n,p]:=id G
 let#[#[t,k,o,l],i,f,R,d]:=id j
 simp only at A p f d
 subst A p f d
 show concat_meets #[_,w,L] #[_,i,L] noFill_tuple_add seq_tuple_add PySem.F.slot_tuple_add PySem.F.entry_tuple_add (PySem.F.args_tuple_add_2 _ _)
   (tuple_addW0 a b _ g.toArray n R P k sl l (by simp)) #[w,i,.ref b,H,I,L,q]
abbrev uN:=az->D->D->Option D
def j7(M:Md)(r:R2)(o:uN):Prop:=∀{f:X7} {S:az} {H:Hp} {x y d:D} {u v:V} {Q:VK},fg M f S H->Rel M f H x u->Rel M f H y v->o S x y=some d->(∀w g,bB f H f g->fg M f S g->Rel M f g d w->Q w g)->r u v H Q
noncomputable def bf(o:uN)(f g:aU):aU:=λi S=>(f i S).bind λ(x,j)=>(g i j).bind λ(y,h)=>(o h x y).bind λd=>some (d,h)
def oa(I:j7 (md X) r o)(h:PE X e (K5 r (tD (md X) f)<|tD (md X) g)):PE X e (tD (md X)<|bf o f g):=jl h λU H Q J=>by
 let#[K,p,S,d,W,ok,e,q]:=J
 let#[#[x,t],N,e]:=aq e
 let#[#[y,G],F,e]:=aq e
 let#[R,P,e]:=aq e
 let#[rfl,rfl]:=bN e
 show#[K,p,S,x,t,ok,N,λn v H1 u i B=>#[n,p,t,y,G,ok.to u i,F,λj w H2 s l M=>?_]]
 show I l (B.ext s) M P λA H3 C k z=>q j A H3 ((u.trans s).trans C) k z
noncomputable def bW:uN:=λ_ x y=>match x,y with
 |.int i,.int j=>some (.int (i+j))
 |.str i,.str j=>if i.length+j.length<=sizeLine then some (.str (i++j)) else none
 |.tup i,.tup j=>if i.length+j.length<=sizeLine then some (.tup (i++j)) else none
 |_,_=>none
abbrev PL(K:X1):R2:=λx y H Q=>(∃i j,x=.int i/\y=.int j/\Q (.int (i+j)) H)\/(∃i j,x=.str i/\y=.str j/\i.length+j.length<=sizeLine/\Q (.str (i++j)) H)∨
 (∃a b d,x=.ref a/\y=.ref b/\gh K H a []/\gh K H b d/\Q (.ref b) H)\/K9 K x y H Q
def JC:j0 X (binaryOp .Add) (PL X.K):=Mw.or (AW.or<|G4.or Jw)
def M3:j7 M (PL M.K) bW:=by
 intro w S H x y d u v Q h r o e q
 cases r with
 |int i=>cases o <;>erw[bW,reduceCtorEq] at e;cases e;show .inl #[_,_,L,L,q _ _ bB.refl h<|.int _]
 | str i=>
   cases o <;>erw[bW,reduceCtorEq] at e
   split at e <;>cases e
   show .inr (.inl #[_,_,L,L,by assumption,q _ _ bB.refl h<|.str _])
 | tup k f=>
   cases o with
   | tup n j=>
     erw[bW] at e
     split at e <;>cases e
     rename_i hl
     let s:=f.length
     let t:=j.length
     cases f with
     |nil=>show .inr (.inr (.inl #[_,_,_,L,L,gh.of k,gh.of n,q _ _ bB.refl h<|.tup n j]))
     | cons f g=>
       show .inr (.inr (.inr #[_,_,_,_,L,L,gh.of k,gh.of n,by simp,by rw[<-s,<-t];show hl,λz=>?_,λz p l=>?_]))
       · subst z
         cases j
         rw[List.append_nil] at q
         show q _ _ bB.refl h<|.tup k (.cons f g)
       · show q _ _ (bB.laid l) (h.lay l)<|.tup aR ((aO.append (.cons f g) j).ext (bB.laid l))
   |_=>erw[bW,reduceCtorEq] at e
 |_=>erw[bW,reduceCtorEq] at e
def RH(d:PE X a (tD (md X) f))(h:PE X b (tD (md X) g)):PE X (.BinOp a .Add b m) (tD (md X)<|bf bW f g):=oa M3 (oD JC d h)
noncomputable def intD(C:Int->Int->Prop)[∀i j,Decidable (C i j)](k:Int->Int->D):uN:=λ_ x y=>match x,y with
 |.int i,.int j=>if C i j then some (k i j) else none
 |_,_=>none
def xM{C:Int->Int->Prop}[∀i j,Decidable (C i j)]{k:Int->Int->D}{g:Int->Int->V}(h:∀i j ρ H,Rel M ρ H (k i j)<|g i j):j7 M (rI C g) (intD C k):=by
 intro ρ S H x y d u v Q l f n e q
 cases f <;>cases n <;>erw[intD,reduceCtorEq] at e
 split at e <;>cases e
 show#[_,_,L,L,by assumption,q _ _ bB.refl l<|h _ _ _ _]
def m8{k:Int->Int->D}{g:Int->Int->V}(h:∀i j ρ H,Rel M ρ H (k i j)<|g i j):j7 M (Ee g) (intD (λ_ _=>True) k):=by
 intro ρ S H x y d u v Q l f n e q
 cases f <;>cases n <;>erw[intD,reduceCtorEq] at e
 rw[Qhq trivial] at e
 cases e
 show#[_,_,L,L,q _ _ bB.refl l<|h _ _ _ _]
instance{i j:Int}:Decidable (HU i j):=by unfold HU;infer_instance
instance{i j:Int}:Decidable (GW i j):=by unfold GW;infer_instance
open Classical in
noncomputable instance{i j:Int}:Decidable (IntMulOk i j):=Classical.propDecidable _
noncomputable abbrev E7:uN:=intD (λ_ _=>True) λi j=>.int (i-j)
noncomputable abbrev lJ:uN:=intD IntMulOk λi j=>.int (i*j)
noncomputable abbrev nk:uN:=intD (λ_ j=>0<j) λi j=>.int (i%j)
noncomputable abbrev Ag:uN:=intD HU λi j=>.int (i/j)
noncomputable abbrev Ke:uN:=intD GW λi j=>.int (i^j.toNat)
def RG(d:PE X a (tD (md X) f))(h:PE X b (tD (md X) g)):PE X (.BinOp a .Sub b m) (tD (md X)<|bf E7 f g):=oa (m8 λi j _ _=>.int _) (oD Ll d h)
def Sh(d:PE X a (tD (md X) f))(h:PE X b (tD (md X) g)):PE X (.BinOp a .Mult b m) (tD (md X)<|bf lJ f g):=oa (xM λi j _ _=>.int _) (oD JG d h)
def RU(d:PE X a (tD (md X) f))(h:PE X b (tD (md X) g)):PE X (.BinOp a .Mod b m) (tD (md X)<|bf nk f g):=oa (xM λi j _ _=>.int _) (oD MG d h)
def QW(d:PE X a (tD (md X) f))(h:PE X b (tD (md X) g)):PE X (.BinOp a .FloorDiv b m) (tD (md X)<|bf Ag f g):=oa (xM λi j _ _=>.int _) (oD JU d h)
def RJ(d:PE X a (tD (md X) f))(h:PE X b (tD (md X) g)):PE X (.BinOp a .Pow b m) (tD (md X)<|bf Ke f g):=oa (xM λi j _ _=>.int _) (oD Lc d h)
noncomputable def tN(f:aU):aU:=λh S=>(f h S).bind λ(d,g)=>match d with
 |.int i=>some (.int (-i),g)
 |_=>none
def K8(o:PE X a (tD (md X) f)):PE X (.UnaryOp .USub a m) (tD (md X)<|tN f):=jl (Pd Nh o) λs H Q j=>by
 let#[k,l,S,d,t,ok,e,q]:=j
 let#[#[x,p],n,e]:=aq e
 dsimp only at e
 split at e
 ·let#[rfl,rfl]:=bN e
  show#[k,l,S,_,p,ok,n,λi v H1 r g h=>?_]
  cases h
  show#[_,L,q _ _ _ r g<|.int _]
 ·cases e
noncomputable def xE:D->Option V
 |.non=>some .non
 |.bl b=>some (.bl b)
 |.int i=>some (.int i)
 |.str x=>some (.str x)
 |_=>none
def m3(r:Rel M ρ H d u)(e:xE d=some v):u=v:=by
 cases r <;>simp[xE] at e <;>show e
noncomputable def gJ(d:Bool):uN:=λ_ x y=>match xE x,xE y with
 |some u,some v=>if A6 u v=true then some (.bl (if d then !decide (u=v) else decide (u=v))) else none
 |_,_=>none
def zm(e:gJ f S x y=some d):∃u v,xE x=some u/\xE y=some v/\A6 u v=true/\d=.bl (if f then !decide (u=v) else decide (u=v)):=by
 unfold gJ at e
 split at e
 ·split at e <;>cases e
  show#[_,_,by assumption,by assumption,by assumption,L]
 ·cases e
def NM:j7 M Rz (gJ false):=by
 intro o S H x y d u v Q j g k e q
 let#[n,l,h,f,i,rfl]:=zm e
 cases m3 g h
 cases m3 k f
 show#[i,q _ _ bB.refl j<|.bl _]
def R3:j7 M RI (gJ true):=by
 intro o S H x y d u v Q j g k e q
 let#[n,l,h,f,i,rfl]:=zm e
 cases m3 g h
 cases m3 k f
 show#[i,q _ _ bB.refl j<|.bl _]
noncomputable abbrev Nl:uN:=intD (λ_ _=>True) λi j=>.bl (decide (i<j))
noncomputable abbrev Nn:uN:=intD (λ_ _=>True) λi j=>.bl (decide (i<=j))
noncomputable abbrev OU:uN:=intD (λ_ _=>True) λi j=>.bl (decide (j<i))
noncomputable abbrev Ro:uN:=intD (λ_ _=>True) λi j=>.bl (decide (j<=i))
def KE:j7 M (Ee λi j=>.bl (decide (i<j))) Nl:=m8 λi j _ _=>.bl _
def K3:j7 M (Ee λi j=>.bl (decide (i<=j))) Nn:=m8 λi j _ _=>.bl _
def RB:j7 M (Ee λi j=>.bl (decide (j<i))) OU:=m8 λi j _ _=>.bl _
def ON:j7 M (Ee λi j=>.bl (decide (j<=i))) Ro:=m8 λi j _ _=>.bl _
noncomputable def isNone:D->Bool
 |.non=>true
 |_=>false
noncomputable def s_(d:Bool):uN:=λ_ x y=>match y with
 |.non=>some (.bl (if d then !isNone x else isNone x))
 |_=>none
def vJ(r:Rel M ρ H d u):decide (u=V.non)=isNone d:=by
 cases r <;>simp[isNone]
def Q_:j7 M (λx y H Q=>y=.non/\Q (.bl (decide (x=.non))) H) (s_ false):=by
 intro i S H x y d u v Q h g f e q
 cases f <;>erw[s_,reduceCtorEq] at e
 cases e
 rw[vJ g]
 show#[L,q _ _ bB.refl h<|.bl _]
def P4:j7 M (λx y H Q=>y=.non/\Q (.bl (!decide (x=.non))) H) (s_ true):=by
 intro i S H x y d u v Q h g f e q
 cases f <;>erw[s_,reduceCtorEq] at e
 cases e
 rw[vJ g]
 show#[L,q _ _ bB.refl h<|.bl _]
def Sf(i:j0 X (compareOp op) r)(d:j7 (md X) r o)(j:PE X a (tD (md X) f))(k:PE X b (tD (md X) g))(h:behindInMarks op b=false):PE X (.Compare a [op] [b] m) (tD (md X)<|bf o f g):=oa d (J7 i j k h)
noncomputable def aS(f:aU):iH:=λh S=>(f h S).bind λ(d,g)=>match d with
 |.bl k=>some (k,g)
 |_=>none
def tW(e:aS f h S=some (k,g)):f h S=some (.bl k,g):=by
 let#[#[d,j],i,e]:=aq e
 dsimp only at e
 split at e
 ·cases e;show i
 ·cases e
def OH(G:j7 (md X) r o)(h:PT X e (GE<|K5 r (tD (md X) f)<|tD (md X) g)):PT X e (tB (md X)<|aS<|bf o f g):=P5 h λU H Q I=>by
 let#[J,p,S,d,W,ok,e,q]:=I
 let e:=tW e
 let#[#[x,t],M,e]:=aq e
 let#[#[y,F],C,e]:=aq e
 let#[R,N,e]:=aq e
 let#[rfl,rfl]:=bN e
 show#[J,p,S,x,t,ok,M,λn v H1 u i A=>#[n,p,t,y,F,ok.to u i,C,λj w H2 s l K=>?_]]
 show G l (A.ext s) K N λP H3 B k z=>by cases z;show#[_,L,q j H3 ((u.trans s).trans B) k]
def vc(i:j0 X (compareOp op) r)(d:j7 (md X) r o)(j:PE X a (tD (md X) f))(k:PE X b (tD (md X) g))(h:behindInMarks op b=false):PT X (.Compare a [op] [b] m) (tB (md X)<|aS<|bf o f g):=OH d (rq i j k h)
noncomputable def AV(S:az):D->Option Bool
 |.non=>some false
 |.bl b=>some b
 |.int i=>some (i !=0)
 |.str y=>if y.length<=sizeLine then some ((y.length:Int) !=0) else none
 |.tup d=>some (!d.isEmpty)
 | .ref k=>match S[k]? with
   |some (.lst d)=>some (!d.isEmpty)
   |some (.dct d)=>some (!d.isEmpty)
   |_=>none
 |.fn _=>none
def aO.isEmpty(h:aO M ρ H ds vs):ds.isEmpty=vs.isEmpty:=by cases h <;>rfl
theorem bM.isEmpty(h:bM M ρ H ds vs):ds.isEmpty=vs.isEmpty:=by
 cases ds with
 |nil=>cases h;rfl
 |cons p r=>let#[v,t,e,_]:=h;subst e;rfl
def IL(st:fg M ρ S H)(r:Rel M ρ H d u)(e:AV S d=some k):MT M.K u H k:=by
 cases r with
 |non=>cases e;rfl
 |bl=>cases e;rfl
 |int=>cases e;rfl
 |str=>erw[AV] at e;split at e <;>cases e;show#[by assumption,L]
 |tup h j=>cases e;show .inr (.inl #[_,gh.of h,by rw[j.isEmpty]])
 |fn=>cases e
 | ref h=>
   erw[AV] at e
   split at e
   · cases e
     let#[f,i,g]:=st.obj _ _ _ h (by assumption)
     show .inl #[f,ji.of i,by rw[g.isEmpty]]
   · cases e
     let#[f,i,g]:=st.obj _ _ _ h (by assumption)
     show .inr (.inr #[f,i,by rw[g.isEmpty]])
   · cases e
noncomputable def kG(f:aU):iH:=λh S=>(f h S).bind λ(d,g)=>(AV g d).bind λk=>some (k,g)
def Sb(s:PE X a (tD (md X) f))(he:autoParam (∀d,isTrue a X.env d=(do let v<-d;standAt a.pos;holding [v] (truthy v))) dl._auto_1):PT X a (tB (md X)<|kG f):=P5 (GP s he) λw H Q n=>by
 let#[o,p,S,k,y,ok,e,q]:=n
 let#[#[x,t],r,e]:=aq e
 let#[j,l,e]:=aq e
 let#[rfl,rfl]:=bN e
 show#[o,p,S,x,t,ok,r,λi v H1 u g h=>#[j,IL g h l,q _ _ u g]]
noncomputable def zB(f:iH):iH:=λg S=>(f g S).bind λ(k,d)=>some (!k,d)
def R8(o:PT X a (tB (md X) f)):PT X (.UnaryOp .Not a m) (tB (md X)<|zB f):=P5 (Ni o) λs H Q i=>by
 let#[j,l,S,k,t,ok,e,q]:=i
 let#[#[g,p],n,e]:=aq e
 let#[rfl,rfl]:=bN e
 show#[j,l,S,g,p,ok,n,λh H1 r d=>q _ _ r d]
noncomputable def r8(f g:iH):iH:=λh S=>(f h S).bind λ(k,d)=>if k=true then g h d else some (false,d)
noncomputable def N2(f g:iH):iH:=λh S=>(f h S).bind λ(k,d)=>if k=true then some (true,d) else g h d
def HK(d:PT X a (tB (md X) f)):PW X (.BoolOp .And [a] m) (tB (md X) f):=Ii d
def Se(d:PT X a (tB (md X) f)):PW X (.BoolOp .Or [a] m) (tB (md X) f):=MM d
def w_and(y:PT X a (tB (md X) f))(r:PW X (.BoolOp .And (b::d) m) (tB (md X) g)):PW X (.BoolOp .And (a::b::d) m) (tB (md X)<|r8 f g):=RQ (LX y r) λz H Q t=>by
 let#[u,n,S,k,w,ok,e,q]:=t
 let#[#[p,o],x,e]:=aq e
 show#[u,n,S,p,o,ok,x,λj H1 l h=>?_]
 dsimp only at e
 split at e
 ·rename_i c
  rw[Qhq c]
  show#[j,n,o,k,w,ok.to l h,e,λs H2 v i=>q _ _ (l.trans v) i]
 ·rename_i c
  rw[Quq c]
  let#[rfl,rfl]:=bN e
  show q _ _ l h
def w_or(y:PT X a (tB (md X) f))(r:PW X (.BoolOp .Or (b::d) m) (tB (md X) g)):PW X (.BoolOp .Or (a::b::d) m) (tB (md X)<|N2 f g):=RQ (NW y r) λz H Q t=>by
 let#[u,n,S,k,w,ok,e,q]:=t
 let#[#[p,o],x,e]:=aq e
 show#[u,n,S,p,o,ok,x,λj H1 l h=>?_]
 dsimp only at e
 split at e
 ·rename_i c
  rw[Qhq c]
  let#[rfl,rfl]:=bN e
  show q _ _ l h
 ·rename_i c
  rw[Quq c]
  show#[j,n,o,k,w,ok.to l h,e,λs H2 v i=>q _ _ (l.trans v) i]
noncomputable def sQ(f g:aU):aU:=λi S=>(f i S).bind λ(d,h)=>match d with
 |.bl true=>g i h
 |.bl false=>some (.bl false,h)
 |_=>none
noncomputable def Iy(f:aU):aU:=λh S=>(f h S).bind λ(d,g)=>match d with
 |.bl k=>some (.bl (!k),g)
 |_=>none
def RT{op}{f:aU}(h:PE X a (tD (md X) f)):PE X (.BoolOp op [a] m) (tD (md X) f):=Ma h
def R6(C:PE X a (tD (md X) f))(r:PE X (.BoolOp .And (b::h) m) (tD (md X) g)):PE X (.BoolOp .And (a::b::h) m) (tD (md X)<|sQ f g):=jl (M7 C r) λF H Q t=>by
 let#[u,o,S,d,A,ok,e,q]:=t
 let#[#[x,p],B,e]:=aq e
 show#[u,o,S,x,p,ok,B,λk v H1 l i n=>?_]
 dsimp only at e
 split at e
 ·cases n
  show#[_,L,?_]
  rw[Qhq L]
  show#[k,o,p,d,A,ok.to l i,e,λs w H2 y j z=>q _ _ _ (l.trans y) j z]
 ·cases n
  show#[_,L,?_]
  rw[Quq Qtq]
  let#[rfl,rfl]:=bN e
  show q _ _ _ l i<|.bl _
 ·cases e
def R1(o:PE X a (tD (md X) f)):PE X (.UnaryOp .Not a m) (tD (md X)<|Iy f):=jl (Lh o) λs H Q j=>by
 let#[k,l,S,d,t,ok,e,q]:=j
 let#[#[x,p],n,e]:=aq e
 show#[k,l,S,x,p,ok,n,λi v H1 r g h=>?_]
 dsimp only at e
 split at e
 ·cases h
  let#[rfl,rfl]:=bN e
  show#[_,L,q _ _ _ r g<|.bl _]
 ·cases e
noncomputable def tf(c:iH)(f g:aU):aU:=λd S=>(c d S).bind λ(k,h)=>if k=true then f d h else g d h
def Ow(B:PT X c (tB (md X) h))(A:PE X a (tD (md X) f))(v:PE X b (tD (md X) g)):PE X (.IfExp c a b m) (tD (md X)<|tf h f g):=jl (Fl B A v) λC H Q x=>by
 let#[y,o,S,d,t,ok,e,q]:=x
 let#[#[u,s],z,e]:=aq e
 show#[y,o,S,u,s,ok,z,λk H1 l j=>?_]
 dsimp only at e
 split at e
 ·rename_i c
  rw[Qhq c]
  show#[k,o,s,d,t,ok.to l j,e,λn w H2 p i r=>q _ _ _ (l.trans p) i r]
 ·rename_i c
  rw[Quq c]
  show#[k,o,s,d,t,ok.to l j,e,λn w H2 p i r=>q _ _ _ (l.trans p) i r]
noncomputable def qT:uN:=λS x y=>match x,y with
 |.tup xs,.int i=>nT xs i
 |.str z,.int i=>if z.length<=sizeLine then(nT z.cps.toList i).map λc=>.str #[(List.toArray [c])] else none
 | .ref k,.int i=>match S[k]? with
   |some (.lst xs)=>nT xs i
   |some (.frz xs)=>nT xs i
   |_=>none
 |_,_=>none
def Jp{ys:List d}(h:nT xs i=some x)(l:xs.length=ys.length):∃j:Nat,xs[j]?=some x/\∀y,ys[j]?=some y->nT ys i=some y:=by
 unfold nT at h
 let#[j,e,h]:=aq h
 show#[j,h,λy f=>by unfold nT;rw[<-l,e];show f]
def aO.atI(h:aO M ρ H ds vs)(e:L2.nT ds i=some d):∃v,L2.nT vs i=some v/\Rel M ρ H d v:=by
 let#[j,k,f]:=Jp e h.length
 let#[v,l,g]:=h.get k
 show#[v,f v l,g]
def PF:j7 M (RD M.K) qT:=by
 intro s S H x y d u v Q i l r e q
 cases r <;>cases l <;>erw[qT,reduceCtorEq] at e
 ·split at e
  ·let#[c,g,f]:=oQm.mp e
   subst f
   show .inr (.inr #[_,_,c,L,L,by assumption,g,q _ _ bB.refl i<|.str _])
  ·cases e
 ·rename_i h p
  let#[v,g,f]:=p.atI e
  show .inr (.inl #[_,_,_,v,L,L,gh.of h,g,q _ _ bB.refl i f])
 ·rename_i h
  split at e
  ·let#[n,k,j]:=i.obj _ _ _ h (by assumption)
   let#[v,g,f]:=j.atI e
   show .inl #[_,_,_,v,L,L,ji.of k,g,q _ _ bB.refl i f]
  ·let#[n,o,k,j]:=i.obj _ _ _ h (by assumption)
   let#[v,g,f]:=j.atI e
   show .inl #[_,_,_,v,L,L,.inl (.inr #[o,k]),g,q _ _ bB.refl i f]
  ·cases e
def Le(d:PE X a (tD (md X) f))(h:PE X b (tD (md X) g))(i:autoParam (DF b) dO._auto_1):PE X (.Subscript a b m) (tD (md X)<|bf qT f g):=oa PF (Pe M1 d h i)
inductive Tag where
 |tu|fr|st (k:Nat)|fz (k:Nat)
def BB(M:Md)(ρ:X7)(H:Hp)(a:X8)(vs:List V):Tag->Prop
 |.tu=>gh M.K H a vs
 |.fr=>H a=some (.lst vs)/\a∉ρ
 |.st k=>ρ[k]?=some a/\H a=some (.lst vs)
 |.fz k=>ρ[k]?=some a/\∃o,H a=some (.frz o (.lst vs))
abbrev dU:=cf->az->Option ((List D×Tag)×az)
def tQ(M:Md)(f:dU):TE:=λj H Q=>∃g h S i t d,Ok M g h S j H/\f h S=some ((i,t),d)∧
 ∀b a e c,bB g H b c->fg M b d c->BB M b c a e t->aO M b c i e->Q (.ref a) c
def BB.sq(h:BB M ρ H a vs t):ji M.K H a vs\/gh M.K H a vs:=by
 cases t with
 |tu=>show .inr h
 |fr=>show .inl (ji.of h.1)
 |st k=>show .inl (ji.of h.2)
 |fz k=>let#[_,o,h]:=h;show .inl (.inl (.inr #[o,h]))
noncomputable def Tag.isL:Tag->Bool
 |.tu=>false
 |_=>true
noncomputable def Tag.isM:Tag->Bool
 |.fr=>true
 |.st _=>true
 |_=>false
def BB.sqL(h:BB M ρ H a vs t)(c:t.isL=true):ji M.K H a vs:=by
 cases t with
 |tu=>cases c
 |fr=>show ji.of h.1
 |st k=>show ji.of h.2
 |fz k=>let#[_,o,h]:=h;show .inl (.inr #[o,h])
def BB.sqM(h:BB M ρ H a vs t)(c:t.isM=true):H a=some (.lst vs):=by
 cases t with
 |tu=>cases c
 |fr=>show h.1
 |st k=>show h.2
 |fz k=>cases c
def BB.sqT(h:BB M ρ H a vs t)(c:t.isL=false):gh M.K H a vs:=by
 cases t with
 |tu=>show h
 |fr=>cases c
 |st k=>cases c
 |fz k=>cases c
def Tag.stays(S:az)(ds:List D):Tag->Prop
 |.st k=>S[k]?=some (.lst ds)
 |.fz k=>S[k]?=some (.frz ds)
 |_=>True
def gh.ext{K:X1}{ρ b:X7}{H c:Hp}{a:X8}{vs:List V}(e:bB ρ H b c)(h:gh K H a vs):gh K c a vs:=by
 rcases h with(h|⟨o,h⟩)|h
 ·show .inl (.inl (e.keep _ _ h<|.inr trivial))
 ·show .inl (.inr #[o,e.keep _ _ h<|.inr trivial])
 ·show .inr h
def BB.to(h:BB M ρ H a vs t)(r:aO M ρ H ds vs)(e:bB ρ H d i)(st:fg M d S i)(c:t.stays S ds):∃b,BB M d i a b t/\aO M d i ds b:=by
 cases t with
 |tu=>show#[vs,gh.ext e h,r.ext e]
 |fr=>show#[vs,#[e.keep _ _ h.1<|.inl h.2,λm=>(e.new a m).elim h.2 λz=>by have f:=h.1;rw[z] at f;cases f],r.ext e]
 | st k=>
   let g:=cn e.pre h.1
   let#[b,f,j]:=st.obj k a _ g c
   show#[b,#[g,f],j]
 | fz k=>
   let g:=cn e.pre h.1
   let#[b,o,f,j]:=st.obj k a _ g c
   show#[b,#[g,o,f],j]
noncomputable def lI(f:fI):dU:=λg S=>(f g S).bind λ(h,d)=>some ((h,.fr),d)
def Ss(h:PE X e (tL (md X) f)):PE X e (tQ (md X)<|lI f):=jl h λz H Q l=>by
 let#[n,o,S,w,t,A,ok,e,q]:=l
 let#[#[d,u],r,e]:=aq e
 let#[i,rfl]:=bN e
 let#[rfl,rfl]:=Prod.mk.inj i
 show#[n,o,S,d,u,ok,r,λg a v B x p y k s j=>q _ _ _ _ x p #[s,k] j]
noncomputable def t_(S:az):D->Option (List D×Tag)
 |.tup d=>some (d,.tu)
 | .ref k=>match S[k]? with
   |some (.lst d)=>some (d,.st k)
   |some (.frz d)=>some (d,.fz k)
   |_=>none
 |_=>none
noncomputable def bL(f:aU):dU:=λh S=>(f h S).bind λ(d,g)=>(t_ g d).bind λp=>some (p,g)
def Kl(st:fg M ρ S H)(r:Rel M ρ H d v)(e:t_ S d=some (ds,t)):∃a vs,v=.ref a/\BB M ρ H a vs t/\aO M ρ H ds vs:=by
 cases r with
 |tup h i=>erw[t_] at e;cases e;show#[_,_,L,gh.of h,i]
 | ref h=>
   erw[t_] at e
   split at e
   · rename_i q
     cases e
     let#[vs,g,f]:=st.obj _ _ _ h q
     show#[_,vs,L,#[h,g],f]
   · rename_i q
     cases e
     let#[vs,o,g,f]:=st.obj _ _ _ h q
     show#[_,vs,L,#[h,o,g],f]
   · cases e
 |_=>erw[t_,reduceCtorEq] at e
def Nz(h:PE X e (tD (md X) f)):PE X e (tQ (md X)<|bL f):=jl h λA H Q l=>by
 let#[n,o,S,z,t,B,ok,e,q]:=l
 let#[#[d,u],p,e]:=aq e
 let#[#[k,w],j,e]:=aq e
 let#[s,rfl]:=bN e
 let#[rfl,rfl]:=Prod.mk.inj s
 show#[n,o,S,d,u,ok,p,λi v C x g r=>?_]
 let#[a,y,rfl,h1,h2]:=Kl g r j
 show q _ _ _ _ x g h1 h2
def rH(n:Gl X "len")(w:X.mg "len"=none)(z:PE X a (tQ (md X) f))(k:autoParam (starEach [a] X.env= [(false,eval a X.env)]) db._auto_1):
  PE X (.Call (.Name "len" p) [a] [] m) (tD (md X) λg S=>(f g S).bind λ(p,i)=>some (.int p.1.length,i)):=
 jl (eV xA n w PySem.boot_len (bJ z de k) (he:=k)) λA H Q s=>by
  let#[u,g,S,d,B,ok,e,q]:=s
  let#[#[#[o,t],i],y,e]:=aq e
  let#[rfl,rfl]:=bN e
  show#[u,g,S,o,t,i,ok,y,λl a j C x v h r=>#[a,j,L,h.sq,?_]]
  have:=q _ (.int j.length) _ x v (by rw[<-r.length];show .int _)
  show this
noncomputable def hZ(f:dU):aU:=λg S=>(f g S).bind λ(p,d)=>some (.int p.1.length,d)
noncomputable def Aa(S:az):D->Option Nat
 |.str z=>if z.length<=sizeLine then some z.length else none
 | .ref k=>match S[k]? with
   |some (.dct l)=>some l.length
   |_=>none
 |_=>none
noncomputable def IT(f:aU):aU:=λh S=>(f h S).bind λ(d,g)=>(Aa g d).bind λn=>some (.int n,g)
def My(o:Gl X "len")(B:X.mg "len"=none)(F:PE X a (tD (md X) f))(j:autoParam (starEach [a] X.env= [(false,eval a X.env)]) db._auto_1):
  PE X (.Call (.Name "len" p) [a] [] m) (tD (md X)<|IT f):=
 jl (eV (xI.or Ej) o B PySem.boot_len (bJ F de j) (he:=j)) λI H Q t=>by
  let#[u,y,S,d,J,ok,e,q]:=t
  let#[#[w,G],C,e]:=aq e
  let#[n,g,e]:=aq e
  let#[rfl,rfl]:=bN e
  show#[u,y,S,w,G,ok,C,λl v K x i r=>?_]
  cases r with
  | str z=>
    erw[Aa] at g
    split at g <;>cases g
    show .inl #[z,L,by assumption,q _ _ _ x i<|.int _]
  | ref h=>
    erw[Aa] at g
    split at g <;>cases g
    let#[A,s,k]:=i.obj _ _ _ h (by assumption)
    show .inr #[_,A,L,s,?_]
    rw[<-k.length]
    show q _ _ _ x i<|.int _
  |_=>erw[Aa,reduceCtorEq] at g
noncomputable def tupQ(f:dU):aU:=λg S=>(f g S).bind λ(p,d)=>some (.tup p.1,d)
def I0(o:Gl X "tuple")(y:X.mg "tuple"=none)(z:PE X a (tQ (md X) f))(i:autoParam (starEach [a] X.env= [(false,eval a X.env)]) db._auto_1)(ht:∀g S ds t j,f g S=some ((ds,t),j)->t.isL=true):
  PE X (.Call (.Name "tuple" p) [a] [] m) (tD (md X)<|tupQ f):=
 jl (oN uR o y (by rfl) (bJ z de i) (he:=i)) λB H Q u=>by
  let#[v,g,S,d,j,ok,e,q]:=u
  let#[#[#[ds,t],A],k,e]:=aq e
  let#[rfl,rfl]:=bN e
  show#[v,g,S,ds,t,A,ok,k,λn a s C x w h r=>#[a,s,L,.inl #[h.sqL<|ht _ _ _ _ _ k,λl hl=>?_]]]
  show q _ _ _ (x.trans<|bB.laid hl) (w.lay hl)<|.tup aR (r.ext<|bB.laid hl)
def P9:∀g S ds t d,lI f g S=some ((ds,t),d)->t.isL=true:=λg S ds t d e=>by
 let#[#[h,j],i,e]:=aq e
 cases e
 rfl
noncomputable def fM(f:dU):dU:=λg S=>(f g S).bind λ(p,d)=>if p.2.isL=true then some (p,d) else none
def yD:∀g S ds t d,fM f g S=some ((ds,t),d)->t.isL=true:=λg S ds t d e=>by
 let#[#[#[h,k],j],i,e]:=aq e
 dsimp only at e
 split at e <;>cases e
 assumption
def OQ(h:PE X e (tQ (md X) f)):PE X e (tQ (md X)<|fM f):=jl h λs H Q i=>by
 let#[j,o,S,r,t,p,ok,e,q]:=i
 let#[#[#[d,n],l],g,e]:=aq e
 dsimp only at e
 split at e
 ·let#[k,rfl]:=bN e
  let#[rfl,rfl]:=Prod.mk.inj k
  show#[j,o,S,d,n,l,ok,g,q]
 ·cases e
noncomputable def M0:List D->Option (List Bool)
 | []=>some []
 |.bl b::r=>(M0 r).bind λd=>some (b::d)
 |_::_=>none
theorem HH:∀{ds:List D} {vs:List V} {bs:List Bool},aO M ρ H ds vs->M0 ds=some bs->vs=bs.map V.bl
 | [],_,_,h,e=>by cases h;cases e;rfl
 | d::ds,_,_,h,e=>by
   cases d with
   | bl b=>
     erw[M0] at e
     let#[g,f,e]:=aq e
     cases e
     cases h with
     | cons h i=>
       cases h
       rw[HH i f]
       rfl
   |_=>cases e
noncomputable def He(f:dU):aU:=λg S=>(f g S).bind λ(p,d)=>if p.2.isL=true then(M0 p.1).bind λh=>some (.bl (h.all id),d) else none
def R9{X:Cx}(B:X.calm=true)(k:Gl X "all")(w:X.mg "all"=none)(z:PE X a (tQ (md X) f))(g:autoParam (starEach [a] X.env= [(false,eval a X.env)]) db._auto_1):
  PE X (.Call (.Name "all" p) [a] [] m) (tD (md X)<|He f):=
 jl (eV (Ek B) k w (by rfl) (bJ z de g) (he:=g)) λF H Q o=>by
  let#[s,u,S,d,G,ok,e,q]:=o
  let#[#[#[l,t],A],y,e]:=aq e
  dsimp only at e
  split at e
  ·rename_i c
   let#[j,n,e]:=aq e
   let#[rfl,rfl]:=bN e
   show#[s,u,S,l,t,A,ok,y,λi a C I x v h r=>#[a,j,L,?_,q _ _ _ x v<|.bl _]]
   rw[<-HH r n]
   show h.sqL c
  ·cases e
noncomputable def sS(S:az)(T:String):D->Option Bool
 |.non=>some (T=="NoneType")
 |.bl _=>some (T=="bool" ||T=="int")
 |.int _=>some (T=="int")
 |.str _=>some (T=="str")
 |.tup _=>some (T=="tuple")
 | .ref k=>match S[k]? with
   |some (.lst _)=>some (T=="list")
   |some (.frz _)=>some (T=="list")
   |some (.dct _)=>some (T=="dict")
   |_=>none
 |.fn _=>none
def Fu(K:X1)(T:String):Prop:=(PySem.W.kitOne K (.type "NoneType") (.type T)=some (T=="NoneType"))/\(PySem.W.kitOne K (.type "bool") (.type T)=some (T=="bool" ||T=="int"))/\(PySem.W.kitOne K (.type "int") (.type T)=some (T=="int"))/\(PySem.W.kitOne K (.type "str") (.type T)=some (T=="str"))∧
 (PySem.W.kitOne K (.type "tuple") (.type T)=some (T=="tuple"))/\(PySem.W.kitOne K (.type "list") (.type T)=some (T=="list"))/\(PySem.W.kitOne K (.type "dict") (.type T)=some (T=="dict"))
noncomputable def nQ(T:String)(f:aU):aU:=λh S=>(f h S).bind λ(d,g)=>(sS g T d).bind λk=>some (.bl k,g)
def RZ{X:Cx}{T:String}(F:Fu X.K T)(B:Gl X "isinstance")(R:X.mg "isinstance"=none)(Y:PE X a (tD (md X) f))(ht:PE X l (tC<|.ty T))(u:autoParam (starEach [a,l] X.env= [(false,eval a X.env),(false,eval l X.env)]) db._auto_1)(j:autoParam (starEach [l] X.env= [(false,eval l X.env)]) db._auto_1):
  PE X (.Call (.Name "isinstance" p) [a,l] [] m) (tD (md X)<|nQ T f):=
 jl (eV FJ B R boot_isinstance (bJ Y (bJ ht de j) (by rw[u,j])) (he:=by rw[u,j]) (hpl:=by rw[j];rfl)) λσ H Q J=>by
  let#[M,P,S,d,S',ok,e,q]:=J
  let#[#[N,Z],W,e]:=aq e
  let#[k,i,e]:=aq e
  let#[rfl,rfl]:=bN e
  let#[z,U,G,k4,I,y,C]:=F
  show#[M,P,S,N,Z,ok,W,λA v H' x t r=>?_]
  let g:=q _ _ _ x t (.bl _)
  cases r with
  |non=>cases i;show#[_,_,_,_,L,.non,z,g]
  |bl=>cases i;show#[_,_,_,_,L,.bl _,U,g]
  |int=>cases i;show#[_,_,_,_,L,.int _,G,g]
  |str=>cases i;show#[_,_,_,_,L,.str _,k4,g]
  |tup h u=>cases i;show#[_,_,_,_,L,.tup h,I,g]
  |fn=>cases i
  | ref h=>
    erw[sS] at i
    split at i
    · rename_i s;cases i;let#[w,n,_]:=t.obj _ _ _ h s;show#[_,_,_,_,L,.lst n,y,g]
    · rename_i s;cases i;let#[w,o,n,_]:=t.obj _ _ _ h s;show#[_,_,_,_,L,.frz n,y,g]
    · rename_i s;cases i;let#[w,n,_]:=t.obj _ _ _ h s;show#[_,_,_,_,L,.dK n,C,g]
    · cases i
abbrev KI:=List D->Option D
def Gx(M:Md)(r:List V->Hp->VK->Prop)(o:KI):Prop:=∀{f:X7} {S:az} {H:Hp} {h:List D} {d:D} {g:List V} {Q:VK},fg M f S H->aO M f H h g->o h=some d->(∀w,Rel M f H d w->Q w H)->r g H Q
noncomputable def Dm(o:KI)(f:fI):aU:=λi S=>(f i S).bind λ(h,g)=>(o h).bind λd=>some (d,g)
def Qn(l:Gx (md X) r o)(h:PE X e (Oy r<|y2 (md X) f)):PE X e (tD (md X)<|Dm o f):=jl h λB H Q n=>by
 let#[p,t,S,d,C,ok,e,q]:=n
 let#[#[s,x],u,e]:=aq e
 let#[A,v,e]:=aq e
 let#[rfl,rfl]:=bN e
 show#[p,t,S,s,x,ok,u,λi z H1 y g k=>l g k v λw j=>q i w H1 y g j]
noncomputable def Gk:KI
 | [.int i]=>some (.int (if i<0 then -i else i))
 |_=>none
noncomputable def maxD:KI
 | [.int i,.int j]=>some (.int (if j>i then j else i))
 |_=>none
noncomputable def minD:KI
 | [.int i,.int j]=>some (.int (if j<i then j else i))
 |_=>none
noncomputable def intOfD:KI
 | [.int i]=>some (.int i)
 | [.bl k]=>some (.int (if k then 1 else 0))
 |_=>none
def Q8:Gx M (λxs H Q=>∃i,xs= [.int i]/\Q (.int (if i<0 then -i else i)) H) Gk:=by
 intro h S H xs d g Q j r e q
 unfold Gk at e
 split at e <;>cases e
 cases r with|cons r f=>cases f;cases r;show#[_,L,q _<|.int _]
def QP:Gx M (λxs H Q=>∃i j,xs= [.int i,.int j]/\Q (.int (if j>i then j else i)) H) maxD:=by
 intro k S H xs d h Q l r e q
 unfold maxD at e
 split at e <;>cases e
 cases r with|cons r f=>cases f with|cons g f=>cases f;cases r;cases g;show#[_,_,L,q _<|.int _]
def Rl:Gx M (λxs H Q=>∃i j,xs= [.int i,.int j]/\Q (.int (if j<i then j else i)) H) minD:=by
 intro k S H xs d h Q l r e q
 unfold minD at e
 split at e <;>cases e
 cases r with|cons r f=>cases f with|cons g f=>cases f;cases r;cases g;show#[_,_,L,q _<|.int _]
def PJ:Gx M (λxs H Q=>(∃i,xs= [.int i]/\Q (.int i) H)\/∃k,xs= [.bl k]/\Q (.int (if k then 1 else 0)) H) intOfD:=by
 intro h S H xs d g Q j r e q
 unfold intOfD at e
 split at e <;>cases e
 ·cases r with|cons r f=>cases f;cases r;show .inl #[_,L,q _<|.int _]
 ·cases r with|cons r f=>cases f;cases r;show .inr #[_,L,q _<|.int _]
noncomputable def ip:List D->Option (List V)
 | []=>some []
 |d::r=>(xE d).bind λv=>(ip r).bind λf=>some (v::f)
def sf(e:xE d=some v):gw v=true:=by
 cases d <;>simp[xE] at e <;>subst e <;>rfl
theorem kn:∀{ds:List D} {d vs:List V},aO M ρ H ds d->ip ds=some vs->d=vs/\vs.all gw=true
 |_,_,_,.nil,e=>by cases e;show#[L,L]
 | _,_,_,.cons h hs,e=>by
   let#[v,f,e]:=aq e
   let#[vs,j,e]:=aq e
   cases e
   let#[i,g]:=kn hs j
   rw[m3 h f,i]
   show#[L,by rw[List.all_cons,sf f,g];rfl]
noncomputable def JA(d:Bool)(f:aU)(g:dU):aU:=λi S=>(f i S).bind λ(x,k)=>(g i k).bind λ(p,j)=>(xE x).bind λv=>(ip p.1).bind λh=>some (.bl (if d then !Fc v h else Fc v h),j)
def r_{t:TE}(d:∀σ H Q,tD (md X) f σ H Q->t σ H Q)(h:PT X e (GE t)):PT X e (tB (md X)<|aS f):=P5 h λσ H Q ⟨i,l,S,k,g,ok,e,q⟩=>
 d _ _ _ #[i,l,S,.bl k,g,ok,tW e,λj v o x n r=>by cases r;show#[k,L,q _ _ x n]]
def KL:∀σ H Q,tD (md X) (JA h f g) σ H Q->K5 (QR X.K h) (tD (md X) f) (tQ (md X) g) σ H Q:=λσ H Q C=>by
 let#[F,l,S,d,U,ok,e,q]:=C
 let#[#[x,o],N,e]:=aq e
 let#[#[#[z,t],B],A,e]:=aq e
 let#[v,n,e]:=aq e
 let#[R,P,e]:=aq e
 let#[rfl,rfl]:=bN e
 show#[F,l,S,x,o,ok,N,λk u H1 p i s=>#[k,l,o,z,t,B,ok.to p i,A,λw a M H2 I j r J=>?_]]
 cases m3 s n
 let#[G,y]:=kn J P
 subst G
 show#[a,M,L,r.sq,sf n,y,q _ _ _ (p.trans I) j<|.bl _]
def Sw(h:PE X a (tD (md X) f))(i:PE X b (tQ (md X) g))(d:autoParam (behindInMarks .In b=false) db._auto_1):PT X (.Compare a [.In] [b] m) (tB (md X)<|aS<|JA false f g):=r_ KL (rq E5 h i d)
def Qi(h:PE X a (tD (md X) f))(i:PE X b (tQ (md X) g))(d:autoParam (behindInMarks .NotIn b=false) db._auto_1):PT X (.Compare a [.NotIn] [b] m) (tB (md X)<|aS<|JA true f g):=r_ KL (rq ya h i d)
inductive Out where
 |nx (Γ:cf) (S:az)|bk (Γ:cf) (S:az)|ct (Γ:cf) (S:az)|rt (d:D) (S:az)|rl (ds:List D) (S:az)
abbrev cH:=cf->az->Option Out
def wx(M:Md)(ρ:X7)(H:Hp)(D:Ends):Out->Prop
 |.nx f g=>∀b e c,bB ρ H b c->Ok M b f g e c->D.nx e c
 |.bk f g=>∀b e c,bB ρ H b c->Ok M b f g e c->D.bk e c
 |.ct f g=>∀b e c,bB ρ H b c->Ok M b f g e c->D.ct e c
 |.rt d g=>∀b v c,bB ρ H b c->fg M b g c->Rel M b c d v->D.rt v c
 |.rl i g=>∀b a h c,bB ρ H b c->fg M b g c->H a=none->a∉b->c a=some (.lst h)->aO M b c i h->D.rt (.ref a) c
def wx.to{H H1:Hp}{D:Ends}(h:wx M ρ H D o)(e:bB ρ H c H1):wx M c H1 D o:=by
 cases o with
 |nx=>show λb d f x ok=>h _ _ _ (e.trans x) ok
 |bk=>show λb d f x ok=>h _ _ _ (e.trans x) ok
 |ct=>show λb d f x ok=>h _ _ _ (e.trans x) ok
 |rt=>show λb v f x g r=>h _ _ _ (e.trans x) g r
 |rl=>show λb a l f x g i j k r=>h _ _ _ _ (e.trans x) g (e.grow _ i) j k r
def tS(M:Md)(g:cH):TS:=λD c H=>∃a b S o,Ok M a b S c H/\g b S=some o/\wx M a H D o
noncomputable def iP:cH:=λd S=>some (.nx d S)
def Kx:qR X [] (tS (md X) iP):=Pv IS λD g H ⟨d,f,S,o,ok,e,q⟩=>by cases e;show q _ _ _ bB.refl ok
noncomputable def aC(f g:cH):cH:=λi S=>(f i S).bind λo=>match o with
 |.nx d h=>g d h
 |o=>some o
def d0{X:Cx}{st:Stmt}{C:List Stmt}{f g:cH}(l:PS X st (tS (md X) f))(k:qR X C (tS (md X) g)):qR X (st::C) (tS (md X)<|aC f g):=Pv (HJ l k) λD v H n=>by
 let#[p,r,S,o,ok,e,q]:=n
 let#[j,s,e]:=aq e
 show#[p,r,S,j,ok,s,?_]
 cases j with
 |nx i t=>show λd m H1 u h=>#[d,i,t,o,h,e,q.to u]
 |bk=>cases e;show q
 |ct=>cases e;show q
 |rt=>cases e;show q
 |rl=>cases e;show q
def qf{X:Cx}{st:Stmt}{f:cH}(d:PS X st (tS (md X) f)):qR X [st] (tS (md X) f):=J1 d
noncomputable def never:cH:=λ_ _=>none
def PY{X:Cx}{st:Stmt}:PS X st (tS (md X) never):=Dc Gw λD g H ⟨d,f,S,o,ok,e,q⟩=>by cases e
noncomputable def AG(f:aU):cH:=λd S=>(f d S).bind λ(_,g)=>some (.nx d g)
def yf{y:Pos}(h:PE X e (tD (md X) f))(l:autoParam (swapsWith e none y.line X.env=pure false) db._auto_1):PS X (.Expr e y) (tS (md X)<|AG f):=Dc (Js h l) λD p H i=>by
 let#[j,k,S,o,ok,e,q]:=i
 let#[#[d,n],m,e]:=aq e
 cases e
 show#[j,k,S,d,n,ok,m,λg v s x st r=>q _ _ _ x<|ok.to x st]
noncomputable def cQ(f:aU):cH:=λh S=>(f h S).bind λ(d,g)=>some (.rt d g)
def C9(h:PE X e (tD (md X) f)):PS X (.Return (some e) y) (tS (md X)<|cQ f):=Dc (GX h) λD m H i=>by
 let#[j,l,S,o,ok,e,q]:=i
 let#[#[d,k],g,e]:=aq e
 cases e
 show#[j,l,S,d,k,ok,g,q]
noncomputable def JK(f:fI):cH:=λg S=>(f g S).bind λ(h,d)=>some (.rl h d)
def Ry(h:PE X e (tL (md X) f)):PS X (.Return (some e) y) (tS (md X)<|JK f):=Dc (GX h) λD m H i=>by
 let#[j,l,S,o,ok,e,q]:=i
 let#[#[d,k],g,e]:=aq e
 cases e
 show#[j,l,S,d,k,ok,g,q]
noncomputable def h_(c:iH)(f g:cH):cH:=λd S=>(c d S).bind λ(k,h)=>if k=true then f d h else g d h
def OV(u:PT X c (tB (md X) h))(t:qR X z (tS (md X) f))(n:qR X B (tS (md X) g)):PS X (.If c z B y) (tS (md X)<|h_ h f g):=Dc (On u t n) λD v H p=>by
 let#[r,l,S,o,ok,e,q]:=p
 let#[#[k,m],s,e]:=aq e
 show#[r,l,S,k,m,ok,s,λi H1 j d=>?_]
 dsimp only at e
 split at e
 ·rename_i c
  rw[Qhq c]
  show#[i,l,m,o,ok.to j d,e,q.to j]
 ·rename_i c
  rw[Quq c]
  show#[i,l,m,o,ok.to j d,e,q.to j]
abbrev lO:=D->cf->az->Option (cf×az)
abbrev qE:=List D->cf->az->Option (cf×az)
def tG(M:Md)(g:lO):TG:=λv n H Q=>∃j m S d f l,Ok M j m S n H/\Rel M j H d v/\g d m S=some (f,l)/\∀h i k,bB j H h k->Ok M h f l i k->Q i k
def PU(M:Md)(g:qE):Ig:=λn o H Q=>∃i l S m f k,Ok M i l S o H/\aO M i H m n/\g m l S=some (f,k)/\∀h d j,bB i H h j->Ok M h f k d j->Q d j
def QQ{t t':TG}(h:PG X e t)(w:∀v σ H Q,t' v σ H Q->t v σ H Q):PG X e t':=λd s σ H v u Q I r q=>h d s σ H v u Q I r (w _ _ _ _ q)
def PM{t t':Ig}(h:HV X es t)(w:∀v σ H Q,t' v σ H Q->t v σ H Q):HV X es t':=λd s σ H v u Q I r q=>h d s σ H v u Q I r (w _ _ _ _ q)
noncomputable def bS(i:Nat):lO:=λd f S=>some (f.set i<|some d,S)
def Fm(h:PG X e (ni i)):PG X e (tG (md X)<|bS i):=QQ h λv m H Q f=>by
 let#[k,l,S,d,g,j,ok,r,e,q]:=f
 cases e
 show q _ _ _ bB.refl #[ok.en.set r,ok.st]
noncomputable def dG:qE:=λd f S=>match d with
 | []=>some (f,S)
 |_=>none
noncomputable def aG(f:lO)(g:qE):qE:=λk j S=>match k with
 |d::r=>(f d j S).bind λ(h,i)=>g r h i
 | []=>none
def HQ:HV X [] (PU (md X) dG):=PM Km λh l H Q d=>by
 let#[i,j,S,k,f,g,ok,r,e,q]:=d
 cases r with
 |nil=>cases e;show#[L,q _ _ _ bB.refl ok]
 |cons=>cases e
def rp(p:PG X e (tG (md X) f))(n:HV X es (PU (md X) g))(x:autoParam ((assignEach (e::es) X.env).map (·.2)=assign e X.env::(assignEach es X.env).map (·.2)) db._auto_1):HV X (e::es) (PU (md X)<|aG f g):=
 PM (FD p n x) λJ M H Q u=>by
  let#[v,w,S,K,k,F,ok,r,e,q]:=u
  cases r with
  |nil=>cases e
  | cons r s=>
    let#[#[d,l],G,e]:=aq e
    show#[_,_,L,v,w,S,_,d,l,ok,r,G,λi t H1 m j=>#[i,d,l,_,k,F,j,s.ext m,e,λo I H2 A h=>q _ _ _ (m.trans A) h]]
noncomputable def jS(g:qE):lO:=λd f S=>match d with
 |.tup h=>g h f S
 |_=>none
noncomputable def nG(n:Nat)(g:qE):qE:=λd f S=>if d.length=n then g d f S else none
def KR{X:Cx}(s:X.calm=true)(h:HV X es (PU (md X) g))(o:autoParam ((assignEach es X.env).length=n) db._auto_1)(f:autoParam ((assignEach es X.env).findIdx? (·.1)=none) db._auto_1):
  PG X (.Tuple es k y) (tG (md X)<|jS<|nG n g):=QQ (MW s h o f) λv t H Q ⟨l,m,S,d,i,p,ok,r,e,q⟩=>by
 cases r with
 | tup h j=>
   erw[jS,nG] at e
   split at e
   · rename_i c
     show#[_,_,L,gh.of h,by rw[<-j.length];show c,l,m,S,_,i,p,ok,j,e,q]
   · cases e
 |_=>cases e
noncomputable def oO(f:aU)(g:lO):cH:=λi S=>(f i S).bind λ(d,k)=>(g d i k).bind λ(h,j)=>some (.nx h j)
def OX:∀D σ H,tS (md X) (oO f g) D σ H->D8 (tD (md X) f) (tG (md X) g) D σ H:=λD σ H u=>by
 let#[w,l,S,o,ok,e,q]:=u
 let#[#[d,m],A,e]:=aq e
 let#[#[k,t],s,e]:=aq e
 cases e
 show#[w,l,S,d,m,ok,A,λj v H1 n h p=>#[j,l,m,d,k,t,ok.to n h,p,s,λr F H2 x i=>q _ _ _ (n.trans x) i]]
def KM{y:Pos}(he:PE X e (tD (md X) f))(k:PG X d (tG (md X) g))(j:autoParam (swapsWithSole [d] e y.line X.env=pure false) db._auto_1)(h:autoParam (swappedStores [d] e X.env=pure none) db._auto_1)
  (i:autoParam ((assignEach [d] X.env).map (·.2)= [assign d X.env]) db._auto_1):PS X (.Assign [d] e y) (tS (md X)<|oO f g):=Dc (LS he k j h i) OX
noncomputable def a_(i:Nat)(f:aU):cH:=λg S=>(f g S).bind λ(d,h)=>some (.nx (g.set i<|some d) h)
def NC{X:Cx}{st:Stmt}{i:Nat}{f:aU}(h:PS X st (D8 (tD (md X) f)<|ni i)):PS X st (tS (md X)<|a_ i f):=Dc h λD t H m=>by
 let#[n,p,S,o,ok,e,q]:=m
 let#[#[d,s],r,e]:=aq e
 cases e
 show#[n,p,S,d,s,ok,r,λl v H1 j g k=>q _ _ _ j #[(ok.en.ext j).set k,g]]
abbrev u9:=cf->az->Option ((List D×(az->Prop))×az)
def Walks(M:Md)(J:It)(ρ:X7)(H:Hp)(ds:List D)(W:az->Prop):Prop:=∀(i:Nat) (f:X7) (j:az) (h:Hp),bB ρ H f h->fg M f j h->W j->
 (∀d,ds[i]?=some d->J.go i h/\∀x g,J.yld i h x g->bB f h f g/\fg M f j g/\Rel M f g d x)/\(i=ds.length->J.stop i h)
def tI(M:Md)(f:u9):TI:=λl H R=>∃i j S k W h,Ok M i j S l H/\f j S=some ((k,W),h)/\∀d J g,bB i H d g->fg M d h g->Walks M J d g k W->R J g
def P7{t t':TI}(h:PI X f e t)(w:∀σ H R,t' σ H R->t σ H R):PI X f e t':=λd s σ H R I q=>h d s σ H R I (w _ _ _ q)
def Nj(hl:PE X l n):PI X w l (λσ H R=>n σ H λx H1=>∃a,x=.ref a/\((∃xs,ji X.K H1 a xs)/\R (RF X.K a) H1\/(∃xs,gh X.K H1 a xs)/\R (RX X.K a) H1)):=by
 intro i s σ H R I h
 show cj (hl i s σ H _ I h) λv d A=>?_
 let#[x,H1,f,r,m]:=A
 let#[a,e,m]:=m
 subst e
 cases r
 rcases m with⟨⟨xs,k⟩,q⟩|⟨⟨xs,k⟩,q⟩
 ·let#[g,t,p,u]:=f.list k
  show wpAny_pyIter_list p.isList ?_
  show#[d.heap.objs.size,[d.heap.objs.size],_,_,H1,L,f.kept (t':=d.toks) λb o e=>Qcq _ e,EA a _,#[_,Qrq _ L,L,L],λb j=>?_,q]
  have e:b=d.heap.objs.size:=by simpa using j
  subst e
  show f.fpOk (Qmq _)<|f.hok.fresh<|Qmq _
 ·let#[g,t,p,u]:=f.tuple k
  show wpAny_pyIter_tuple (show d.heap.IsTuple a g.toArray from p) ?_
  show#[d.heap.objs.size,[d.heap.objs.size],_,_,H1,L,f.kept (t':=d.toks) λb o e=>Qcq _ e,BX a _,#[_,Qrq _ L,L,L],λb j=>?_,q]
  have e:b=d.heap.objs.size:=by simpa using j
  subst e
  show f.fpOk (Qmq _)<|f.hok.fresh<|Qmq _
noncomputable def rG(f:dU):u9:=λh S=>(f h S).bind λ(p,g)=>some ((p.1,λd=>p.2.stays d p.1),g)
def Pr{X:Cx}{P l:Expr}{f:dU}(hl:PE X l (tQ (md X) f)):PI X P l (tI (md X)<|rG f):=P7 (Nj hl) λσ H R Q=>by
 let#[U,Y,S,ds,W,S',ok,e,q]:=Q
 let#[#[#[A,t],S1],Z,e]:=aq e
 let#[M,rfl]:=bN e
 let#[rfl,rfl]:=Prod.mk.inj M
 show#[U,Y,S,A,t,S1,ok,Z,λK a J H' x st h r=>#[a,L,?_]]
 cases c:t.isL with
 | true=>
   show .inl #[#[J,h.sqL c],q _ _ _ x st λi s N H2 G j w=>?_]
   let#[g,u,n]:=h.to r G j w
   let k:=u.sqL c
   show#[λd p=>?_,λI=>#[g,k,by rw[I,n.length];show Qmq _]]
   let#[v,o,F]:=n.get p
   show#[#[g,v,k,o],λx H3 m=>?_]
   let#[rfl,m]:=m
   have:=m g k
   rw[o] at this
   cases this
   show#[bB.refl,j,F]
 | false=>
   show .inr #[#[J,h.sqT c],q _ _ _ x st λi s N H2 G j w=>?_]
   let#[g,u,n]:=h.to r G j w
   let k:=u.sqT c
   show#[λd p=>?_,λI=>#[g,k,by rw[I,n.length];show Qmq _]]
   let#[v,o,F]:=n.get p
   show#[#[g,v,k,o],λx H3 m=>?_]
   let#[rfl,m]:=m
   have:=m g k
   rw[o] at this
   cases this
   show#[bB.refl,j,F]
noncomputable def iY(lo hi:Int):List D:=(List.range (hi-lo).toNat).map λ(i:Nat)=>D.int (lo+(i:Int))
noncomputable def qH(f:aU):u9:=λh S=>(f h S).bind λ(d,g)=>match d with
 |.int j=>if -(2^62)<=j/\j<2^62 then some ((iY 0 j,λ_=>True),g) else none
 |_=>none
def DX{M:Md}{ρ:X7}{H:Hp}{lo hi:Int}:Walks M (P3 lo (hi-lo).toNat) ρ H (iY lo hi) (λ_=>True):=λi j n H2 o f w=>by
 unfold iY
 show#[λd g=>?_,λhi=>by rw[lQm,QVq] at hi;show Nat.le_of_eq hi.symm]
 rw[gQm] at g
 let#[k,l,rfl]:=oQm.mp g
 let hl:=(gQs.mp l)
 let#[hl,h]:=hl
 rw[List.getElem_range] at h
 subst h
 rw[QVq] at hl
 show#[hl,λx H3 m=>?_]
 let#[rfl,rfl]:=m
 show#[bB.refl,f,.int _]
def QA(k:Gl X "range")(t:X.mg "range"=none)(v:PE X a (tD (md X) f))(h:autoParam (starEach [a] X.env= [(false,eval a X.env)]) db._auto_1):PI X n (.Call (.Name "range" p) [a] [] y) (tI (md X)<|qH f):=
 P7 (E3 k t (cN v jV h) h) λI H R o=>by
  let#[ρ,s,S,G,W,J,ok,e,q]:=o
  let#[#[d,w],u,e]:=aq e
  dsimp only at e
  split at e
  ·rename_i j
   split at e
   ·rename_i i
    let#[l,rfl]:=bN e
    let#[rfl,rfl]:=Prod.mk.inj l
    show#[ρ,s,S,[.int j],w,ok,by unfold aw ax;rw[u];rfl,λg F A x st r=>?_]
    cases r with
    | cons r m=>
      cases m
      cases r
      show#[j,L,i.1,i.2,q _ _ _ x st ?_]
      have:=DX (M:=md X) (ρ:=g) (H:=A) (lo:=0) (hi:=j)
      rw[Int.sub_zero] at this
      show this
   ·cases e
  ·cases e
open Classical in
def forL(g:lO)(b:cH)(W:az->Prop):List D->cf->az->Option Out
 | [],Γ,S=>if W S then some (.nx Γ S) else none
 |d ::ds,Γ,S=>if W S then(g d Γ S).bind λ(i,j)=>(b i j).bind λo=>match o with
    |.nx f h=>forL g b W ds f h
    |.ct f h=>forL g b W ds f h
    |.bk f h=>some (.nx f h)
    |.rt x h=>some (.rt x h)
    |.rl x h=>some (.rl x h)
  else none
def nK(i:u9)(g:lO)(b:cH):cH:=λd S=>(i d S).bind λ(p,f)=>forL g b p.2 p.1 d f
def Oo{X:Cx}(hp:PassesOwn (model X.prog X.w) X.A X.env X.xe)(hc:X.calm=true)(hi:PI X tg j (tI (md X) i))(hg:PG X tg (tG (md X) g))(hb:qR X z (tS (md X) f))
  (hs:autoParam (∀x,foldedSetIterable j X.env x=pure x) dl._auto_1):PS X (.For tg j z [] y) (tS (md X)<|nK i g f):=Dc (LZ hp hc hi hg hb hs) λD σ H ⟨ρ,Γ,S,o,ok,e,q⟩=>by
 let#[#[#[h,W],S1],e1,e]:=aq e
 show#[ρ,Γ,S,h,W,S1,ok,e1,λu J H1 x1 a3 wk=>?_]
 let U:=q.to x1
 let Y:=ok.to x1 a3
 show#[λi m t I=>m=h.length-i/\i<=h.length/\∃d r G,bB u H1 d I/\Ok (md X) d r G t I/\forL g f W (h.drop i) r G=some o,#[h.length,by simp,Nat.zero_le _,u,Γ,S1,bB.refl,Y,e],?_]
 rintro i m a5 H2 ⟨rfl,hi,d,r,G,x2,ok2,e2⟩
 by_cases v:i<h.length
 ·have hd:h[i]?=some h[i]:=gQe v
  rw[QWq v] at e2
  unfold forL at e2
  split at e2
  ·rename_i w
   let#[w1,w2]:=wk i d G H2 x2 ok2.st w
   let#[go,Z]:=w1 _ hd
   show .inr #[go,λt I=>∃n p R,bB u H1 n I/\Ok (md X) n p R t I/\forL g f W (h.drop (i+1)) p R=some o,λt I ⟨n,p,R,h1,h2,h3⟩=>#[h.length-(i+1),by omega,L,v,n,p,R,h1,h2,h3],λx H3 hy=>?_]
   let#[x3,a0,r3]:=Z x H3 hy
   let#[#[M,S4],e4,e5]:=aq e2
   show#[d,r,G,_,M,S4,ok2.to x3 a0,r3,e4,λa1 a4 H4 x4 a2=>?_]
   let#[o5,e6,K]:=aq e5
   let N:=(x2.trans x3).trans x4
   show#[a1,M,S4,o5,a2,e6,?_]
   cases o5 with
   |nx s F=>show λl P H6 Q k=>#[l,s,F,N.trans Q,k,K]
   |ct s F=>show λl P H6 Q k=>#[l,s,F,N.trans Q,k,K]
   |bk s F=>cases K;show λl P H6 Q k=>U _ _ _ (N.trans Q) k
   |rt d6 F=>cases K;show U.to N
   |rl d6 F=>cases K;show U.to N
  ·cases e2
 ·have e3:i=h.length:=by omega
  subst e3
  rw[List.drop_length] at e2
  unfold forL at e2
  split at e2
  ·rename_i w
   cases e2
   let#[w1,w2]:=wk h.length d G H2 x2 ok2.st w
   show .inl #[w2 L,U _ _ _ x2 ok2]
  ·cases e2
mutual
theorem Rel.off{H:Hp}(a:H b=some (.lst f)):∀{d:D} {v:V},Rel M ρ H d v->Rel M ρ (upd H b<|.lst ws) d v
 |_,_,.non=>.non
 |_,_,.bl x=>.bl x
 |_,_,.int i=>.int i
 |_,_,.str x=>.str x
 |_,_,.tup h hs=>.tup (by rw[aM (Gz h a (by intro z;cases z))];show h) (aO.off a hs)
 |_,_,.ref h=>.ref h
 |_,_,.fn h=>.fn h
theorem aO.off{H:Hp}(a:H b=some (.lst f)):∀{ds:List D} {vs:List V},aO M ρ H ds vs->aO M ρ (upd H b<|.lst ws) ds vs
 |_,_,.nil=>.nil
 |_,_,.cons h hs=>.cons (Rel.off a h) (aO.off a hs)
end
theorem fg.off(st:fg M ρ S H)(e:H b=some (.lst f))(n:b∉ρ):fg M ρ S (upd H b (.lst ws)):=⟨st.len,st.nd,λk a o i m=>by
 let q:=st.obj k a o i m
 have g:a≠b:=λz=>n (z▸mQg i)
 cases o with
 |lst j=>let#[h,c,d]:=q;show#[h,by rw[aM g];show c,d.off e]
 |frz j=>let#[h,o,c,d]:=q;show#[h,o,by rw[aM g];show c,d.off e]
 |dct l=>let#[u,c,d]:=q;show#[u,by rw[aM g];show c,d.imp λ_ _ r=>r.off e]
 |sett j=>let#[p,s,c,d,t]:=q;show#[p,s,by rw[aM g];show c,d.off e,t]⟩
def En.off(h:En M ρ H a σ)(g:H b=some (.lst f)):En M ρ (upd H b<|.lst ws) a σ:=#[h.len,λi d q=>by let#[v,e,c]:=h.get i d q;show#[v,e,c.off g]]
def bB.off(e:bB d g ρ H)(i:g b=none)(u:HO):bB d g ρ (upd H b u):=⟨e.pre,e.new,λa o h c=>by rw[aM (eD h i)];show e.keep a o h c,λa h=>by
 by_cases z:a=b
 ·subst z;show i
 ·rw[aM z] at h;show e.grow a h⟩
noncomputable def nZ(js:List (Option Nat))(a:cf):cf:=js.map λo=>o.bind λj=>a.getD j none
def En.sig(js:List (Option Nat))(h:En M ρ H a σ):En M ρ H (nZ js a) (jC js σ) where
 len:=by unfold nZ jC;rw[lQm,lQm]
 get:=λi d q=>by
  unfold nZ at q
  unfold jC
  rw[gQm] at q|-
  cases e:js[i]? with
  |none=>rw[e] at q;cases q
  | some o=>
    rw[e] at q
    cases o with
    |none=>cases q
    | some j=>
      have b:a.getD j none=some d:=QdQ q
      have g:a[j]?=some (some d):=by
        rw[Qlq] at b
        cases z:a[j]? with
        |none=>rw[z] at b;cases b
        |some y=>rw[z] at b;show congrArg some b
      let#[v,f,c]:=h.get j d g
      show#[v,?_,c]
      show some (σ.getD j none)=some (some v)
      rw[Qlq,f]
      rfl
open Classical in
def lS(g:lO)(t:iH)(f:aU)(W:az->Prop):List D->cf->az->List D->Option (List D×az)
 | [],Γ,S,acc=>if W S then some (acc,S) else none
 |d ::ds,Γ,S,acc=>if W S then(g d Γ S).bind λ(a,e)=>(t a e).bind λ(k,b)=>
    if k=true then(f a b).bind λ(y,c)=>if acc.length<sizeLine then lS g t f W ds a c (acc++ [y]) else none
    else lS g t f W ds a b acc
  else none
def cM(js:List (Option Nat))(i:u9)(g:lO)(t:iH)(f:aU):fI:=λa S=>(i a S).bind λ(p,b)=>lS g t f p.2 p.1 (nZ js a) b []
def GA:∀σ H Q,tL M (cM js i g t f) σ H Q->FG js (tI M i) (tG M g) (tB M t) (tD M f) σ H Q:=λσ H Q qq=>by
 let#[ρ,Γ,S,rs,S',ok,e,q]:=qq
 let#[#[#[j,W],S1],e1,e]:=aq e
 show#[ρ,Γ,S,j,W,S1,ok,e1,λl J H1 x1 R wk D K=>?_]
 have n1:D∉l:=cD x1 R K
 have a1:Ok M l (nZ js Γ) S1 (jC js σ) (upd H1 D<|.lst []):=#[((ok.en.ext x1).ext (bB.laid K)).sig js,R.lay K]
 show⟨λi m B d=>m=j.length-i/\i<=j.length/\∃c s N b h,bB l H1 c d/\Ok M c s N B d/\D∉c/\d D=some (.lst h)/\aO M c d b h/\lS g t f W (j.drop i) s N b=some (rs,S'),
  #[j.length,by simp,Nat.zero_le _,l,_,S1,[],[],bB.laid K,a1,n1,aR,.nil,e],?_⟩
 rintro i m a8 H2 ⟨rfl,hi,c,s,N,b,h,x2,ok2,n2,hD2,racc,e2⟩
 by_cases G:i<j.length
 ·have hd:j[i]?=some j[i]:=gQe G
  rw[QWq G] at e2
  unfold lS at e2
  split at e2
  ·rename_i w
   let#[w1,w2]:=wk i c N H2 x2 ok2.st w
   let#[go,a2]:=w1 _ hd
   show .inr ⟨go,λB d=>∃a r A b h,bB l H1 a d/\Ok M a r A B d/\D∉a/\d D=some (.lst h)/\aO M a d b h/\lS g t f W (j.drop (i+1)) r A b=some (rs,S'),
    λB d ⟨a,r,A,b,h,h1,h2,h3,h4,h5,h6⟩=>#[j.length-(i+1),by omega,L,G,a,r,A,b,h,h1,h2,h3,h4,h5,h6],λx H3 hy=>?_⟩
   let#[x3,a3,r3]:=a2 x H3 hy
   let#[#[n,S4],e4,e5]:=aq e2
   show#[c,s,N,_,n,S4,ok2.to x3 a3,r3,e4,λa5 a7 H4 x4 p=>?_]
   let#[#[k,S5],e6,X]:=aq e5
   show#[a5,n,S4,k,S5,p,e6,λU H5 Y P=>?_]
   let o:=(x3.trans x4).trans Y
   have C:∀{a d},bB c H2 a d->d D=some (.lst h)/\D∉a:=λ{a d} x=>#[x.keep _ _ hD2<|.inl n2,λm=>(x.new _ m).elim n2 λz=>by rw[z] at hD2;cases hD2]
   dsimp only at X|-
   split at X
   ·rename_i ck
    rw[Qhq ck]
    let#[#[y,S6],e8,Z]:=aq X
    show#[U,n,S5,y,S6,p.to Y P,e8,λa0 v H6 x6 a4 r6=>?_]
    let I:=o.trans x6
    let#[u,n6]:=C I
    let F:=racc.ext I
    dsimp only at Z
    split at Z
    ·rename_i cl
     show#[h,u,by rw[<-racc.length];show cl,a0,n,S6,b++ [y],h++ [v],(x2.trans I).off K _,#[((p.en.ext Y).ext x6).off u,a4.off u n6],n6,aR,(F.append<|.cons r6 .nil).off u,Z]
    ·cases Z
   ·rename_i ck
    rw[Quq ck]
    let#[a6,n5]:=C o
    show#[U,n,S5,b,h,x2.trans o,p.to Y P,n5,a6,racc.ext o,X]
  ·cases e2
 ·have e3:i=j.length:=by omega
  subst e3
  rw[List.drop_length] at e2
  unfold lS at e2
  split at e2
  ·rename_i w
   let#[rfl,rfl]:=bN e2
   let#[w1,w2]:=wk j.length c N H2 x2 ok2.st w
   show .inl #[w2 L,q c D h H2 (x1.trans x2) ok2.st (x1.grow _ K) n2 hD2 racc]
  ·cases e2
noncomputable def dZ:iH:=λ_ S=>some (true,S)
def Pw{t t':TT}(h:mK X f t)(w:∀σ H Q,t' σ H Q->t σ H Q):mK X f t':=λd s σ H Q I q=>h d s σ H Q I (w _ _ _ q)
def R_:mK X [] (tB (md X) dZ):=Pw Nf λh H Q ⟨f,g,S,k,d,ok,e,q⟩=>by cases e;show q _ _ bB.refl ok.st
def RK(d:PT X c (tB (md X) f)):mK X [c] (tB (md X) f):=Mq d
def Lr
  (S:aL X N js d n) (v:X.calm=true) (hi:PI X o h (tI (md X) i))
  (q:∀C s H fp,PG (aF X N d n C s H fp) o<|tG (md X) g) (ht:∀C s H fp,mK (aF X N d n C s H fp) m<|tB (md X) t) (he:∀C s H fp,PE (aF X N d n C s H fp) k<|tD (md X) f)
  (u:autoParam (∀x,foldedSetIterable h X.env x=pure x) dl._auto_1):PE X (.ListComp k [⟨o,h,m,0⟩] d j) (tL (md X)<|cM js i g t f):=jl (Kg S v hi q ht he u) GA
def L6{u:Pos}
  (S:aL X N js h B) (hc:X.calm=true) (hi:PI X A k (tI (md X) i))
  (R:∀C s H fp,PG (aF X N h B C s H fp) A<|tG (md X) g) (ht:∀C s H fp,mK (aF X N h B C s H fp) y<|tB (md X) t) (he:∀C s H fp,PE (aF X N h B C s H fp) w<|tD (md X) f) (F:PG X m (ni n))
  (hs:autoParam (∀x,foldedSetIterable k X.env x=pure x) dl._auto_1) (J:autoParam (swapsWithSole [m] (.ListComp w [⟨A,k,y,0⟩] h j) u.line X.env=pure true) db._auto_1)
  (W:autoParam ((assignEach [m] X.env).map (·.2)= [assign m X.env]) db._auto_1):PS X (.Assign [m] (.ListComp w [#[A,k,y,0]] h j) u) (tS (md X)<|a_ n<|eR<|cM js i g t f):=
 Dc (J6 S hc hi R ht he F hs J W) λD σ H qq=>by
  let#[P,Γ,S,o,ok,e,q]:=qq
  let#[#[d,S1],e1,e]:=aq e
  cases e
  let#[#[M,S2],Y,e3]:=aq e1
  let#[rfl,rfl]:=bN e3
  show GA σ H _ #[P,Γ,S,M,S2,ok,Y,λv a U Q x st Z nr ha rs=>?_]
  let G:=rs.pre (List.prefix_append v [a])
  let I:=st.box (o:=.lst M) nr #[U,ha,G]
  have K:bB P H (v++ [a]) Q:=⟨x.pre.trans (List.prefix_append _ _),λb z=>by
   rcases mQa.mp z with z|z
   ·show x.new b z
   ·rw[Qfq] at z;subst z;show .inr Z,x.keep,x.grow⟩
  show q (v++ [a]) _ Q K #[((ok.en.ext K).set (.ref ?_)),I]
  rw[<-st.len,QQq (Qmq _)]
  simp
noncomputable def AH(c:iH)(b:cH):Nat->cf->az->Option Out
 |0,_,_=>none
 |n +1,Γ,S=>(c Γ S).bind λ(k,g)=>if k=true then(b Γ g).bind λo=>match o with
    |.nx d f=>AH c b n d f
    |.ct d f=>AH c b n d f
    |.bk d f=>some (.nx d f)
    |.rt x f=>some (.rt x f)
    |.rl x f=>some (.rl x f)
  else some (.nx Γ g)
def xT{X:Cx}(n:Nat)(hp:PassesOwn (model X.prog X.w) X.A X.env X.xe)(hc:PT X c (tB (md X) h))(hb:qR X l (tS (md X) f)):PS X (.While c l [] j) (tS (md X)<|AH h f n):=Dc (G1 hp hc hb) λD σ H qq=>by
 let#[Q,Γ,S,o,ok,e,q]:=qq
 show#[λm v B=>∃d g y,bB Q H d B/\Ok (md X) d g y v B/\AH h f m g y=some o,#[n,Q,Γ,S,bB.refl,ok,e],?_]
 rintro m a0 H1 ⟨N,I,S1,x1,F,i⟩
 cases m with
 |zero=>cases i
 | succ m=>
   unfold AH at i
   let#[#[k,U],e2,i]:=aq i
   show#[N,I,S1,k,U,F,e2,λK H2 Y M=>?_]
   dsimp only at i|-
   let C:=F.to Y M
   let s:=x1.trans Y
   split at i
   · rename_i P
     rw[Qhq P]
     let#[W,e3,i]:=aq i
     show#[λv B=>∃d g y,bB Q H d B/\Ok (md X) d g y v B/\AH h f m g y=some o,λv B ⟨d,g,y,h1,Z,h3⟩=>#[m,Nat.lt_succ_self _,d,g,y,h1,Z,h3],K,I,U,W,C,e3,?_]
     cases W with
     |nx x z=>show λu J R G t=>#[u,x,z,s.trans G,t,i]
     |ct x z=>show λu J R G t=>#[u,x,z,s.trans G,t,i]
     |bk x z=>cases i;show λu J R G t=>q _ _ _ (s.trans G) t
     |rt d6 z=>cases i;show q.to s
     |rl d6 z=>cases i;show q.to s
   · rename_i P
     rw[Quq P]
     cases i
     show q _ _ _ s C
inductive Res where
 |d (x:D)|l (ds:List D)
abbrev dr:=List D->az->Option (Res×az)
def Mv(M:Md)(ρ:X7)(H b:Hp)(v:V):Res->Prop
 |.d x=>Rel M ρ b x v
 |.l e=>∃a c,v=.ref a/\H a=none/\a∉ρ/\b a=some (.lst c)/\aO M ρ b e c
def eg(M:Md)(n:Nat)(F:dr):Sp:=λf H Q _=>∃c S d r e,d.length=n/\aO M c H d f/\fg M c S H/\F d S=some (r,e)/\∀a v b,bB c H a b->fg M a e b->Mv M a H b v r->Q v b
mutual
noncomputable def cc(m:Nat):D->Bool
 |.ref k=>decide (k<m)
 |.tup a=>bK m a
 |_=>true
noncomputable def bK(m:Nat):List D->Bool
 | []=>true
 |d::ds=>cc m d&&bK m ds
end
noncomputable def Kv(m:Nat):O->Bool
 |.lst a=>bK m a
 |.frz a=>bK m a
 |.dct b=>bK m (b.map (·.2))
 |.sett a=>bK m a
mutual
theorem Rel.cut(e:ρ <+: f):∀{d:D} {v:V},Rel M f H d v->cc ρ.length d=true->Rel M ρ H d v
 |_,_,.non,_=>.non
 |_,_,.bl x,_=>.bl x
 |_,_,.int i,_=>.int i
 |_,_,.str x,_=>.str x
 |_,_,.tup h hs,b=>.tup h (aO.cut e hs (by simpa [cc] using b))
 | _,_,.ref (k:=k) (a:=a) h,b=>.ref (by
   let#[t,rfl]:=e
   have c:k<ρ.length:=by simpa [cc] using b
   rwa [QHq c] at h)
 |_,_,.fn h,_=>.fn h
theorem aO.cut(e:ρ <+: f):∀{ds:List D} {vs:List V},aO M f H ds vs->bK ρ.length ds=true->aO M ρ H ds vs
 |_,_,.nil,_=>.nil
 | _,_,.cons h hs,b=>by
   let a:=b
   erw[bK,QDq,QCq] at a
   show .cons (Rel.cut e h a.1) (aO.cut e hs a.2)
end
theorem bM.cut(e:ρ <+: f):∀{l:List (Key×D)} {kv:List (Key×V)},bM M f H l kv->bK ρ.length (l.map (·.2))=true->bM M ρ H l kv
 | [],_,h,_=>h
 | (_,_)::_,_,#[v,t,q,h,hs],b=>by
   let a:=b
   erw[bK,QDq,QCq] at a
   show#[v,t,q,h.cut e a.1,bM.cut e hs a.2]
theorem nX.cut(e:ρ <+: f)(h:nX M f H a o)(b:Kv ρ.length o=true):nX M ρ H a o:=by
 cases o with
 |lst i=>let#[g,d,c]:=h;show#[g,d,c.cut e b]
 |frz i=>let#[g,o,d,c]:=h;show#[g,o,d,c.cut e b]
 |dct j=>let#[k,d,c]:=h;show#[k,d,c.cut e b]
 |sett i=>let#[n,l,d,c,m]:=h;show#[n,l,d,c.cut e b,m]
mutual
theorem Rel.low:∀{d:D} {v:V},Rel M ρ H d v->cc ρ.length d=true
 |_,_,.non=>rfl
 |_,_,.bl x=>rfl
 |_,_,.int i=>rfl
 |_,_,.str x=>rfl
 |_,_,.tup h hs=>by erw[cc];show aO.low hs
 |_,_,.ref h=>by erw[cc];show Qeq (gQs.mp h).1
 |_,_,.fn h=>rfl
theorem aO.low:∀{ds:List D} {vs:List V},aO M ρ H ds vs->bK ρ.length ds=true
 |_,_,.nil=>rfl
 |_,_,.cons h hs=>by erw[bK];rw[Rel.low h,aO.low hs];rfl
end
theorem bM.low:∀{l:List (Key×D)} {kv:List (Key×V)},bM M ρ H l kv->bK ρ.length (l.map (·.2))=true
 | [],_,_=>rfl
 |(_,_)::_,_,#[v,t,q,h,hs]=>by erw[QDq,bK];rw[h.low,bM.low hs];rfl
theorem nX.low(h:nX M ρ H a o):Kv ρ.length o=true:=by
 cases o with
 |lst d=>let#[g,c,b]:=h;show b.low
 |frz d=>let#[g,o,c,b]:=h;show b.low
 |dct e=>let#[i,c,b]:=h;show b.low
 |sett d=>let#[l,j,c,b,k]:=h;show b.low
def n_(S a:az):Prop:=S.length<=a.length/\∀k o,k<S.length->a[k]?=some o->S[k]?=some o\/Kv S.length o=true
open Classical in
def settle(S:az)(d:D)(a:az):Option (Res×az):=if n_ S a then match d with
  | .ref k=>if k<S.length then some (.d (.ref k),a.take S.length) else match a[k]? with
    |some (.lst ds)=>if bK S.length ds=true then some (.l ds,a.take S.length) else none
    |_=>none
  |d=>if cc S.length d=true then some (.d d,a.take S.length) else none
 else none
open Classical in
def eT(S:az)(ds:List D)(a:az):Option (Res×az):=if n_ S a/\bK S.length ds=true then some (.l ds,a.take S.length) else none
noncomputable def ff(n:Nat)(b:cH):dr:=λc S=>(b (c.map some++List.replicate (n-c.length) none) S).bind λo=>match o with
 |.nx _ a=>settle S .non a
 |.rt d a=>settle S d a
 |.rl l a=>eT S l a
 |_=>none
noncomputable def M8(n:Nat)(b:cH):dr:=λc S=>(b (c.map some++List.replicate (n-c.length) none) S).bind λo=>match o with
 |.nx _ a=>some (.d .non,a)
 |.rt d a=>some (.d d,a)
 |.rl l a=>some (.l l,a)
 |_=>none
def fg.clean(st:fg M ρ S H)(x:bB ρ H b e)(i:fg M b j e)(c:n_ S j):fg M ρ (j.take S.length) e/\bB ρ H ρ e:=by
 show#[#[?_,st.nd,λk a o g f=>?_],List.prefix_refl _,λ_ h=>.inl h,x.keep,x.grow]
 ·rw[Qxq,st.len]
  have:=c.1
  omega
 ·have l:k<ρ.length:=(gQs.mp g).1
  have d:k<S.length:=st.len▸l
  rw[List.getElem?_take_of_lt d] at f
  show(i.obj k a o (cn x.pre g) f).cut x.pre ?_
  rcases c.2 k o d f with z|z
  ·show(st.obj k a o g z).low
  ·rw[st.len];show z
def vP(st:fg M ρ S H)(x:bB ρ H b g)(f:fg M b t g)(l:Rel M b g d v)(e:settle S d t=some (r,h)):
  bB ρ H ρ g/\fg M ρ h g/\Mv M ρ H g v r:=by
 unfold settle at e
 split at e
 ·rename_i c
  let#[o,q]:=st.clean x f c
  cases d with
  | ref k=>
    dsimp only at e
    split at e
    · rename_i n
      let#[rfl,rfl]:=bN e
      show#[q,o,l.cut x.pre (by erw[cc];rw[st.len];show Qeq n)]
    · rename_i n
      split at e
      · rename_i B A
        split at e
        · rename_i i
          let#[rfl,rfl]:=bN e
          cases l with
          | ref p=>
            rename_i a
            let#[y,z,w]:=f.obj k a _ p A
            have s:a∉ρ:=λm=>by
              let#[j,u]:=List.getElem?_of_mem m
              have:=i3 f.nd (cn x.pre u) p
              subst this
              show n (st.len▸(gQs.mp u).1)
            show#[q,o,a,y,L,(x.new a<|mQg p).resolve_left s,s,z,w.cut x.pre (by rw[st.len];show i)]
        · cases e
      · cases e
  | _=>
    dsimp only at e
    split at e
    · rename_i i
      let#[rfl,rfl]:=bN e
      show#[q,o,l.cut x.pre (by rw[st.len];show i)]
    · cases e
 ·cases e
def Bp(st:fg M ρ S H)(x:bB ρ H b d)(g:fg M b h d)(fr:H a=none)(j:a∉b)(l:d a=some (.lst vs))(i:aO M b d ds vs)(e:eT S ds h=some (r,f)):
  bB ρ H ρ d/\fg M ρ f d/\Mv M ρ H d (.ref a) r:=by
 unfold eT at e
 split at e
 ·rename_i c
  let#[k,n]:=st.clean x g c.1
  let#[rfl,rfl]:=bN e
  show#[n,k,a,vs,L,fr,λm=>j<|x.pre.subset m,l,i.cut x.pre (by rw[st.len];show c.2)]
 ·cases e
def zW{N:X6}(r:aO M ρ H ds vs):En M ρ H (ds.map some++List.replicate (N.length-ds.length) none) (L2.start N vs) where
 len:=by unfold L2.start;simp[r.length]
 get:=λi d q=>by
  unfold L2.start
  by_cases c:i<ds.length
  ·rw[QHq (by rw[lQm];show c),gQm] at q
   let#[g,e,a]:=oQm.mp q
   cases a
   let#[v,f,b]:=r.get e
   show#[v,by rw[QHq (by rw[lQm,<-r.length];show c),gQm,f];rfl,b]
  ·rw[QQq (by rw[lQm];omega)] at q
   have:=mQg q
   rw[List.mem_replicate] at this
   cases this.2
def bh{P:X9}{w:Xc}{K:X1}{g:X3}{c:Xe}{x i:Str}{st:Stmt}{f:X8}{I:FuncData}{N ps:X6}{k:Nat}{b:cH}(F:et K x i st f I)(S:aD N ps (ay st))
  (m:∀(j:Xd) (A:X_) (h:List Env) (s:X4) (H:Hp) (E:XK),dX k (A.deeper (envOfC i (ay st) s.heap.objs.size f j))->
   qR (zq dN P w K g c N i (ay st) f j A h s H E).nox (eA st) (tS #[K,g] b)):bp P w K g c dN (k+1) f I ps (eg #[K,g] ps.length (ff N.length b)):=by
 show F.ok S (λJ H Q E ⟨R,S,Y,r,S',M,C,_⟩=>by rw[<-C.length];show M) λj A h s H J Q E hr ⟨R,S,Y,r,S',M,C,z,X,q⟩=>#[_,m j A h s H E hr,?_]
 let#[o,e1,e]:=aq X
 show#[R,_,S,o,#[zW C,z],e1,?_]
 cases o with
 |nx a1 U=>show λn a0 W t G=>by let#[u,p,y]:=vP z t G.st .non e;show q _ _ _ u p y
 |rt d U=>show λn v W t l B=>by let#[u,p,y]:=vP z t l B e;show q _ _ _ u p y
 |rl d U=>show λn a J W t l Z na ha B=>by let#[u,p,y]:=Bp z t l Z na ha B e;show q _ _ _ u p y
 |bk=>cases e
 |ct=>cases e
def Gf{P:X9}{w:Xc}{K:X1}{g:X3}{c:Xe}{x i:Str}{st:Stmt}{f:X8}{B:FuncData}{N ps:X6}{k:Nat}{b:cH}(F:et K x i st f B)(S:aD N ps (ay st))
  (m:∀(j:Xd) (A:X_) (h:List Env) (s:X4) (H:Hp) (E:XK),dX k (A.deeper (envOfC i (ay st) s.heap.objs.size f j))->
   qR (zq dN P w K g c N i (ay st) f j A h s H E).nox (eA st) (tS #[K,g] b)):bp P w K g c dN (k+1) f B ps (eg #[K,g] ps.length (M8 N.length b)):=by
 show F.ok S (λy H Q E ⟨G,S,R,r,S',C,u,_⟩=>by rw[<-u.length];show C) λj A h s H y Q E X ⟨G,S,R,r,S',C,u,Y,M,q⟩=>#[_,m j A h s H E X,?_]
 let#[o,e1,e]:=aq M
 show#[G,_,S,o,#[zW u,Y],e1,?_]
 cases o with
 |nx a0 I=>cases e;show λn Z J p z=>q _ _ _ p z.st .non
 |rt d I=>cases e;show λn v J p l t=>q _ _ _ p l t
 |rl d I=>cases e;show λn a y J p l U W ha t=>q _ _ _ p l #[a,y,L,U,W,ha,t]
 |bk=>cases e
 |ct=>cases e
noncomputable def aB(F:dr)(g:fI):aU:=λi S=>(g i S).bind λ(j,h)=>(F j h).bind λ(r,a)=>match r with
 |.d x=>some (x,a)
 |.l _=>none
noncomputable def dR(F:dr)(g:fI):fI:=λj S=>(g j S).bind λ(a,i)=>(F a i).bind λ(r,h)=>match r with
 |.d _=>none
 |.l a=>some (a,h)
def nA(n:Nat)(g:fI):Prop:=∀h S a d,g h S=some (a,d)->a.length=n
def BS:nA 0 ax:=λ_ _ _ _ e=>by cases e;rfl
def lq{n:Nat}{f:aU}{g:fI}(h:nA n g):nA (n+1) (aw f g):=λq S r j e=>by
 let#[#[d,o],m,e]:=aq e
 let#[#[i,l],a,e]:=aq e
 cases e
 rw[Qnq,h _ _ _ _ a]
def CQ(C:nA n g):∀σ H Q,tD M (aB F g) σ H Q->Ha (eg M n F) [] E0 (y2 M g) σ H Q:=λσ H Q y=>by
 let#[z,A,S,d,K,ok,e,q]:=y
 let#[#[j,o],m,e]:=aq e
 let#[#[r,w],u,e]:=aq e
 show#[z,A,S,j,o,ok,m,λi J H1 I a s=>#[i,o,j,r,w,C _ _ _ _ m,by rw[List.append_nil];show s,a,u,λt v H2 B h G=>?_]]
 cases r with
 |d x=>let#[rfl,rfl]:=bN e;show q _ _ _ (I.trans B) h G
 |l j=>cases e
def Ia(J:nA n g):∀σ H Q,tL M (dR F g) σ H Q->Ha (eg M n F) [] E0 (y2 M g) σ H Q:=λσ H Q B=>by
 let#[C,G,S,d,N,ok,e,q]:=B
 let#[#[m,s],o,e]:=aq e
 let#[#[r,A],z,e]:=aq e
 show#[C,G,S,m,s,ok,o,λj y H1 t h u=>#[j,s,m,r,A,J _ _ _ _ o,by rw[List.append_nil];show u,h,z,λw v H2 I i K=>?_]]
 cases r with
 |d x=>cases e
 | l m=>
   let#[rfl,rfl]:=bN e
   let#[a,y,rfl,fr,na,ha,rr]:=K
   show q _ _ _ _ (t.trans I) i (t.grow _ fr) na ha rr
def MJ{X:Cx}(G:bp X.prog X.w X.K X.mg X.base dN k f c ps (eg (md X) n F))(j:dX k X.A)(m:Gl X x)(d:X.mg x=some (.ref f))(h:PySem.W.keepIn X.K (.ref f)=true)(l:Binds X.K c ps [])(i:PA X (e::es) (y2 (md X) g))(o:nA n g)
  (a:autoParam ((x==("__debug__":Str))=false) cL._auto_1) (he:autoParam (starEach (e::es) X.env=(false,eval e X.env)::starEach es X.env) db._auto_1) (hpl:autoParam ((backTo b<|starEach es X.env).any (·.1)=false) db._auto_1):
  PE X (.Call (.Name x p) (e::es) [] b) (tD (md X)<|aB F g):=jl (CL G j m d h l .nil Gs i a he hpl) (CQ o)
def MI{X:Cx}(G:bp X.prog X.w X.K X.mg X.base dN k f c ps (eg (md X) n F))(j:dX k X.A)(m:Gl X x)(d:X.mg x=some (.ref f))(h:PySem.W.keepIn X.K (.ref f)=true)(l:Binds X.K c ps [])(i:PA X (e::es) (y2 (md X) g))(o:nA n g)
  (a:autoParam ((x==("__debug__":Str))=false) cL._auto_1) (he:autoParam (starEach (e::es) X.env=(false,eval e X.env)::starEach es X.env) db._auto_1) (hpl:autoParam ((backTo b<|starEach es X.env).any (·.1)=false) db._auto_1):
  PE X (.Call (.Name x p) (e::es) [] b) (tL (md X)<|dR F g):=jl (CL G j m d h l .nil Gs i a he hpl) (Ia o)
noncomputable def jL(xs:List α)(lo hi:Xb):List α:=(xs.drop<|HT.eG xs.length 0 lo).take (HT.eG xs.length xs.length hi-HT.eG xs.length 0 lo)
def aO.cut3{M:Md}{ρ:X7}{H:Hp}{ds:List D}{vs:List V}{lo hi:Xb}(h:aO M ρ H ds vs):aO M ρ H (jL ds lo hi) (A3 vs lo hi):=by
 unfold jL A3
 rw[h.length]
 show(h.drop _).take _
def Ip{α:Type}{xs:List α}{lo hi:Xb}(b:HT.eG xs.length 0 lo=0)(a:HT.eG xs.length xs.length hi=xs.length):jL xs lo hi=xs:=by
 unfold jL
 rw[b,a]
 simp
abbrev Ny:=cf->az->Option (Option Int×az)
def P1(M:Md)(f:Ny):TO:=λg H Q=>∃d e S o c,Ok M d e S g H/\f e S=some (o,c)/\∀a b,bB d H a b->fg M a c b->Q o b
noncomputable def uQ:Ny:=λ_ S=>some (none,S)
noncomputable def ub(f:aU):Ny:=λh S=>(f h S).bind λ(d,g)=>match d with
 |.int i=>some (some i,g)
 |_=>none
def RR{t t':TO}(h:PO X o t)(w:∀σ H Q,t' σ H Q->t σ H Q):PO X o t':=λd s σ H Q I q=>h d s σ H Q I (w _ _ _ q)
def Qx:PO X none (P1 (md X) uQ):=RR Jc λh H Q ⟨f,g,S,o,d,ok,e,q⟩=>by cases e;show q _ _ bB.refl ok.st
def Rv(h:PE X e (tD (md X) f)):PO X (some e) (P1 (md X)<|ub f):=RR (JW h) λp H Q i=>by
 let#[k,l,S,o,s,ok,e,q]:=i
 let#[#[d,n],m,e]:=aq e
 dsimp only at e
 split at e
 ·let#[rfl,rfl]:=bN e
  show#[k,l,S,_,n,ok,m,λg v t x st r=>?_]
  cases r
  show#[_,L,q _ _ x st]
 ·cases e
noncomputable def sF(f:aU)(lo hi:Ny):aU:=λg S=>(f g S).bind λ(d,m)=>(lo g m).bind λ(l,i)=>(hi g i).bind λ(h,k)=>match d with
 |.tup n=>some (.tup (jL n l h),k)
 |_=>none
def Qg{X:Cx}{e:Expr}{j:Pos}{lo hi:Option Expr}{J:Pos}{f:aU}{l h:Ny}(he:PE X e (tD (md X) f))(hl:PO X lo (P1 (md X) l))(U:PO X hi (P1 (md X) h)):PE X (.Subscript e (.Slice lo hi none J) j) (tD (md X)<|sF f l h):=
 jl (Fq Ih he hl U) λσ H Q P=>by
  let#[R,t,S,d,S',ok,e,q]:=P
  let#[#[x,F],Y,e]:=aq e
  let#[#[G,B],N,e]:=aq e
  let#[#[z,W],Z,e]:=aq e
  cases x with
  | tup A=>
    dsimp only at e
    let#[rfl,rfl]:=bN e
    show#[R,t,S,_,F,ok,Y,λr v H1 w g K=>#[r,t,F,G,B,ok.to w g,N,λn H2 u o=>#[n,t,B,z,W,(ok.to w g).to u o,Z,λM H3 y i=>?_]]]
    let k:=(w.trans u).trans y
    let I:=K.ext (u.trans y)
    cases I with
    | tup C m=>
      show#[_,_,L,gh.of C,λc=>?_,λc p s=>?_]
      · have:jL A G z=A:=Ip (by rw[m.length];show c.1) (by rw[m.length];show c.2)
        rw[this] at q
        show q _ _ _ k i<|.tup C m
      · show q _ _ _ (k.trans<|bB.laid s) (i.lay s)<|.tup aR (m.cut3.ext<|bB.laid s)
  |_=>cases e
open Classical in
def GK(f g:dU):fI:=λh S=>(f h S).bind λ(p,i)=>(g h i).bind λ(r,d)=>if p.2.isM=true/\r.2.isM=true/\p.2.stays d p.1/\p.1.length+r.1.length<=sizeLine then some (p.1++r.1,d) else none
def RS(U:PE X a (tQ (md X) f))(A:PE X b (tQ (md X) g)):PE X (.BinOp a .Add b j) (tL (md X)<|GK f g):=jl (oD Ls U A) λY H Q K=>by
 let#[M,r,S,d,Z,ok,e,q]:=K
 let#[#[#[F,t],v],R,e]:=aq e
 let#[#[#[N,x],J],I,e]:=aq e
 dsimp only at e
 split at e
 ·rename_i c
  let#[rfl,rfl]:=bN e
  show#[M,r,S,F,t,v,ok,R,λm a W H1 w l C z=>#[m,r,v,N,x,J,ok.to w l,I,λB b G H2 s h y u=>?_]]
  let#[n,P,o]:=C.to z s h c.2.2.1
  let i:=w.trans s
  show#[_,_,n,G,L,L,P.sqM c.1,y.sqM c.2.1,by rw[<-o.length,<-u.length];show c.2.2.2,λp k=>?_]
  show q _ _ _ _ (i.trans<|bB.laid k) (h.lay k) (i.grow _ k) (cD i h k) aR ((o.append u).ext (bB.laid k))
 ·cases e
open Classical in
def FY(f:dU)(g:aU):fI:=λh S=>(f h S).bind λ(p,i)=>(g h i).bind λ(r,d)=>match r with
 |.int k=>if p.2.isM=true/\p.2.stays d p.1/\ -(2^63)<=k/\k<2^63/\p.1.length*k.toNat<=sizeLine then some ((List.replicate k.toNat p.1).flatten,d) else none
 |_=>none
def RO(R:PE X a (tQ (md X) f))(A:PE X b (tD (md X) g)):PE X (.BinOp a .Mult b j) (tL (md X)<|FY f g):=jl (oD M9 R A) λW H Q J=>by
 let#[K,u,S,d,Y,ok,e,q]:=J
 let#[#[#[F,t],x],P,e]:=aq e
 let#[#[r,I],G,e]:=aq e
 cases r with
 | int k=>
   dsimp only at e
   split at e
   · rename_i c
     let#[rfl,rfl]:=bN e
     show#[K,u,S,F,t,x,ok,P,λn a U H1 y m C z=>#[n,u,x,_,I,ok.to y m,G,λB w H2 v h N=>?_]]
     let#[o,M,s]:=C.to z v h c.2.1
     let i:=y.trans v
     cases N
     show#[_,k,o,L,L,M.sqM c.1,c.2.2.1,c.2.2.2.1,by rw[<-s.length];show c.2.2.2.2,λp l=>?_]
     show q _ _ _ _ (i.trans<|bB.laid l) (h.lay l) (i.grow _ l) (cD i h l) aR ((s.rep _).ext (bB.laid l))
   · cases e
 |_=>cases e
open Classical in
def eqQ(d:Bool)(f g:dU):aU:=λl S=>(f l S).bind λ(p,m)=>(g l m).bind λ(r,h)=>if p.2.isL=true/\r.2.isL=true/\p.2.stays h p.1 then(ip p.1).bind λi=>(ip r.1).bind λk=>some (.bl (if d then !Ca i k else Ca i k),h) else none
def N4:∀σ H Q,tD (md X) (eqQ i f g) σ H Q->K5 (Py X.K i) (tQ (md X) f) (tQ (md X) g) σ H Q:=λσ H Q F=>by
 let#[G,n,S,d,Y,ok,e,q]:=F
 let#[#[#[A,t],p],N,e]:=aq e
 let#[#[#[I,s],C],B,e]:=aq e
 dsimp only at e
 split at e
 ·rename_i c
  let#[Z,P,e]:=aq e
  let#[W,R,e]:=aq e
  let#[rfl,rfl]:=bN e
  show#[G,n,S,A,t,p,ok,N,λm a U H1 r l z w=>#[m,n,p,I,s,C,ok.to r l,B,λx b y H2 o h v M=>?_]]
  let#[k,J,u]:=z.to w o h c.2.2
  let#[rfl,f1]:=kn u P
  let#[rfl,f2]:=kn M R
  show#[a,b,k,y,L,L,J.sqL c.1,v.sqL c.2.1,f1,f2,q _ _ _ (r.trans o) h<|.bl _]
 ·cases e
def RC{X:Cx}(h:X.A.units<cLine)(d:PE X a (tQ (md X) f))(i:PE X b (tQ (md X) g)):PT X (.Compare a [.NotEq] [b] j) (tB (md X)<|aS<|eqQ true f g):=r_ N4 (rq (Mt h) d i<|mQ _)
def fg.putL{M:Md}{ρ:X7}{S:az}{H:Hp}{k:Nat}{a:X8}{ds es:List D}{ws:List V}(st:fg M ρ S H)(d:ρ[k]?=some a)(f:S[k]?=some (.lst ds))(r:aO M ρ H es ws):fg M ρ (S.set k<|.lst es) (upd H a<|.lst ws)/\bB ρ H ρ (upd H a<|.lst ws):=by
 let#[i,g,l]:=st.obj k a _ d f
 show st.put d f #[ws,aR,r.off g] λx h=>by rw[g] at h;cases h;show id
noncomputable def Fj(m:List D->List D->Option (List D×D))(f:aU)(g:fI):aU:=λl S=>(f l S).bind λ(x,i)=>match x with
 | .ref k=>(g l i).bind λ(n,h)=>match i[k]?,h[k]? with
   |some (.lst _),some (.lst ds)=>(m ds n).bind λ(o,d)=>some (d,h.set k<|.lst o)
   |_,_=>none
 |_=>none
def NB(M:Md)(r:V->List V->Hp->VK->Prop)(m:List D->List D->Option (List D×D)):Prop:=∀{f:X7} {H:Hp} {a:X8} {n i l:List D} {d:D} {k h:List V} {Q:VK},H a=some (.lst k)->aO M f H n k->aO M f H i h->m n i=some (l,d)->
 (∀g w,aO M f H l g->Rel M f H d w->Q w (upd H a<|.lst g))->r (.ref a) h H Q
def Qq(R:NB (md X) r m):∀σ H Q,tD (md X) (Fj m f g) σ H Q->PX X.K "list" r (tD (md X) f) (y2 (md X) g) σ H Q:=λσ H Q W=>by
 let#[Y,y,S,d,S',ok,e,q]:=W
 let#[#[x,B],e1,e]:=aq e
 cases x with
 | ref k=>
   dsimp only at e
   let#[#[ys,P],N,e]:=aq e
   dsimp only at e
   split at e
   · rename_i I ds t l
     let#[#[es,d'],e3,e]:=aq e
     let#[rfl,rfl]:=bN e
     show#[Y,y,S,_,B,ok,e1,λs v H1 C h G=>?_]
     cases G with
     | ref A=>
       rename_i a
       let#[o,U,_]:=h.obj k a _ A t
       show#[.inl #[L,o,ji.of U],s,y,B,ys,P,ok.to C h,N,λJ us H2 z i Z=>?_]
       let n:=cn z.pre A
       let#[vs,M,F]:=i.obj k a _ n l
       show R M F Z e3 λws w rw rd=>?_
       let#[p,u]:=i.putL n l rw
       show q _ _ _ ((C.trans z).trans u) p<|rd.ext u
   · cases e
 |_=>cases e
noncomputable def pO:List D->List D->Option (List D×D):=λd f=>match f with
 | [y]=>if d.length<sizeLine then some (d++ [y],.non) else none
 |_=>none
def L7:NB M B_ pO:=by
 intro n H a p m o d h l Q k g f e q
 unfold pO at e
 split at e
 ·split at e
  ·rename_i hl
   let#[rfl,rfl]:=bN e
   cases f with
   | cons f i=>
     cases i
     show#[a,h,_,L,L,k,by rw[<-g.length];show hl,q _ _ (g.append<|.cons f .nil) .non]
  ·cases e
 ·cases e
def yB{h d:Pos}(n:PE X o (tD (md X) f))(p:PE X e (tD (md X) g))(i:autoParam (attributeBase o "append" X.env (eval o X.env)=eval o X.env) db._auto_1) (l:autoParam (((backTo d (starEach [e] X.env)).all (λx=> !x.1)&&(backToKw d (keywordEach [] X.env)).all (λx=>x.1.isSome)
   &&decide ([e].length+([]:List Keyword).length+(if ([]:List Keyword).isEmpty then 0 else 1)<30))=true) db._auto_1)
  (k:autoParam ((h.endLine==d.line)=true) db._auto_1) (m:autoParam (starEach [e] X.env= [(false,eval e X.env)]) db._auto_1):PE X (.Call (.Attribute o "append" h) [e] [] d) (tD (md X)<|Fj pO f<|aw g ax):=
 jl (zo PySem.F.plainAttrs_list PySem.F.slot_list_append PySem.F.type_list_append pI n (cN p jV m) i l k m) (Qq L7)
noncomputable def G3(f:aU)(g:dU):aU:=λi S=>(f i S).bind λ(x,h)=>match x with
 | .ref k=>(g i h).bind λ(p,d)=>match h[k]?,d[k]? with
   |some (.lst _),some (.lst ds)=>if p.2.isM=true/\ds.length+p.1.length<=sizeLine then some (.non,d.set k<|.lst (ds++p.1)) else none
   |_,_=>none
 |_=>none
def Oq:∀σ H Q,tD (md X) (G3 f g) σ H Q->PX X.K "list" C2 (tD (md X) f) (Hb (tQ (md X) g) Iz) σ H Q:=λσ H Q U=>by
 let#[W,u,S,d,S',ok,e,q]:=U
 let#[#[x,A],e1,e]:=aq e
 cases x with
 | ref k=>
   dsimp only at e
   let#[#[#[ys,t],P],N,e]:=aq e
   dsimp only at e
   split at e
   · rename_i G ds r j
     split at e
     · rename_i c
       let#[rfl,rfl]:=bN e
       show#[W,u,S,_,A,ok,e1,λp v H1 B h F=>?_]
       cases F with
       | ref z=>
         rename_i a
         let#[n,R,_]:=h.obj k a _ z r
         show#[.inl #[L,n,ji.of R],p,u,A,ys,t,P,ok.to B h,N,λI b Z H2 w i C y=>?_]
         let m:=cn w.pre z
         let#[M,Y,s]:=i.obj k a _ m j
         show#[a,b,M,Z,L,L,Y,C.sqM c.1,by rw[<-s.length,<-y.length];show c.2,?_]
         let#[o,J]:=i.putL m j (s.append y)
         show q _ _ _ ((B.trans w).trans J) o .non
     · cases e
   · cases e
 |_=>cases e
def OY{h d:Pos}(n:PE X o (tD (md X) f))(p:PE X e (tQ (md X) g))(i:autoParam (attributeBase o "extend" X.env (eval o X.env)=eval o X.env) db._auto_1) (k:autoParam (((backTo d (starEach [e] X.env)).all (λx=> !x.1)&&(backToKw d (keywordEach [] X.env)).all (λx=>x.1.isSome)
   &&decide ([e].length+([]:List Keyword).length+(if ([]:List Keyword).isEmpty then 0 else 1)<30))=true) db._auto_1)
  (j:autoParam ((h.endLine==d.line)=true) db._auto_1) (m:autoParam (starEach [e] X.env= [(false,eval e X.env)]) db._auto_1):PE X (.Call (.Attribute o "extend" h) [e] [] d) (tD (md X)<|G3 f g):=
 jl (zo PySem.F.plainAttrs_list PySem.F.slot_list_extend PySem.F.type_list_extend Eu n (bJ p de m) i k j m) Oq
noncomputable def MA(f g:aU):lO:=λd h S=>(f h S).bind λ(x,n)=>(g h n).bind λ(y,m)=>match x,y with
 | .ref k,.int i=>match m[k]? with
   |some (.lst ds)=>(HW ds.length i).bind λj=>some (h,m.set k<|.lst (ds.set j d))
   |_=>none
 |_,_=>none
def Q7:∀v σ H Q,tG (md X) (MA f g) v σ H Q->Oj (tD (md X) f) (tD (md X) g) KP v σ H Q:=λv σ H Q M=>by
 let#[N,w,S,d,Y,S',ok,r,e,q]:=M
 let#[#[x,C],U,e]:=aq e
 let#[#[y,K],J,e]:=aq e
 cases x with
 | ref k=>
   cases y with
   | int i=>
     dsimp only at e
     split at e
     · rename_i ds z
       let#[j,W,e]:=aq e
       let#[rfl,rfl]:=bN e
       show#[N,w,S,_,C,ok,U,λs Z H1 F o n=>#[s,w,C,_,K,ok.to F o,J,λG v2 H2 A h R=>?_]]
       cases R
       let n:=n.ext A
       cases n with
       | ref B=>
         let#[I,P,u]:=h.obj k _ _ B z
         let m:=F.trans A
         let#[p,t]:=h.putL B z (aO.set (r.ext m) j u)
         show#[_,I,i,j,L,L,P,by rw[<-u.length];show W,q _ _ _ (m.trans t) ((ok.to m h).to t p)]
     · cases e
   |_=>cases e
 |_=>cases e
def R7(d:PE X o (tD (md X) f))(hi:PE X i (tD (md X) g))
  (h:autoParam (∀v,assign (.Subscript o i l) X.env v=(do
   let ov<-holding [v] (eval o X.env)
   let iv<-holding [v,ov] (eval i X.env)
   standAt l
   holding [v,ov,iv] (setItem ov iv v)
   release [v,ov,iv] [])) dl._auto_1):PG X (.Subscript o i l) (tG (md X) (MA f g)):=QQ (M4 d hi set_list h) Q7
noncomputable def yp(i j:Nat)(f:fI):cH:=λd S=>(f d S).bind λ(h,g)=>match h with
 | [v,w]=>some (.nx ((d.set i<|some v).set j (some w)) g)
 |_=>none
def F5{X:Cx}{st:Stmt}{i j:Nat}{f:fI}(h:PS X st (PP i j<|y2 (md X) f)):PS X st (tS (md X)<|yp i j f):=Dc h λD w H m=>by
 let#[n,p,S,o,ok,e,q]:=m
 let#[#[v,t],s,e]:=aq e
 dsimp only at e
 split at e
 ·cases e
  show#[n,p,S,_,t,ok,s,λk u y x st r=>?_]
  cases r with
  | cons r d=>
    cases d with
    | cons g d=>
      cases d
      show#[_,_,L,q _ _ _ x #[((ok.en.ext x).set r).set g,st]]
 ·cases e
noncomputable def dE(cells:List (Str×Addr)):List (Str×NameKind)->List (Str×Addr)->List (Str×Addr)
 | [],acc=>acc
 |(n,k)::r,acc=>if (k==.free)=true then dE cells r ((n,(cells.lookup n).getD 0)::acc) else dE cells r acc
theorem pd{env:Env}:∀(b:List (Str×NameKind)) (d:List (Str×Addr)),(∀y∈b,y.2=.free->(env.cells.lookup y.1).isSome=true)->
  (forIn b d λ(x:Str×NameKind) (g:List (Str×Addr))=>(do
   if (x.2==NameKind.free)=true then do
    let c<-cellOf env x.1
    pure (ForInStep.yield ((x.1,c)::g))
   else pure (ForInStep.yield g):Sem (ForInStep (List (Str×Addr)))))=(pure (dE env.cells b d):Sem _)
 | [],d,_=>rfl
 | (n,k)::r,d,h=>by
   rw[List.forIn_cons]
   unfold dE
   by_cases c:(k==NameKind.free)=true
   · let#[a,f]:=Option.isSome_iff_exists.mp (h (n,k) QBq (by simpa using c))
     erw[c,if_true]
     have i:cellOf env n=pure a:=by
       unfold cellOf
       rw[f]
     rw[i,pure_bind,pure_bind,f]
     show pd r _ λy e=>h y (Qpq _ e)
   · erw[c,Bool.false_eq_true,if_false]
     rw[pure_bind]
     show pd r _ λy e=>h y (Qpq _ e)
def Hh{a:Scope}{env:Env}(h:∀y∈a.names,y.2=.free->(env.cells.lookup y.1).isSome=true):closureFor a env=pure (dE env.cells a.names []):=by
 unfold closureFor
 have:=pd a.names [] h
 rw[bind_pure]
 show this
theorem sW:∀(a:List (Str×NameKind)) (b:List (Str×Addr)) (p:Str×Addr),p∈dE cells a b->p∈b\/∃n,(n,NameKind.free)∈a/\p=(n,(cells.lookup n).getD 0)
 | [],b,p,h=>.inl h
 | (n,k)::r,b,p,h=>by
   unfold dE at h
   split at h
   · rename_i c
     rcases sW r _ p h with h|⟨m,e,d⟩
     · rcases Qsq.mp h with h|h
       · show .inr #[n,by rw[show k=NameKind.free by simpa using c];show QBq,h]
       · show .inl h
     · show .inr #[m,Qpq _ e,d]
   · rcases sW r _ p h with h|⟨m,e,d⟩
     · show .inl h
     · show .inr #[m,Qpq _ e,d]
theorem tP:∀(a:List (Str×NameKind)) (b:List (Str×Addr)),((x,NameKind.free)∈a\/∃c,(x,c)∈b)->∃c,(x,c)∈dE cells a b
 | [],b,h=>by
   rcases h with h|h
   · cases h
   · show h
 | (n,k)::r,b,h=>by
   unfold dE
   split
   · rename_i c
     show tP r _ ?_
     rcases h with h|⟨c,h⟩
     · rcases Qsq.mp h with h|h
       · cases h;show .inr #[_,QBq]
       · show .inl h
     · show .inr #[c,Qpq _ h]
   · rename_i c
     show tP r _ ?_
     rcases h with h|h
     · rcases Qsq.mp h with h|h
       · cases h;show absurd L c
       · show .inl h
     · show .inr h
theorem lZ:∀{l:List (Str×Addr)},(x,c)∈l->∃a,l.lookup x=some a
 | [],h=>by cases h
 | (n,d)::r,h=>by
   unfold List.lookup
   by_cases e:(x==n)=true
   · rw[e];show#[d,L]
   · have b:(x==n)=false:=by simpa using e
     rw[b]
     rcases Qsq.mp h with h|h
     · cases h;simp at e
     · show lZ h
noncomputable def tj(c:X6)(a:Str->Option NameKind)(b:List (Str×NameKind)):List (Option Nat)->List Str->Bool
 |some j::js,x::N=>(c[j]? ==some x)&&(a x==some .cell||a x==some .free)&&(b.lookup x==some .free)&&tj c a b js N
 |none::js,_::N=>tj c a b js N
 |_,_=>true
theorem uu:∀{js:List (Option Nat)} {N:X6} {k j:Nat} {x:Str},tj c a b js N=true->js[k]?=some (some j)->N[k]?=some x->c[j]?=some x/\(a x=some .cell\/a x=some .free)/\b.lookup x=some .free
 | some i::js,y::N,0,j,x,h,h1,h2=>by
   cases h1
   cases h2
   erw[tj,QCq,Bool.or_eq_true,beq_iff_eq] at h
   show#[h.1.1.1,h.1.1.2,h.1.2]
 | some i::js,y::N,k+1,j,x,h,h1,h2=>by
   erw[tj,QCq] at h
   show uu h.2 (by simpa using h1) (by simpa using h2)
 |none::js,y::N,0,j,x,h,h1,h2=>by cases h1
 |none::js,y::N,k+1,j,x,h,h1,h2=>uu (k:=k) (by simpa [tj] using h) (by simpa using h1) (by simpa using h2)
 | [],N,k,j,x,h,h1,h2=>by simp at h1
 |some i::js,[],k,j,x,h,h1,h2=>by simp at h2
 |none::js,[],k,j,x,h,h1,h2=>by simp at h2
theorem oE{env:Env}:∀{a:List (Str×NameKind)},a.lookup x=some .free->(a.map λ(n,k)=>if (k==NameKind.free&&env.scope.kind==.function&&env.kindOf n==some .cell) then(n,NameKind.cell) else(n,k)).lookup x=some .cell∨
  (a.map λ(n,k)=>if (k==NameKind.free&&env.scope.kind==.function&&env.kindOf n==some .cell) then(n,NameKind.cell) else(n,k)).lookup x=some .free
 | [],h=>by cases h
 | (n,k)::r,h=>by
   unfold List.lookup at h
   rw[QDq]
   by_cases e:(x==n)=true
   · rw[e] at h
     cases h
     dsimp only
     split
     · left;unfold List.lookup;rw[e]
     · right;unfold List.lookup;rw[e]
   · have b:(x==n)=false:=by simpa using e
     rw[b] at h
     let c:=oE (env:=env) h
     dsimp only
     split <;>(unfold List.lookup;rw[b];show c)
def aL.gen{X:Cx}{d:Scope}(k:d.kind=.function)(o:d.names.all (λy=>y.2 !=.cell)=true)(r:d.names.all (λy=>y.2 !=.local||d.names.lookup y.1==some .local)=true)
  (p:d.names.all (λy=>y.2 !=.free||(X.env.cells.lookup y.1).isSome)=true) (u:tj X.N X.env.kindOf d.names js N=true) (v:js.length=N.length):aL X N js d (dE X.env.cells d.names []) where
 kind:=k
 nocell:=λy f=>by
  have:=QUq.mp o y f
  simpa using this
 names:=λy f e=>by
  have:=QUq.mp r y f
  rw[e] at this
  simpa using this
 clos:=Hh λy f e=>by
  have:=QUq.mp p y f
  rw[e] at this
  simpa using this
 sub:=λx c h=>by
  rcases sW _ _ _ (PySem.mem_of_lookup h) with h|⟨n,m,e⟩
  ·cases h
  ·cases e
   have:=QUq.mp p _ m
   have w:(X.env.cells.lookup x).isSome=true:=by simpa using this
   let#[c,g]:=Option.isSome_iff_exists.mp w
   rw[g]
   rfl
 has:=λx h=>by
  have l:(x,NameKind.free)∈d.names:=by
   have:∃k,(relabel d X.env).names.lookup x=some k/\(k=.cell\/k=.free):=by
    rcases h with h|h
    ·show#[_,h,.inl L]
    ·show#[_,h,.inr L]
   let#[B,s,g]:=this
   let q:=PySem.mem_of_lookup s
   unfold relabel at q
   let#[#[n,t],f,i]:=Qkq.mp q
   dsimp only at i
   split at i
   ·rename_i c
    cases i
    erw[QCq] at c
    have:t=NameKind.free:=by simpa using c.1.1
    rw[<-this]
    show f
   ·cases i
    rcases g with z|z
    ·have:=QUq.mp o _ f
     rw[z] at this
     simp at this
    ·rw[<-z];show f
  let#[c,g]:=tP (cells:=X.env.cells) d.names [] (.inl l)
  show lZ g
 cap:=λk j x A m=>by
  let#[a,b,c]:=uu u A m
  show#[a,b,?_]
  unfold relabel
  show oE c
 len:=v
structure fm(P:X9)(w:Xc)(K:X1)(mg:X3)(base:Xe)(k:Nat)(x:Str)(ps:X6)(F:dr):Prop where
 ex:∃f fd,bp P w K mg base dN k f fd ps (eg #[K,mg] ps.length F)/\Binds K fd ps []/\PySem.W.keepIn K (.ref f)=true/\mg x=some (.ref f)
def Po{X:Cx}(C:fm X.prog X.w X.K X.mg X.base k x ps F)(i:dX k X.A)(j:Gl X x)(h:PA X (e::es) (y2 (md X) g))(l:nA ps.length g)
  (c:autoParam ((x==("__debug__":Str))=false) cL._auto_1) (he:autoParam (starEach (e::es) X.env=(false,eval e X.env)::starEach es X.env) db._auto_1) (hpl:autoParam ((backTo a<|starEach es X.env).any (·.1)=false) db._auto_1):
  PE X (.Call (.Name x p) (e::es) [] a) (tD (md X)<|aB F g):=by
 let#[f,o,G,b,d,m]:=C.ex
 show MJ G i j m d b h l c he hpl
def N8{X:Cx}(C:fm X.prog X.w X.K X.mg X.base k x ps F)(i:dX k X.A)(j:Gl X x)(h:PA X (e::es) (y2 (md X) g))(l:nA ps.length g)
  (c:autoParam ((x==("__debug__":Str))=false) cL._auto_1) (he:autoParam (starEach (e::es) X.env=(false,eval e X.env)::starEach es X.env) db._auto_1) (hpl:autoParam ((backTo a<|starEach es X.env).any (·.1)=false) db._auto_1):
  PE X (.Call (.Name x p) (e::es) [] a) (tL (md X)<|dR F g):=by
 let#[f,o,G,b,d,m]:=C.ex
 show MI G i j m d b h l c he hpl
def fm.mono{P:X9}{w:Xc}{K:X1}{c:X3}{a:Xe}{j k:Nat}{x:Str}{ps:X6}{F:dr}(C:fm P w K c a j x ps F)(h:j<=k):fm P w K c a k x ps F:=by
 let#[f,d,G,b,e,m]:=C.ex
 show#[f,d,G.mono h,b,e,m]
structure Bl(mg:X3):Prop where
 len:mg "len"=none
 tuple:mg "tuple"=none
 list:mg "list"=none
 dict:mg "dict"=none
 set:mg "set"=none
 int:mg "int"=none
 str:mg "str"=none
 bool:mg "bool"=none
 all:mg "all"=none
 any:mg "any"=none
 range:mg "range"=none
 zip:mg "zip"=none
 sorted:mg "sorted"=none
 isi:mg "isinstance"=none
 min:mg "min"=none
 max:mg "max"=none
 abs:mg "abs"=none
 enum:mg "enumerate"=none
 reversed:mg "reversed"=none
open AutoSeq1 in
def ml(l:X8)(items:Xa)(n:Nat)(b:X8)(a:Xa)(o:Nat)(m:Option Addr)(sl:Array (Option Value))(k:¬(!items.isEmpty&&Builtin.List.listTooLong (items.size+a.size))=true)(c:items.size<=sizeLine)(e:items.size+a.size<=sizeLine+1):
  Meets (Builtin.«list.extend» #[[.ref l,.ref b],[]]) (λ_ R s=>s.heap.get? l=some {cls:=.type "list",dict:=none,data:=.seq items n,slots:= (List.toArray [])}/\s.heap.get? b=some {cls:=.type "tuple",dict:=m,data:=.seq a o,slots:=sl}/\R (.ok (.ret Value.none)) {s with heap:=s.heap.update l (Obj.mapSeq λx=>x++a),toks:=s.toks}):=
 .of_wp λi w A R s h=>by
  let#[t,g,d,p,q]:=s;let#[hl,j,h]:=h;let r:=idx_int;let v:=AutoSeq1.sub_tuple_tuple;let z:=AutoSeq1.sub_list_list;let y:=AutoSeq1.sub_tuple_list;let u:=AutoSeq1.sub_list_tuple;
  have f:(items++a).size<=sizeLine+1:=by rw[Array.size_append];show e
  wp_walk using (wpAny_updateSeq hl L (hz:=c) (_hz':=f)),AutoSeq1.wpAny_loadPart' hl,AutoSeq1.wpAny_loadPart' j;show#[_,L,h]
def IG:Qw X "list.extend" (λx vs H Q=>∃l b xs i,x=.ref l/\vs= [.ref b]/\H l=some (.lst xs)/\gh X.K H b i/\xs.length+i.length<=sizeLine/\Q .non (upd H l<|.lst (xs++i))):=by
 intro m s P H x vs v R Q I J B h
 let#[l,b,xs,i,rfl,rfl,hH,hB,hz,q]:=h
 cases J
 let#[u,rfl,ru]:=B.one
 cases ru
 let#[z,f,n,r,hl,e]:=I.lstM hH
 let#[d,o,#[#[t,M,w,sl],C,p,N,k],G]:=I.tuple hB
 let y:=o.length
 simp only at p k
 subst p k
 have j:f.toArray.size+d.toArray.size<=sizeLine:=by rw[Qjq,Qjq];omega
 have g:¬(!f.toArray.isEmpty&&Builtin.List.listTooLong (f.toArray.size+d.toArray.size))=true:=by
  rw[sZ j,Bool.and_false]
  show Qtq
 show call_meets F.slot_list_extend #[_,e,L] F.entry_list_extend (F.args_list_extend_2 _ _)
  (ml l f.toArray n b d.toArray N M sl g (by rw[Qjq];omega) (!0)) #[e,C,?_]
 show#[.non,_,I.lset (its':=f++d) hH e (by simp) (r.append o) ?_,L,q]
 rw[lQa]
 omega
noncomputable def vI(f:aU)(g:dU):aU:=λi S=>(f i S).bind λ(x,h)=>match x with
 | .ref k=>(g i h).bind λ(p,d)=>match h[k]?,d[k]? with
   |some (.lst _),some (.lst ds)=>if p.2.isL=false/\ds.length+p.1.length<=sizeLine then some (.non,d.set k<|.lst (ds++p.1)) else none
   |_,_=>none
 |_=>none
def Ld:∀σ H Q,tD (md X) (vI f g) σ H Q->PX X.K "list" (λx vs H Q=>∃l b xs o,x=.ref l/\vs= [.ref b]/\H l=some (.lst xs)/\gh X.K H b o/\xs.length+o.length<=sizeLine/\Q .non (upd H l<|.lst (xs++o))) (tD (md X) f) (Hb (tQ (md X) g) Iz) σ H Q:=λσ H Q W=>by
 let#[Y,w,S,d,S',ok,e,q]:=W
 let#[#[x,C],e1,e]:=aq e
 cases x with
 | ref k=>
   dsimp only at e
   let#[#[#[ys,t],R],P,e]:=aq e
   dsimp only at e
   split at e
   · rename_i J ds s j
     split at e
     · rename_i c
       let#[rfl,rfl]:=bN e
       show#[Y,w,S,_,C,ok,e1,λr v H1 F h I=>?_]
       cases I with
       | ref B=>
         rename_i a
         let#[n,U,_]:=h.obj k a _ B s
         show#[.inl #[L,n,ji.of U],r,w,C,ys,t,R,ok.to F h,P,λM b us H2 y i G z=>?_]
         let m:=cn y.pre B
         let#[vs,Z,u]:=i.obj k a _ m j
         show#[a,b,vs,us,L,L,Z,G.sqT c.1,by rw[<-u.length,<-z.length];show c.2,?_]
         let#[p,N]:=i.putL m j (u.append z)
         show q _ _ _ ((F.trans y).trans N) p .non
     · cases e
   · cases e
 |_=>cases e
def Nt{h d:Pos}(m:PE X o (tD (md X) f))(n:PE X e (tQ (md X) g))(i:autoParam (attributeBase o "extend" X.env (eval o X.env)=eval o X.env) db._auto_1) (k:autoParam (((backTo d (starEach [e] X.env)).all (λx=> !x.1)&&(backToKw d (keywordEach [] X.env)).all (λx=>x.1.isSome)
   &&decide ([e].length+([]:List Keyword).length+(if ([]:List Keyword).isEmpty then 0 else 1)<30))=true) db._auto_1)
  (j:autoParam ((h.endLine==d.line)=true) db._auto_1) (l:autoParam (starEach [e] X.env= [(false,eval e X.env)]) db._auto_1):PE X (.Call (.Attribute o "extend" h) [e] [] d) (tD (md X)<|vI f g):=
 jl (zo PySem.F.plainAttrs_list PySem.F.slot_list_extend PySem.F.type_list_extend IG m (bJ n de l) i k j l) Ld
noncomputable def kf(x:V):List V->Option Nat
 | []=>none
 |y::r=>if pT y x=true then some 0 else(kf x r).map (·+1)
theorem B5:∀{xs:List V} {j:Nat},kf x xs=some j->(∃y,xs[j]?=some y/\pT y x=true)/\∀m y,m<j->xs[m]?=some y->pT y x=false
 | [],_,h=>by cases h
 | y::r,j,h=>by
   unfold kf at h
   split at h
   · rename_i c
     cases h
     show#[#[y,L,c],λm _ d=>absurd d<|Nat.not_lt_zero _]
   · rename_i c
     let#[i,n,rfl]:=oQm.mp h
     let#[#[z,k,g],l]:=B5 n
     show#[#[z,by simpa using k,g],λm w d f=>?_]
     cases m with
     |zero=>cases f;simpa using c
     |succ m=>show l m w (!0) (by simpa using f)
def Fp:Ob X "list.index" (λx vs H Q=>∃a xs y j,x=.ref a/\vs= [y]/\ji X.K H a xs/\gw y=true/\xs.all gw=true/\kf y xs=some j/\Q (.int (j:Nat)) H):=by
 intro G s σ H x vs v us Q I rx U h
 let#[a,xs,y,j,rfl,rfl,hq,fy,fs,hj,q]:=h
 cases rx
 let#[u,rfl,ru]:=U.one
 let#[f,r,Y,hz]:=I.list hq
 let#[#[N,dd,R,sl],n,e,J,g,C]:=Y
 simp only at J g C
 subst J g C
 let#[#[z,t,P],Z]:=B5 hj
 let hl:=r.length
 have S:j<xs.length:=(gQs.mp t).1
 let#[w,B,p]:=r.get t
 have i:f.toArray[j]'(by rw[Qjq];omega)=w:=by
  have:=(gQs.mp B).2
  simpa using this
 let M:=j9
 show call_meets PySem.F.slot_list_index #[_,e,L] PySem.F.entry_list_index (PySem.F.args_list_index_2 _ _)
  (SeqAt.list_indexAt a f.toArray n none sl u (AE y) j (by rw[Qjq];omega) (!0) (by rw[i,xh p (QUq.mp fs z<|mQg t)];show P) λm hm k=>?_)
  #[e,λw B=>jh ru fy r fs w (by simpa using B),#[.int j,H,I.tok _,#[_,L],q]]
 have d:m<xs.length:=by rw[Qjq] at hm;omega
 let#[w2,l,o]:=r.get (gQe d)
 have W:f.toArray[m]=w2:=by
  have:=(gQs.mp l).2
  simpa using this
 rw[W,xh o (QUq.mp fs _<|List.getElem_mem d)]
 show Z m _ k<|gQe d
end DL
namespace Zq
open PySem
def It(t:Bool)(h:Xe)(i a:X8)(k:Nat):Prop:=if t=true then h.IsTupleIter i a k else h.IsListIter i a k
def Sq(t:Bool)(h:Xe)(a:X8)(xs:Xa):Prop:=if t=true then h.IsTuple a xs else h.IsList a xs
theorem It.at{h':Xe}(g:It t h i a k)(f:∀o,h.get? i=some o->h'.get? i=some o):It t h' i a k:=by
 cases t with
 |true=>show(show h.IsTupleIter i a k from g).at f
 |false=>show(show h.IsListIter i a k from g).at f
def It.ext(g:It t h i a k)(f:Heap.ExtBut c h h')(n:i≠c):It t h' i a k:=g.at λo e=>f i o n e
def Sq.at{h':Xe}(g:Sq t h a xs)(f:∀o,h.get? a=some o->h'.get? a=some o):Sq t h' a xs:=by
 cases t with
 |true=>let#[o,e,r]:=(show h.IsTuple a xs from g);show(show h'.IsTuple a xs from#[o,f o e,r])
 |false=>let#[o,e,r]:=(show h.IsList a xs from g);show(show h'.IsList a xs from#[o,f o e,r])
def Sq.ext(g:Sq t h a xs)(f:Heap.ExtBut c h h')(n:a≠c):Sq t h' a xs:=g.at λo e=>f a o n e
def It.obj(g:It t h i a k):∃o,h.get? i=some o/\∀v,o.data≠.cell v:=by
 cases t with
 |true=>let#[o,e,_,d]:=(show h.IsTupleIter i a k from g);show#[o,e,λv n=>by rw[d] at n;cases n]
 |false=>let#[o,e,_,d]:=(show h.IsListIter i a k from g);show#[o,e,λv n=>by rw[d] at n;cases n]
def draw{E:X0}{s:X4}{Q:X0}(e:It t s.heap i a k)(c:Sq t s.heap a xs)(d:xs[k]?=some v)
  (q:∀h',It t h' i a (k+1)->Heap.SameBut i s.heap h'->Q v {s with heap:=h'}):wpAny (model prog w) A (Builtin.SmallTypes.nextOf<|.ref i) Q E s:=by
 cases t with
 |true=>show Zp.N6 e c d q
 |false=>show wpAny_nextOf_list_item e c d q
def CK{A:X_}{E:X0}{s:X4}(f:A.handled=none)(g:It t s.heap i a k)(c:Sq t s.heap a xs)(d:xs[k]?=none)
  (q:∀h' e,Heap.ExtBut i s.heap h'->(∃o,h'.get? e=some o/\o.cls=.type "StopIteration")->E (.ref e) {s with heap:=h'}):wpAny (model prog w) A (Builtin.SmallTypes.nextOf<|.ref i) Q E s:=by
 cases t with
 |true=>show Zp.Os f g c d q
 |false=>show wpAny_nextOf_list_end f g c d q
abbrev uM(h:Xe)(z T O:X8)(d c:Xd):Prop:=
 h.get? z=some {cls:=.type "zip",dict:=none,data:=.fields (List.toArray [d,c,.bool false,.ref T,.ref O]),slots:= (List.toArray [])}
def item{E:X0}{s:X4}{T:X8}{O:X8}(D:ZipApart z T O i j a b){Q:X0}(m:uM s.heap z T O .none (.bool false))(gT:IsPair s.heap T (.ref i) (.ref j))(gO:IsPair s.heap O u v)(gi:It t s.heap i a k)(gj:It t2 s.heap j b k)
  (ga:Sq t s.heap a xs) (gb:Sq t2 s.heap b ys) (ex:xs[k]?=some x) (ey:ys[k]?=some y)
  (q:∀h',uM h' z T O (rawInt s.heap.objs.size) (.bool false)->IsPair h' O x y->It t h' i a (k+1)->It t2 h' j b (k+1)->IsPair h' s.heap.objs.size x y->Zp.Rest z O i j s.heap h'->Q (.ref s.heap.objs.size) {s with heap:=h'}):
  wpAny (model prog w) A (Builtin.«zip.__next__» #[[.ref z],[]]) (λK s'=>∃r,K=.done (.ret r)/\Q r s') E s:=by
 show(?_:wpAny _ _ (field (.ref z) 2 >>= _) _ _ _)
 show Qaq<|QMq m L (x:=.bool false) L ?_
 show(?_:wpAny _ _ (field (.ref z) 3 >>= _) _ _ _)
 show Qaq<|QMq m L (x:=.ref T) L<|Qaq<|wpAny_seqItems gT L ?_
 show(?_:wpAny _ _ (Builtin.SmallTypes.ownedTupleIsFree (.ref z) >>= _) _ _ _)
 show Qaq ?_
 unfold Builtin.SmallTypes.ownedTupleIsFree
 show Qaq<|QMq m L (x:=.none) L<|Qgq ?_
 erw[if_true]
 show Qaq<|wpAny_rule<|Qaq<|QMq m L (x:=.ref O) L<|Qaq (wpAny_setField_rec m (by simp) λh1 M f=>?_)
 replace M:uM h1 z T O .ellipsis (.bool false):=M
 show Qaq ?_
 erw[List.zipIdx_cons,List.zipIdx_nil,List.forIn_nil,List.forIn_cons]
 show Qaq<|Qaq<|wpAny_onRaise ?_
 show(?_:wpAny _ _ (Builtin.SmallTypes.nextOf (.ref i) >>= _) _ _ _)
 show Qaq (draw (gi.ext f.extBut D.i1z) (ga.ext f.extBut D.l1z) ex λh2 i2 l=>Qgq ?_)
 have U:IsPair h2 O u v:=l.extBut _ _ D.TOi1 (f.extBut _ _ D.TOz gO)
 show Qaq<|wpAny_seqItems U L<|Qaq (wpAny_updateSeq_pair U λh3 I h=>Qaq<|wpAny_letGo<|Qgq ?_)
 replace I:IsPair h3 O x v:=I
 show Qaq<|Qaq<|wpAny_onRaise ?_
 show(?_:wpAny _ _ (Builtin.SmallTypes.nextOf (.ref j) >>= _) _ _ _)
 show Qaq (draw (((gj.ext f.extBut D.i2z).ext l.extBut D.i12.symm).ext h.extBut D.TOi2.symm) (((gb.ext f.extBut D.l2z).ext l.extBut D.l2i1).ext h.extBut D.l2TO) ey λh4 j4 p=>Qgq ?_)
 have Y:IsPair h4 O x v:=p.extBut _ _ D.TOi2 I
 show Qaq<|wpAny_seqItems Y L<|Qaq (wpAny_updateSeq_pair Y λd F n=>Qaq<|wpAny_letGo<|Qgq<|Qgq ?_)
 replace F:IsPair d O x y:=F
 show Qaq<|wpAny_seqItems F L<|Qaq<|wpAny_newTuple ?_
 have W:d.objs.size=s.heap.objs.size:=by rw[n.1,p.1,h.1,l.1,f.1]
 have R:uM d z T O .ellipsis (.bool false):=n.extBut _ _ D.TOz.symm (p.extBut _ _ D.i2z.symm<|h.extBut _ _ D.TOz.symm<|l.extBut _ _ D.i1z.symm M)
 have r5:Zp.Rest z O i j s.heap d:=λc o g B N P e=>n.extBut _ _ B (p.extBut _ _ P<|h.extBut _ _ B<|l.extBut _ _ N<|f.extBut _ _ g e)
 have i5:It t d i a (k+1):=((i2.ext h.extBut D.TOi1.symm).ext p.extBut D.i12).ext n.extBut D.TOi1.symm
 have j5:It t2 d j b (k+1):=j4.ext n.extBut D.TOi2.symm
 have Z:z<d.objs.size:=Qiq R
 show(?_:wpAny _ _ (Builtin.SmallTypes.ownedTupleHandOut (.ref z) (.ref d.objs.size) >>= _) _ _ _)
 show Qaq ?_
 unfold Builtin.SmallTypes.ownedTupleHandOut
 have z6:uM (d.push {cls:=.type "tuple",data:=.seq (List.toArray [x,y])}) z T O .ellipsis (.bool false):=Qcq _ R
 show Qaq (wpAny_setField_rec z6 (by simp) λh7 J S=>?_)
 replace J:uM h7 z T O (rawInt d.objs.size) (.bool false):=J
 show wpAny_setField_rec J (by simp) λC H b8=>?_
 replace H:uM C z T O (rawInt d.objs.size) (.bool false):=H
 have G:∀c o,c≠z->d.get? c=some o->C.get? c=some o:=λc o g e=>b8.extBut _ _ g (S.extBut _ _ g<|Qcq _ e)
 have X:IsPair C d.objs.size x y:=b8.extBut _ _ (Nat.ne_of_gt Z) (S.extBut _ _ (Nat.ne_of_gt Z)<|Qrq _ L)
 rw[W] at H X
 show Qgq #[_,L,?_]
 show(?_:Q (.ref d.objs.size) _)
 rw[W]
 show q C H (G _ _ D.TOz F) (i5.at λo e=>G _ o D.i1z e) (j5.at λo e=>G _ o D.i2z e) X λc o g B N P e=>G c o g (r5 c o g B N P e)
def alive{E:X0}{s:X4}{Q:Option Obj->Shared->Prop}(h:Q (s.heap.get? α) s):wpAny (model prog w) A (loadIfAlive α) Q E s:=λ_ _ _=>h
def again{prog:X9}{w:Xc}{A:X_}{E:X0}{s:X4}{t:Bool}{t2:Bool}{z:X8}{T:X8}{O:X8}{i:X8}{j:X8}{a:X8}{b:X8}{k:Nat}{xs:Xa}{ys:Xa}{x:Xd}{y:Xd}(D:ZipApart z T O i j a b){p:X8}{op:Obj}{m:Xd}{Q:X0}(g:uM s.heap z T O (rawInt p) m)(S:s.heap.get? p=some op)(Y:IsPair s.heap T (.ref i) (.ref j))(gi:It t s.heap i a k)(U:It t2 s.heap j b k)
  (K:Sq t s.heap a xs) (P:Sq t2 s.heap b ys) (M:xs[k]?=some x) (ey:ys[k]?=some y)
  (q:∀h',uM h' z T O (rawInt p) (.bool true)->It t h' i a (k+1)->It t2 h' j b (k+1)->IsPair h' s.heap.objs.size x y->Zp.Rest z O i j s.heap h'->Q (.ref s.heap.objs.size) {s with heap:=h'}):
  wpAny (model prog w) A (Builtin.«zip.__next__» #[[.ref z],[]]) (λG s'=>∃r,G=.done (.ret r)/\Q r s') E s:=by
 show(?_:wpAny _ _ (field (.ref z) 2 >>= _) _ _ _)
 show Qaq<|QMq g L (x:=.bool false) L ?_
 show(?_:wpAny _ _ (field (.ref z) 3 >>= _) _ _ _)
 show Qaq<|QMq g L (x:=.ref T) L<|Qaq<|wpAny_seqItems Y L ?_
 show(?_:wpAny _ _ (Builtin.SmallTypes.ownedTupleIsFree (.ref z) >>= _) _ _ _)
 show Qaq ?_
 unfold Builtin.SmallTypes.ownedTupleIsFree
 show Qaq<|QMq g L (x:=rawInt p) L ?_
 show(?_:wpAny _ _ (loadIfAlive ((p:Int).toNat) >>= _) _ _ _)
 show Qaq ?_
 rw[Int.toNat_natCast]
 show alive ?_
 rw[S]
 show(?_:wpAny _ _ (field (.ref z) 1 >>= _) _ _ _)
 show Qaq<|QMq g L (x:=m) L ?_
 have H:wpAny (model prog w) A (if (m !=Value.bool true)=true then(do let _<-setField (.ref z) 1 (.bool true);pure false) else pure false)
   (λr s'=>r=false/\∃l,s'={s with heap:=l}/\uM l z T O (rawInt p) (.bool true)/\Heap.SameBut z s.heap l) E s:=by
  by_cases c:(m !=Value.bool true)=true
  ·rw[Qhq c]
   show Qaq (wpAny_setField_rec g (by simp) λl I d=>Qgq #[L,l,L,I,d])
  ·rw[Quq c]
   have e:m=Value.bool true:=by simpa using c
   subst e
   show Qgq #[L,s.heap,L,g,Heap.SameBut.refl _ _]
 show QRq H (λr s' F=>?_) λ_ _ h=>h
 let#[rfl,l,rfl,I,d]:=F
 erw[Bool.false_eq_true,if_false]
 show Qaq ?_
 erw[List.forIn_toArray,List.forIn_cons,List.forIn_nil]
 show Qaq<|Qaq<|QLq ?_
 show(?_:wpAny _ _ (Builtin.SmallTypes.nextOf (.ref i) >>= _) _ _ _)
 show Qaq (draw (gi.ext d.extBut D.i1z) (K.ext d.extBut D.l1z) M λh2 N n=>Qgq<|Qgq ?_)
 show Qaq<|Qaq<|QLq ?_
 show(?_:wpAny _ _ (Builtin.SmallTypes.nextOf (.ref j) >>= _) _ _ _)
 show Qaq (draw ((U.ext d.extBut D.i2z).ext n.extBut D.i12.symm) ((P.ext d.extBut D.l2z).ext n.extBut D.l2i1) ey λf R B=>Qgq<|Qgq<|Qgq ?_)
 show Qaq<|wpAny_newTuple ?_ (by show 2<=_;decide)
 have X:f.objs.size=s.heap.objs.size:=by rw[B.1,n.1,d.1]
 have C:∀c o,f.get? c=some o->(f.push {cls:=.type "tuple",data:=.seq (List.toArray [x,y])}).get? c=some o:=λc o e=>Qcq _ e
 have J:IsPair (f.push {cls:=.type "tuple",data:=.seq (List.toArray [x,y])}) f.objs.size x y:=Qrq _ L
 have z8:uM (f.push {cls:=.type "tuple",data:=.seq (List.toArray [x,y])}) z T O (rawInt p) (.bool true):=C _ _ (B.extBut _ _ D.i2z.symm<|n.extBut _ _ D.i1z.symm I)
 show Qgq #[_,L,?_]
 show(?_:Q (.ref f.objs.size) _)
 rw[X] at J|-
 show q _ z8 ((N.ext B.extBut D.i12).at λo e=>C _ o e) (R.at λo e=>C _ o e) J λc o W c2 Z c4 e=>C c o (B.extBut _ _ c4<|n.extBut _ _ Z<|d.extBut _ _ W e)
def stop{A:X_}{E:X0}{s:X4}{T:X8}{O:X8}(D:ZipApart z T O i j a b)(K:A.handled=none)(d:uM s.heap z T O .none (.bool false))(M:IsPair s.heap T (.ref i) (.ref j))(S:It t s.heap i a k)(C:Sq t s.heap a xs)(F:xs[k]?=none)
  (q:∀h' e,Zp.Rest z O i j s.heap h'->(∃o,h'.get? e=some o/\o.cls=.type "StopIteration")->E (.ref e) {s with heap:=h'}):
  wpAny (model prog w) A (Builtin.«zip.__next__» #[[.ref z],[]]) Q E s:=by
 show(?_:wpAny _ _ (field (.ref z) 2 >>= _) _ _ _)
 show Qaq<|QMq d L (x:=.bool false) L ?_
 show(?_:wpAny _ _ (field (.ref z) 3 >>= _) _ _ _)
 show Qaq<|QMq d L (x:=.ref T) L<|Qaq<|wpAny_seqItems M L ?_
 show(?_:wpAny _ _ (Builtin.SmallTypes.ownedTupleIsFree (.ref z) >>= _) _ _ _)
 show Qaq ?_
 unfold Builtin.SmallTypes.ownedTupleIsFree
 show Qaq<|QMq d L (x:=.none) L<|Qgq ?_
 erw[if_true]
 show Qaq<|wpAny_rule<|Qaq<|QMq d L (x:=.ref O) L<|Qaq (wpAny_setField_rec d (by simp) λI g f=>?_)
 replace g:uM I z T O .ellipsis (.bool false):=g
 show Qaq ?_
 erw[List.zipIdx_cons,List.zipIdx_nil,List.forIn_nil,List.forIn_cons]
 show Qaq<|Qaq<|wpAny_onRaise ?_
 show(?_:wpAny _ _ (Builtin.SmallTypes.nextOf (.ref i) >>= _) _ _ _)
 show Qaq (CK K (S.ext f.extBut D.i1z) (C.ext f.extBut D.l1z) F λG e r R=>?_)
 let#[J,h,B]:=R
 have m:uM G z T O .ellipsis (.bool false):=r _ _ D.i1z.symm g
 have H:e≠z:=λn=>by rw[n,m] at h;cases h;simp at B
 show wpAny_setField_rec m (by simp) λP _ l=>q P e (λc o p _ N _ n=>l.extBut _ _ p<|r _ _ N<|f.extBut _ _ p n) #[J,l.extBut _ _ H h,B]
def OZ{prog:X9}{w:Xc}{A:X_}{E:X0}{s:X4}{t:Bool}{z:X8}{T:X8}{O:X8}{i:X8}{j:X8}{a:X8}{b:X8}{k:Nat}{xs:Xa}(D:ZipApart z T O i j a b){p:X8}{op:Obj}{g:Xd}{Q:Fin->Shared->Prop}(K:A.handled=none)(d:uM s.heap z T O (rawInt p) g)(J:s.heap.get? p=some op)(N:IsPair s.heap T (.ref i) (.ref j))(U:It t s.heap i a k)(G:Sq t s.heap a xs)(H:xs[k]?=none)
  (q:∀h' e,Zp.Rest z O i j s.heap h'->(∃o,h'.get? e=some o/\o.cls=.type "StopIteration")->E (.ref e) {s with heap:=h'}):
  wpAny (model prog w) A (Builtin.«zip.__next__» #[[.ref z],[]]) Q E s:=by
 show(?_:wpAny _ _ (field (.ref z) 2 >>= _) _ _ _)
 show Qaq<|QMq d L (x:=.bool false) L ?_
 show(?_:wpAny _ _ (field (.ref z) 3 >>= _) _ _ _)
 show Qaq<|QMq d L (x:=.ref T) L<|Qaq<|wpAny_seqItems N L ?_
 show(?_:wpAny _ _ (Builtin.SmallTypes.ownedTupleIsFree (.ref z) >>= _) _ _ _)
 show Qaq ?_
 unfold Builtin.SmallTypes.ownedTupleIsFree
 show Qaq<|QMq d L (x:=rawInt p) L ?_
 show(?_:wpAny _ _ (loadIfAlive ((p:Int).toNat) >>= _) _ _ _)
 show Qaq ?_
 rw[Int.toNat_natCast]
 show alive ?_
 rw[J]
 show(?_:wpAny _ _ (field (.ref z) 1 >>= _) _ _ _)
 show Qaq<|QMq d L (x:=g) L ?_
 have B:wpAny (model prog w) A (if (g !=Value.bool true)=true then(do let _<-setField (.ref z) 1 (.bool true);pure false) else pure false)
   (λr C=>r=false/\∃f,C={s with heap:=f}/\uM f z T O (rawInt p) (.bool true)/\Heap.SameBut z s.heap f) E s:=by
  by_cases c:(g !=Value.bool true)=true
  ·rw[Qhq c]
   show Qaq (wpAny_setField_rec d (by simp) λf F l=>Qgq #[L,f,L,F,l])
  ·rw[Quq c]
   have e:g=Value.bool true:=by simpa using c
   subst e
   show Qgq #[L,s.heap,L,d,Heap.SameBut.refl _ _]
 show QRq B (λr C m=>?_) λ_ _ h=>h
 let#[rfl,f,rfl,F,l]:=m
 erw[Bool.false_eq_true,if_false]
 show Qaq ?_
 erw[List.forIn_toArray,List.forIn_cons,List.forIn_nil]
 show Qaq<|Qaq<|QLq ?_
 show(?_:wpAny _ _ (Builtin.SmallTypes.nextOf (.ref i) >>= _) _ _ _)
 show Qaq (CK K (U.ext l.extBut D.i1z) (G.ext l.extBut D.l1z) H λI e R S=>?_)
 show q I e (λc o M _ P _ n=>R _ _ P<|l.extBut _ _ M n) S
def Zs(h:Xe)(z T O i j:X8):Prop:=uM h z T O .none (.bool false)/\(∃u v,IsPair h O u v)\/∃(p:X8) (c:Obj) (d:Xd),uM h z T O (rawInt (p:Nat)) d/\h.get? p=some c/\p≠z/\p≠O/\p≠i/\p≠j
def Zs.but{T:X8}{O:X8}{h h':Xe}(g:Zs h z T O i j)(f:∀c o,c≠S->h.get? c=some o->h'.get? c=some o)(e:z≠S)(F:O≠S)(B:∃o,h'.get? S=some o):Zs h' z T O i j:=by
 rcases g with⟨d,u,v,C⟩|⟨p,r,l,d,m,n⟩
 ·show .inl #[f _ _ e d,u,v,f _ _ F C]
 ·by_cases c:p=S
  ·subst c
   let#[o,q]:=B
   show .inr #[p,o,l,f _ _ e d,q,n]
  ·show .inr #[p,r,l,f _ _ e d,f _ _ c m,n]
def Fx{E:X0}{s:X4}{T:X8}{O:X8}(D:ZipApart z T O i j a b){Q:Option Value->Shared->Prop}(d:Zs s.heap z T O i j)(R:IsPair s.heap T (.ref i) (.ref j))(C:It t s.heap i a k)(m:It t2 s.heap j b k)
  (G:Sq t s.heap a xs) (M:Sq t2 s.heap b ys) (I:xs[k]?=some x) (S:ys[k]?=some y)
  (q:∀h',Zs h' z T O i j->It t h' i a (k+1)->It t2 h' j b (k+1)->IsPair h' s.heap.objs.size x y->Zp.Rest z O i j s.heap h'->Q (some<|.ref s.heap.objs.size) {s with heap:=h'}):
  wpAny (model prog w) A (pyNext<|.ref z) Q E s:=by
 unfold pyNext
 have g:∀{c o},s.heap.get? c=some o->s.heap.objs.size≠c:=λe=>Nat.ne_of_gt (Qiq e)
 let#[oi,W,_]:=C.obj
 let#[oj,X,_]:=m.obj
 rcases d with⟨d,u,v,U⟩|⟨p,Y,Z,d,N,P,K,H,J⟩
 ·have f:s.TypeIs (.ref z) "zip":=#[_,d,L]
  show Qaq (wpAny_attempt (QiQ (name:=Str.ofString "__next__") f F.slot_zip_next (wpAny_call_entry F.slot_zip_next f F.entry_zip_next
   (item D d R U C m G M I S λh' B a2 n r h l=>Qgq (q h' (.inr #[_,_,_,B,h,g d,g U,g W,g X]) n r h l)) (F.args_zip_next_1 _))))
 ·have f:s.TypeIs (.ref z) "zip":=#[_,d,L]
  show Qaq (wpAny_attempt (QiQ (name:=Str.ofString "__next__") f F.slot_zip_next (wpAny_call_entry F.slot_zip_next f F.entry_zip_next
   (again D d N R C m G M I S λh' B n r h l=>Qgq (q h' (.inr #[p,Y,_,B,l _ _ P K H J N,P,K,H,J]) n r h l)) (F.args_zip_next_1 _))))
def Ao{A:X_}{E:X0}{s:X4}{T:X8}{O:X8}(D:ZipApart z T O i j a b){Q:Option Value->Shared->Prop}(m:A.handled=none)(c:Zs s.heap z T O i j)(n:IsPair s.heap T (.ref i) (.ref j))(B:It t s.heap i a k)(h:Sq t s.heap a xs)(l:xs[k]?=none)
  (q:∀h',Zp.Rest z O i j s.heap h'->Q none {s with heap:=h'}):wpAny (model prog w) A (pyNext<|.ref z) Q E s:=by
 unfold pyNext
 rcases c with⟨c,u,v,I⟩|⟨p,H,G,c,C,_⟩
 ·have d:s.TypeIs (.ref z) "zip":=#[_,c,L]
  show Qaq (wpAny_attempt (QiQ (name:=Str.ofString "__next__") d F.slot_zip_next (wpAny_call_entry F.slot_zip_next d F.entry_zip_next
   (stop D m c n B h l λh' e r ⟨o,f,g⟩=>Qaq (wpAny_isInstance (T:="StopIteration") (b:=true) #[o,f,g] isSubtype_stop (Qgq (q _ r)))) (F.args_zip_next_1 _))))
 ·have d:s.TypeIs (.ref z) "zip":=#[_,c,L]
  show Qaq (wpAny_attempt (QiQ (name:=Str.ofString "__next__") d F.slot_zip_next (wpAny_call_entry F.slot_zip_next d F.entry_zip_next
   (OZ D m c C n B h l λh' e r ⟨o,f,g⟩=>Qaq (wpAny_isInstance (T:="StopIteration") (b:=true) #[o,f,g] isSubtype_stop (Qgq (q _ r)))) (F.args_zip_next_1 _))))
noncomputable def QN(t:Bool):String:=if t=true then "tuple_iterator" else "list_iterator"
noncomputable abbrev H1(t:Bool)(h:Xe)(a:X8):Heap:=h.push {cls:=.type (QN t),data:=.fields (List.toArray [.ref a,.int 0 0])}
noncomputable abbrev H2(t t2:Bool)(h:Xe)(a b:X8):Heap:=(H1 t h a).push {cls:=.type (QN t2),data:=.fields (List.toArray [.ref b,.int 0 0])}
noncomputable abbrev H3(t t2:Bool)(h:Xe)(a b:X8):Heap:=(H2 t t2 h a b).push {cls:=.type "tuple",data:=.seq (List.toArray [.ref h.objs.size,.ref (H1 t h a).objs.size])}
noncomputable abbrev H4(t t2:Bool)(h:Xe)(a b:X8):Heap:=(H3 t t2 h a b).push {cls:=.type "tuple",data:=.seq (List.toArray [.none,.none])}
noncomputable abbrev H5(t t2:Bool)(h:Xe)(a b:X8):Heap:=(H4 t t2 h a b).push {cls:=.type "zip",data:=.fields (List.toArray [.none,.bool false,.bool false,.ref (H2 t t2 h a b).objs.size,.ref (H3 t t2 h a b).objs.size])}
def Sq.push(g:Sq t h a xs)(o:Obj):Sq t (h.push o) a xs:=g.at λ_ e=>Qcq _ e
def EL(t t2:Bool)(a b:X8)(xs ys:Xa):Meets (Builtin.«zip.__new__» #[[.type "zip",.ref a,.ref b],[]]) (λ_ R s=>Sq t s.heap a xs/\Sq t2 s.heap b ys/\R (.ok (.ret (.ref (H4 t t2 s.heap a b).objs.size))) {s with heap:=H5 t t2 s.heap a b}):=
 .of_wp λm w A R s h=>by
  let#[i,g,d,e,f]:=s
  let#[l,n,h]:=h
  let o:=sub_zip
  let c:=n.push {cls:=.type (QN t),data:=.fields (List.toArray [.ref a,.int 0 0])}
  cases t <;>cases t2
  ·have j:Heap.IsList (Shared.heap #[i,g,d,e,f]) a xs:=l
   have k:Heap.IsList (Shared.heap ⟨i.push {cls:=.type "list_iterator",data:=.fields (List.toArray [.ref a,.int 0 0])},g,d,e,f⟩) b ys:=c
   wp_walk using wpAny_pyIter_list j,wpAny_pyIter_list k
   show#[_,L,h]
  ·have j:Heap.IsList (Shared.heap #[i,g,d,e,f]) a xs:=l
   have k:Heap.IsTuple (Shared.heap ⟨i.push {cls:=.type "list_iterator",data:=.fields (List.toArray [.ref a,.int 0 0])},g,d,e,f⟩) b ys:=c
   wp_walk using wpAny_pyIter_list j,wpAny_pyIter_tuple k
   show#[_,L,h]
  ·have j:Heap.IsTuple (Shared.heap #[i,g,d,e,f]) a xs:=l
   have k:Heap.IsList (Shared.heap ⟨i.push {cls:=.type "tuple_iterator",data:=.fields (List.toArray [.ref a,.int 0 0])},g,d,e,f⟩) b ys:=c
   wp_walk using wpAny_pyIter_tuple j,wpAny_pyIter_list k
   show#[_,L,h]
  ·have j:Heap.IsTuple (Shared.heap #[i,g,d,e,f]) a xs:=l
   have k:Heap.IsTuple (Shared.heap ⟨i.push {cls:=.type "tuple_iterator",data:=.fields (List.toArray [.ref a,.int 0 0])},g,d,e,f⟩) b ys:=c
   wp_walk using wpAny_pyIter_tuple j,wpAny_pyIter_tuple k
   show#[_,L,h]
def KQ{E:X0}{s:X4}{Q:X0}(p:Sq t s.heap a xs)(r:Sq t2 s.heap b ys)
  (q:∀h',uM h' (s.heap.objs.size+4) (s.heap.objs.size+2) (s.heap.objs.size+3) .none (.bool false)->IsPair h' (s.heap.objs.size+2) (.ref s.heap.objs.size) (.ref (s.heap.objs.size+1))->IsPair h' (s.heap.objs.size+3) .none .none->
   It t h' s.heap.objs.size a 0->It t2 h' (s.heap.objs.size+1) b 0->(∀c o,s.heap.get? c=some o->h'.get? c=some o)->Q (.ref (s.heap.objs.size+4)) {s with heap:=h'}):
  wpAny (model prog w) A (call (.type "zip") [.ref a,.ref b]) Q E s:=by
 show callType_new F.called_zip (!1) (F.typeCall_zip_2 _ _) (F.newCall_zip_2 _ _) (λf=>F.args_object_init_3 f _ _) F.entry_zip_new (EL t t2 a b xs ys) #[p,r,?_]
 have g:(H1 t s.heap a).objs.size=s.heap.objs.size+1:=Heap.size_push ..
 have e:(H2 t t2 s.heap a b).objs.size=s.heap.objs.size+2:=by rw[Heap.size_push,g]
 have h:(H3 t t2 s.heap a b).objs.size=s.heap.objs.size+3:=by rw[Heap.size_push,e]
 have k:(H4 t t2 s.heap a b).objs.size=s.heap.objs.size+4:=by rw[Heap.size_push,h]
 have d:(H5 t t2 s.heap a b).get? (H4 t t2 s.heap a b).objs.size=some _:=Qrq _ L
 have l:(H5 t t2 s.heap a b).get? (H3 t t2 s.heap a b).objs.size=some _:=Qcq _ (Qrq _ L)
 have i:(H5 t t2 s.heap a b).get? (H2 t t2 s.heap a b).objs.size=some _:=Qcq _ (Qcq _<|Qrq _ L)
 have j:(H5 t t2 s.heap a b).get? (H1 t s.heap a).objs.size=some _:=Qcq _ (Qcq _<|Qcq _<|Qrq _ L)
 have m:(H5 t t2 s.heap a b).get? s.heap.objs.size=some _:=Qcq _ (Qcq _<|Qcq _<|Qcq _<|Qrq _ L)
 show(?_:_/\_)
 rw[e,h,k] at d
 rw[g,e] at i
 rw[h] at l
 rw[g] at j
 rw[k]
 show#[#[_,d,L],q _ d i l ?_ ?_ λc o n=>Qcq _<|Qcq _<|Qcq _<|Qcq _<|Qcq _ n]
 ·cases t <;>show#[_,m,L,L]
 ·cases t2 <;>show#[_,j,L,L]
def pj:typeLookup (.type "zip") "__getattr__"=pure none:=by rw[typeLookup_type,builtinLookup_eq_fast];kernel_rfl
def jF:entryFor table "zip.__getattribute__"=some Builtin.«object.__getattribute__»:=
 entryFor_alias (id':="object.__getattribute__") (by kernel_rfl) (by decide +kernel) (by decide +kernel) (by kernel_rfl)
def qI:typeLookup (Value.type "zip") (Str.ofString "keys")=pure none:=by
 rw[typeLookup_type,builtinLookup_eq_fast]
 rfl
def rJ(a:X8)(fs:Xa)(name:Str)(u:Tok)(e:typeLookup (.type "zip") name=pure none)(b:(["__module__","__name__","__qualname__","__doc__","__annotations__"]:List Str).contains name=false)(hsz:autoParam (name.length+100<=sizeLine) ec._auto_1):
  Meets (Builtin.«object.__getattribute__» #[[.ref a,.str name u],[]]) (λA R s=>s.heap.get? a=some {cls:=.type "zip",dict:=none,data:=.fields fs,slots:= (List.toArray [])}/\raisesAttr (.ref a) name A R s):=
 Meets.of_wp λf w A R s c=>by
  let#[j,g,d,h,i]:=s
  let#[k,c]:=c
  have l:(⟨j,g,d,h,i⟩:Shared).TypeIs (.ref a) "zip":=#[_,k,L]
  unfold Builtin.«object.__getattribute__»
  repeat (any_goals (first|assumption|wp_step))
  erw[b,Bool.false_eq_true,if_false]
  repeat (any_goals (first|assumption|wp_step))
  show wpAny_raiseAttrError c.1 c.2<|attrMsg_fits (by decide +kernel) hsz
def EJ{A:X_}{E:X0}{s:X4}{Q:Option Value->Shared->Prop}
  (j:s.heap.get? a=some {cls:=.type "zip",dict:=none,data:=.fields fs,slots:= (List.toArray [])}) (p:A.handled=none)
  (h:∀(h':Xe) (i:Nat),(∀b o,s.heap.get? b=some o->h'.get? b=some o)->Q none {s with heap:=h',toks:=i}):
  wpAny (model prog w) A (getAttr? (.ref a)<|Str.ofString "keys") Q E s:=by
 let#[q,g,d,i,k]:=s
 have n:∀x,Shared.TypeIs ⟨q,g,d,x,k⟩ (.ref a) "zip":=λx=>#[_,j,L]
 let l:=sub_AttributeError
 let v:=F.slot_zip_getattribute.lookup
 let t:=F.slot_zip_getattribute.bind (Value.ref a)
 let r:=pj
 unfold getAttr? mkText getAttrBy? getAttrBy
 show Qaq<|Qaq<|wpAny_fresh'<|Qgq<|Qaq<|wpAny_attempt<|QLq ?_
 unfold typeOf
 show Qaq<|Qaq<|wpAny_loadPart' j<|Qgq<|Qaq<|wpAny_of_eq v<|QgQ L ?_
 unfold getAttrByItsOwn hookBefore
 show Qaq<|QgQ L<|Qgq<|Qaq<|wpAny_attempt<|QLq ?_
 unfold callGetattribute
 show QgQ L ?_
 unfold boundAndCalled
 show Qaq<|wpAny_of_eq t ?_
 show call_meets F.slot_zip_getattribute (n (i+1)) jF (F.args_zip_getattribute_2 (Value.ref a) _) (rJ a fs (Str.ofString "keys") i qI (by decide +kernel) (by decide +kernel)) #[j,p,λh' f e c=>?_]
 let#[y,z,u]:=c.there
 have m:Shared.TypeIs ⟨h',g,d,f,k⟩ (.ref e) "AttributeError":=#[_,u,L]
 show wpAny _ _ (getattributeRaised _ _ _ _ _ _ _) _ _ _
 unfold getattributeRaised
 show Qaq<|wpAny_isInstance m l<|wpAny_ite_true L ?_
 unfold hookBehind hookOrError
 show Qaq<|QgQ L<|wpAny_of_eq r ?_
 show wpAny _ _ (attributeErrorLeaves _ _ _ _ _) _ _ _
 unfold attributeErrorLeaves
 show wpAny_ite_true L<|wpAny_throw ?_
 show Qaq<|wpAny_isInstance m l<|wpAny_ite_true L<|Qgq<|h h' f c.keeps
def u7{A:X_}{E:X0}{s:X4}{Q:X0}
  (k:s.heap.get? z=some {cls:=.type "zip",dict:=none,data:=.fields fs,slots:= (List.toArray [])}) (i:A.handled=none)
  (h:∀(h':Xe) (d:Nat),(∀b o,(s.heap.push {cls:=.type "dict",data:=.dict (List.toArray [])}).get? b=some o->h'.get? b=some o)->
   wpAny (model prog w) A.in1.in1 (pyIter (.ref z)) (λit s'=>codeAny (model prog w) A.in1 (.builtin "dict.update.loop" {pos:= [.ref s.heap.objs.size,it,rawInt 0,.none]}) (wants (λr c=>r=.none/\Q (.ref s.heap.objs.size) c) E) s') E {s with heap:=h',toks:=d}):
  wpAny (model prog w) A (call (.type "dict") [.ref z]) Q E s:=by
 show Dk.z4 ?_
 let l:=Qrq s.heap (o:={cls:=.type "dict",data:=.dict (List.toArray [])}) L
 have g:Shared.TypeIs {s with heap:=s.heap.push {cls:=.type "dict",data:=.dict (List.toArray [])}} (.ref s.heap.objs.size) "dict":=#[_,l,L]
 let a:=Qcq {cls:=.type "dict",data:=.dict (List.toArray [])} k
 have j:Shared.TypeIs {s with heap:=s.heap.push {cls:=.type "dict",data:=.dict (List.toArray [])}} (.ref z) "zip":=#[_,a,L]
 unfold Builtin.«dict.__init__» Builtin.Dict.selfAndRest
 show Qaq<|Qaq<|wpAny_notOrdered_dict g ?_
 show Qaq<|Qgq<|Qgq ?_
 show wpAny _ _ (Builtin.Dict.updateFrom _ _ _ _ _) _ _ _
 unfold Builtin.Dict.updateFrom
 show Qaq<|wpAny_typeOf j<|wpAny_ite_true (by decide +kernel)<|Qaq (EJ a (by simpa using i) λh' d f=>?_)
 show wpAny_ite_true L ?_
 show Qaq<|wpAny_rule<|Qaq (QRq (h h' d f) (λit s' q=>?_) λe s' q=>q)
 show Qgq #[plainId_quiet (by decide +kernel) _,q]
end Zq
namespace Zq
open PySem Dk
section
variable{K:Type}[DecidableEq K]
def A9{prog:X9}{w:Xc}{knd:KeyKind prog w K}{T:X8}{O:X8}{ys:Xa}{A:X_}{R:Result->Shared->Prop}(hA:A.in1.handled=none)(D:ZipApart z T O i j a b)(nS:S≠z/\S≠T/\S≠O/\S≠i/\S≠j/\S≠a/\S≠b)(a5:a≠T/\b≠T)(f:Nat->K)(x:∀(n:Nat) v,xs[n]?=some v->knd.is (f n) v=true)(a6:xs.size<=ys.size)(hn:xs.size<=sizeLine):
  ∀ (m n:Nat) (c:Int) (s:X4),xs.size-n=m->n<=xs.size->Zs s.heap z T O i j->IsPair s.heap T (.ref i) (.ref j)->It t s.heap i a n->It t2 s.heap j b n->Sq t s.heap a xs->Sq t2 s.heap b ys->Heap.DictOf knd s.heap S (LB f (λn=>ys.getD n .none) n)->
    (∀h' X,Heap.DictOf knd h' S (LB f (λn=>ys.getD n .none) xs.size)->(∀c o,c≠z->c≠O->c≠i->c≠j->c≠S->s.heap.get? c=some o->h'.get? c=some o)->R (.ok (.ret .none)) {s with heap:=h',toks:=X})->
    codeAny (model prog w) A (.builtin "dict.update.loop" {pos:= [.ref S,.ref z,rawInt c,.none]}) R s:=by
 let#[n1,n2,P,Q,J,n6,n7]:=nS
 intro m
 induction m with
 | zero=>
   intro n c s hm a3 I B gi gj y N G h
   have e:n=xs.size:=by omega
   subst e
   show codeAny_builtin jU ?_
   rw[Around.under_plainId gu]
   show wpAny _ _ (do let __x<-pyNext (.ref z);_) _ _ _
   show Qaq (Ao D hA I B gi y (by simp) λh' r=>?_)
   show Qaq<|Qgq<|Qgq (h h' s.toks ?_ λc o g l p k _ e=>r c o g l p k e)
   let#[o,es,ep,Z,M]:=G
   show#[o,es,ep,r _ _ n1 P Q J Z,M]
 | succ m ih=>
   intro n c s hm a3 I B gi gj y N G h
   have u:n<xs.size:=by omega
   have ex:xs[n]?=some xs[n]:=by simp[u]
   have ey:ys[n]?=some ys[n]:=by simp[show n<ys.size by omega]
   show codeAny_builtin jU ?_
   rw[Around.under_plainId gu]
   show wpAny _ _ (do let __x<-pyNext (.ref z);_) _ _ _
   show Qaq (Fx D I B gi gj y N ex ey λhp a1 U H gp r=>?_)
   have a2:Heap.DictOf knd hp S (LB f (λn=>ys.getD n .none) n):=by
     let#[o,es,ep,Z,M]:=G
     show#[o,es,ep,r _ _ n1 P Q J Z,M]
   show Qaq<|QLq<|Qaq<|wpAny_tryCatch ?_
   unfold Builtin.Dict.pairItems
   show Qaq<|wpAny_typeOf (T:="tuple") #[_,gp,L]<|wpAny_ite_true L<|Qaq ?_
   unfold seqItems?
   show Qaq<|wpAny_load' gp<|Qgq<|Qgq<|QLq<|wpAny_dictSet_pairs (x n _ ex) a2 (λh' q hs=>?_)<|QAq (DC f _ n) (!0)
   have ev:ys.getD n .none=ys[n]:=by simp[Array.getD,show n<ys.size by omega]
   have F:∀c o,c≠S->hp.get? c=some o->h'.get? c=some o:=λc o hc e=>by rw[hs.2 c hc];show e
   have d:∀c o,c≠z->c≠O->c≠i->c≠j->c≠S->s.heap.get? c=some o->h'.get? c=some o:=λc o g l p k C e=>F c o C (r c o g l p k e)
   have a0:∃o,h'.get? S=some o:=by let#[o,_,_,e,_]:=q;show#[o,e]
   have Y:Heap.DictOf knd h' S (LB f (λn=>ys.getD n .none) (n+1)):=by
     show Heap.DictOf knd h' S (stored _ (f n)<|ys.getD n .none)
     rw[ev]
     show q
   show Qgq #[plainId_quiet gu _,ih (n+1) (c+1) _ (!0) u (a1.but F n1.symm P.symm a0) ?_ (U.at λo e=>F _ o Q.symm e) (H.at λo e=>F _ o J.symm e) ?_ ?_ Y λW X a4 k4=>h W X a4 λc o g l p k C e=>k4 c o g l p k C<|d c o g l p k C e]
   · show d _ _ D.TIz D.TITO D.TIi1 D.TIi2 n2.symm B
   · show y.at λo e=>d _ o D.l1z D.l1TO D.l1i1 D.l1i2 n6.symm e
   · show N.at λo e=>d _ o D.l2z D.l2TO D.l2i1 D.l2i2 n7.symm e
end
end Zq
namespace L2
open PyProof.Rows Zq
def yY(K:X1)(t:Bool)(H:Hp)(a:X8)(xs:List V):Prop:=if t=true then gh K H a xs else ji K H a xs
def Inv.sq(I:Inv X c σ H s)(h:yY X.K t H a xs):∃b:List Value,bo xs b/\Sq t s.heap a b.toArray/\xs.length<=sizeLine:=by
 cases t with
 | true=>
   let#[b,r,p,z]:=I.tuple h
   show#[b,r,(show s.heap.IsTuple a b.toArray from p),z]
 | false=>
   let#[b,r,p,z]:=I.list h
   show#[b,r,(show s.heap.IsList a b.toArray from p.isList),z]
def Sq.lt(g:Sq t h a xs):a<h.objs.size:=by
 cases t with
 |true=>let#[o,e,_]:=(show h.IsTuple a xs from g);show Qiq e
 |false=>let#[o,e,_]:=(show h.IsList a xs from g);show Qiq e
def MB(K:X1):List V->Hp->VK->Prop:=λf H Q=>∃(t e:Bool) (a b:X8) (d:List Key) (c:List V),f= [.ref a,.ref b]/\yY K t H a (d.map kV)/\yY K e H b c/\d.length=c.length/\∀p,H p=none->Q (.ref p) (upd H p<|.dK (jO []<|d.zip c))
def B0{X:Cx}(B:X.calm=true)(a0:Gl X "dict")(a1:X.mg "dict"=none)(hg:Gl X "zip")(hm:X.mg "zip"=none)(ha:PA X [x,y] ta)(hs:autoParam (starEach [x,y] X.env= [(false,eval x X.env),(false,eval y X.env)]) db._auto_1)(M:autoParam (starEach [y] X.env= [(false,eval y X.env)]) db._auto_1)
  (he:autoParam (starEach [Expr.Call (.Name "zip" S) [x,y] [] J] X.env= [(false,eval (Expr.Call (.Name "zip" S) [x,y] [] J) X.env)]) db._auto_1):
  PE X (.Call (.Name "dict" p1) [.Call (.Name "zip" S) [x,y] [] J] [] c1) (Oy (MB X.K) ta):=by
 intro C s σ H Q I h
 show wpAny_Call_Name_kw<|ju I a0 a1 (by rfl) ?_
 show PyProof.Rows.callWith_type1 ?_ he L
 rw[he]
 show wpAny _ _ (spliced ((false,eval (Expr.Call (.Name "zip" S) [x,y] [] J) X.env)::backTo c1 (starEach [] X.env))) _ _ s
 show Calls.spliced_cons ?_
 show wpAny_Call_Name_kw<|ju I hg hm (by rfl) ?_
 show PyProof.Rows.callWith_type1 (cj (ha J C s σ H _ I h) λus j ⟨vs,H1,F,r1,q1⟩=>?_) (by rw[hs,M]) (by rw[M];rfl)
 let#[t,t2,a,b,d,ys,e,qa,qb,hl,q]:=q1
 subst e
 cases r1 with
 | cons r rr=>
   cases rr with
   | cons r' rr=>
     cases rr
     cases r
     cases r'
     let#[z,ra,pa,za]:=F.sq qa
     let#[m,rb,pb,zb]:=F.sq qb
     let lx:=Sq.lt pa
     let ly:=Sq.lt pb
     let la:=ra.length
     let lb:=rb.length
     rw[lQm] at la
     show Zq.KQ pa pb λg U gT gO gi gj Z=>Calls.spliced_nil ?_
     have I2:Inv X C σ H1 {j with heap:=g}:=F.kept (t':=j.toks) Z
     show Zq.u7 U (F.ok.hd B) λW tk k2=>?_
     have p:∀c o,g.get? c=some o->W.get? c=some o:=λc o e=>k2 c o (Qcq _ e)
     have a5:W.get? g.objs.size=some {cls:=.type "dict",data:=.dict (List.toArray [])}:=k2 _ _ (Qrq g L)
     show wpAny_pyIter_zip (p _ _ U) ?_
     let DD:=PyProof.Rows.zipApart_new lx ly
     have f:j.heap.objs.size+4<g.objs.size:=Qiq U
     have R:∀(n:Nat) k,d[n]?=some k->d.getD n (.inl 0)=k:=λn k e=>by rw[Qlq,e];rfl
     have G:∀c,c<j.heap.objs.size->c≠j.heap.objs.size+4/\c≠j.heap.objs.size+3/\c≠j.heap.objs.size/\c≠j.heap.objs.size+1/\c≠g.objs.size:=λc B=>
       #[Qwq<|Qqq B<|Nat.le_add_right _ _,Qwq<|Qqq B<|Nat.le_add_right _ _,Qwq B,Qwq<|Qqq B<|Nat.le_add_right _ _,Qwq<|Nat.lt_trans (Qqq B<|Nat.le_add_right _ 4) f]
     show Zq.A9 (knd:=bA X.prog X.w) (t:=t) (t2:=t2) (xs:=z.toArray) (ys:=m.toArray) (show X.A.in1.in1.handled=none from F.ok.hd B) DD ?_ ?_ (λn=>d.getD n<|.inl 0) ?_ (by simp;omega) (by simp;omega) z.toArray.size 0 0 _ L (Nat.zero_le _)
       (.inl #[p _ _ U,_,_,p _ _ gO]) (p _ _ gT) (gi.at λo e=>p _ o e) (gj.at λo e=>p _ o e) (pa.at λo e=>p _ o<|Z _ o e) (pb.at λo e=>p _ o<|Z _ o e) ?_ ?_
     · show#[Nat.ne_of_gt f,Nat.ne_of_gt<|Nat.lt_trans ?_ f,Nat.ne_of_gt<|Nat.lt_trans ?_ f,Nat.ne_of_gt<|Nat.lt_trans ?_ f,Nat.ne_of_gt<|Nat.lt_trans ?_ f,(G _ lx).2.2.2.2.symm,(G _ ly).2.2.2.2.symm] <;>(show _<j.heap.objs.size+4) <;>omega
     · show#[Qwq<|Qqq lx<|Nat.le_add_right _ _,Qwq<|Qqq ly<|Nat.le_add_right _ _]
     · intro n v hv
       have P:z[n]?=some v:=by simpa using hv
       have hn:n<d.length:=by
         have:=(gQs.mp P).1
         omega
       let N:=gQe hn
       let#[u,Y,ru]:=ra.get (i:=n) (x:=kV d[n]) (by rw[gQm,N];rfl)
       rw[P] at Y
       cases Y
       show(bA X.prog X.w).is (d.getD n<|.inl 0) v=true
       rw[R n _ N]
       show key_is ru _ _
     · let#[o,es,ep,e1,e2]:=Heap.DictOf.new (knd:=bA X.prog X.w) g
       show#[o,es,ep,k2 _ _ e1,e2]
     · intro h3 a3 dd k3
       have a2:g.objs.size≠sysModules:=by
         have:=I2.big
         show Nat.ne_of_gt this
       have le:j.heap.objs.size<=g.objs.size:=nQl (Nat.lt_of_le_of_lt (Nat.le_add_right _ 4) f)
       show#[L,.ref g.objs.size,_,F.laid (a:=g.objs.size) (o:=.dK (jO []<|d.zip ys)) (t':=a3) (h':=h3) (λc o e=>?_) le<|sH ?_ (beq_eq_false_iff_ne.mpr a2) ?_ dd,L,q _<|F.hok.fresh le]
       · let#[o1,o2,o3,o4,o5]:=G c (Qiq e)
         show k3 c o o1 o2 o3 o4 o5<|p c o<|Z c o e
       · have:=iM (d.zip ys) []
         rw[QGq,List.length_zip] at this
         omega
       · have a4:∀n,n<=d.length->KV (jO [] ((d.zip ys).take n)) (Dk.LB (λn=>d.getD n<|.inl 0) (λn=>m.toArray.getD n .none) n):=by
           intro n
           induction n with
           |zero=>intro _;show .nil
           | succ n ih=>
             intro hn
             let N:=gQe (l:=d) (i:=n) (!0)
             let hy:=gQe (l:=ys) (i:=n) (!0)
             let#[u,Y,ru]:=rb.get hy
             have ez:(d.zip ys)[n]?=some (d[n],ys[n]):=by rw[List.getElem?_zip_eq_some];show#[N,hy]
             have e3:(d.zip ys).take (n+1)=(d.zip ys).take n++ [(d[n],ys[n])]:=by rw[QYq,ez];rfl
             have eu:m.toArray.getD n .none=u:=by
               have:=(gQs.mp Y)
               let#[g,W]:=this
               simp[Array.getD,g,W]
             rw[e3]
             show KV (List.foldl _ [] ((d.zip ys).take n++ [(d[n],ys[n])])) (stored _ (d.getD n<|.inl 0)<|m.toArray.getD n .none)
             rw[List.foldl_append,R n _ N,eu]
             show(ih (!0)).put d[n] ru
         have:=a4 d.length (Qmq _)
         have e4:(d.zip ys).take d.length=d.zip ys:=by
           have:(d.zip ys).length=d.length:=by rw[List.length_zip];omega
           rw[<-this,QEq]
         rw[e4] at this
         have e5:z.toArray.size=d.length:=by simp;omega
         rw[e5]
         show this
end L2
namespace Zq
open PySem
def D_{E:X0}{s:X4}{T:X8}{O:X8}(D:ZipApart z T O i j a b){Q:Option Value->Shared->Prop}(c:uM s.heap z T O .none (.bool false))(o:IsPair s.heap T (.ref i) (.ref j))(G:IsPair s.heap O u v)(H:It t s.heap i a k)(h:It t2 s.heap j b k)
  (e:Sq t s.heap a xs) (g:Sq t2 s.heap b ys) (f:xs[k]?=some x) (C:ys[k]?=some y)
  (q:∀h',uM h' z T O (rawInt s.heap.objs.size) (.bool false)->IsPair h' O x y->It t h' i a (k+1)->It t2 h' j b (k+1)->IsPair h' s.heap.objs.size x y->Zp.Rest z O i j s.heap h'->Q (some<|.ref s.heap.objs.size) {s with heap:=h'}):
  wpAny (model prog w) A (pyNext<|.ref z) Q E s:=by
 have d:s.TypeIs (.ref z) "zip":=#[_,c,L]
 unfold pyNext
 show Qaq (wpAny_attempt (QiQ (name:=Str.ofString "__next__") d F.slot_zip_next (wpAny_call_entry F.slot_zip_next d F.entry_zip_next
  (item D c o G H h e g f C λh' r B l n m p=>Qgq (q h' r B l n m p)) (F.args_zip_next_1 _))))
end Zq
namespace L2
open PyProof.Rows Zq
def Inv.sq_inj(I:Inv X b σ H s)(h:yY X.K t H a xs)(h':yY X.K t H a ys):xs=ys:=by
 cases t with
 |true=>show I.tuple_inj h h'
 |false=>show I.list_inj h h'
noncomputable def RA(K:X1)(t t2:Bool)(a b:X8):It:=
  ⟨λi H=>∃c d x y,yY K t H a c/\yY K t2 H b d/\c[i]?=some x/\d[i]?=some y,
   λi H v e=>∃p,v=.ref p/\H p=none/\∀c d x y,yY K t H a c->yY K t2 H b d->c[i]?=some x->d[i]?=some y->e=upd H p (.tup [x,y]),
   λi H=>∃c,yY K t H a c/\c.length<=i⟩
def Ec{P:X9}{w:Xc}{K:X1}{C:List Expr}{x1:Nat}{tp:Pos}{t t2:Bool}{z T O i j a b:X8}(D:ZipApart z T O i j a b):
  Turn P w K (.Tuple C x1 tp) (RA K t t2 a b) [z,T,O,i,j] z (λn h=>uM h z T O .none (.bool false)/\IsPair h T (.ref i) (.ref j)/\(∃u v,IsPair h O u v)/\Zq.It t h i a n/\Zq.It t2 h j b n) where
 mem:=by simp
 obj:=λn h ⟨f,g,⟨u,v,l⟩,m,q⟩ c d=>by
  simp at d
  rcases d with rfl|rfl|rfl|rfl|rfl
  ·show#[_,f,λv n=>by cases n]
  ·show#[_,g,λv n=>by cases n]
  ·show#[_,l,λv n=>by cases n]
  ·show m.obj
  ·show q.obj
 keep:=λn h h' ⟨f,g,⟨u,v,l⟩,m,q⟩ k=>#[k z (by simp) _ f,k T (by simp) _ g,#[u,v,k O (by simp) _ l],m.at λo e=>k i (by simp) o e,q.at λo e=>k j (by simp) o e]
 item:=by
  rintro X U S hK d n p s σ H E I G ⟨f,g,⟨u,v,l⟩,m,q⟩ R
  subst U S hK
  let#[xs,ys,x,y,F,qb,N,hy]:=R
  let#[Z,Q,Y,_]:=I.sq F
  let#[a0,rb,pb,_]:=I.sq qb
  let#[ux,ex,rx]:=Q.get N
  let#[uy,ey,ry]:=rb.get hy
  have B:∀{c o},s.heap.get? c=some o->c≠s.heap.objs.size:=λe=>Qwq (Qiq e)
  have A:∀c∈[z,T,O,i,j],c≠s.heap.objs.size:=λc d=>by
   let#[oi,e1,_]:=m.obj
   let#[oj,e2,_]:=q.obj
   simp at d
   rcases d with rfl|rfl|rfl|rfl|rfl
   ·show B f
   ·show B g
   ·show B l
   ·show B e1
   ·show B e2
  show Zq.D_ D f g l m q Y pb (x:=ux) (y:=uy) (by simpa using ex) (by simpa using ey) λh1 z1 O1 i1 j1 n1 J=>#[_,L,?_]
  let T1:=J _ _ D.TIz D.TITO D.TIi1 D.TIi2 g
  show wpAny_letOwnedTupleGo_zip z1 λh2 z2 r=>?_
  have I2:Inv X p σ (upd H s.heap.objs.size<|.tup [x,y]) {s with heap:=h2}:=I.turnedNew (t':=s.toks) (fp:= [z,T,O,i,j]) G (λc o d e=>?_) (Qmq _) ?_
  ·show#[.ref s.heap.objs.size,_,I2,L,#[s.heap.objs.size,L,I.hok.fresh<|Qmq _,λa1 a2 x' y' q1 q2 M q4=>?_],#[z2,r.extBut _ _ D.TIz T1,#[_,_,r.extBut _ _ D.TOz O1],i1.ext r.extBut D.i1z,j1.ext r.extBut D.i2z],λc d=>?_]
   ·rw[I.sq_inj q1 F] at M
    rw[I.sq_inj q2 qb] at q4
    rw[N] at M
    rw[hy] at q4
    cases M
    cases q4
    rfl
   ·rw[aM (A c d)]
    show(G c d).1
  ·simp at d
   show r.extBut _ _ d.1<|J c o d.1 d.2.2.1 d.2.2.2.1 d.2.2.2.2 e
  ·show#[by show 2<=_;decide,[ux,uy],.cons rx (.cons ry .nil),_,r.extBut _ _ (λe=>A z (by simp) e.symm) n1,L,L,0,L]
 done:=by
  rintro X U S hK d n p s σ H E I G ⟨f,g,⟨u,v,l⟩,m,q⟩ R
  subst U S hK
  let#[xs,F,N]:=R
  let#[Z,Q,Y,_]:=I.sq F
  let hl:=Q.length
  show Zq.Ao D (I.ok.hd d) (.inl #[f,u,v,l]) g m Y (by simp;omega) λh1 J=>#[L,I.turnedL (t':=s.toks) (fp:= [z,T,O,i,j]) G λc o d e=>?_]
  simp at d
  show J c o d.1 d.2.2.1 d.2.2.2.1 d.2.2.2.2 e
 self:=λ_ _ _ _ _ ⟨f,_⟩ h=>wpAny_pyIter_zip f h
def Sm(K:X1)(g:TA):TI:=λh H R=>g h H λd H1=>∃(t c:Bool) (a b:X8) (f e:List V),d= [.ref a,.ref b]/\yY K t H1 a f/\yY K c H1 b e/\R (RA K t c a b) H1
def Ir(B:Gl X "zip")(Y:X.mg "zip"=none)(Z:PA X [a,b] o)(U:autoParam (starEach [a,b] X.env= [(false,eval a X.env),(false,eval b X.env)]) db._auto_1)(g:autoParam (starEach [b] X.env= [(false,eval b X.env)]) db._auto_1):
  PI X (.Tuple d x1 S) (.Call (.Name "zip" p) [a,b] [] j) (Sm X.K o):=by
 intro i s W H R I h
 show Call_<|ju I B Y (by rfl)<|PyProof.Rows.callWith_type1 (cj (Z j i s W H _ I h) λus u ⟨vs,H1,f,A,N⟩=>?_) (by rw[U,g]) (by rw[g];rfl)
 let#[t,t2,x,y,xs,ys,e,qa,F,q]:=N
 subst e
 cases A with
 | cons r l=>
   cases l with
   | cons z l=>
     cases l
     cases r
     cases z
     let#[M,ra,v,_]:=f.sq qa
     let#[P,rb,pb,_]:=f.sq F
     let G:=Sq.lt v
     let C:=Sq.lt pb
     show Zq.KQ v pb λh' m Q gO gi J k=>?_
     show wpAny_pyIter_zip m #[_,_,_,_,H1,L,f.kept (t':=u.toks) k,Ec<|PyProof.Rows.zipApart_new G C,#[m,Q,#[_,_,gO],gi,J],λc w=>?_,q]
     have n:u.heap.objs.size<=c:=by
       erw[Qsq,QXq,or_false] at w
       rcases w with e|e|e|e|e <;>(rw[e];first|show Qmq _|show Nat.le_add_right _ _)
     show f.fpOk n<|f.hok.fresh n
end L2
namespace DL
open PyProof.Rows L2
def BB.sqB(h:BB M ρ H a vs t):L2.yY M.K (!t.isL) H a vs:=by
 cases c:t.isL with
 |true=>show h.sqL c
 |false=>show h.sqT c
noncomputable def u_(xs ys:List D):List D:=List.zipWith (λx y=>D.tup [x,y]) xs ys
open Classical in
def Bx(f g:dU):u9:=λb S=>(f b S).bind λ(p,c)=>(g b c).bind λ(r,a)=>if p.2.stays a p.1/\p.1.length<=r.1.length then some ((u_ p.1 r.1,λS=>p.2.stays S p.1/\r.2.stays S r.1),a) else none
def RN(hg:Gl X "zip")(hm:X.mg "zip"=none)(ha:PE X a (tQ (md X) f))(hb:PE X b (tQ (md X) g))(P:autoParam (starEach [a,b] X.env= [(false,eval a X.env),(false,eval b X.env)]) db._auto_1)(k:autoParam (starEach [b] X.env= [(false,eval b X.env)]) db._auto_1):
  PI X (.Tuple n t tp) (.Call (.Name "zip" p) [a,b] [] h) (tI (md X)<|Bx f g):=P7 (Ir hg hm (bJ ha (bJ hb de k) (by rw[P,k])) P k) λσ H R ⟨ρ,N,S,ds,W,S',ok,e,q⟩=>by
 let#[#[#[r,t1],S1],e1,e]:=aq e
 let#[#[#[m,t2],S2],e2,e]:=aq e
 dsimp only at e
 split at e
 ·rename_i c
  let#[e3,rfl]:=bN e
  let#[rfl,rfl]:=Prod.mk.inj e3
  show#[ρ,N,S,r,t1,S1,ok,e1,λA a1 a0 H1 t G h1 r1=>#[A,N,S1,m,t2,S2,ok.to t G,e2,λa3 b1 ws H2 M o Q r2=>?_]]
  let#[B,K,r3]:=h1.to r1 M o c.1
  show#[_,_,a1,b1,B,ws,L,K.sqB,Q.sqB,q _ _ _ (t.trans M) o λi a2 S3 H3 Y l w=>?_]
  let#[C,I,g2]:=K.to r3 Y l w.1
  let#[U,g3,g4]:=Q.to r2 Y l w.2
  show#[λd j=>?_,λhi=>#[C,I.sqB,?_]]
  ·unfold u_ at j
   rw[List.getElem?_zipWith] at j
   cases s:r[i]? with
   |none=>rw[s] at j;cases j
   | some x=>
     cases F:m[i]? with
     |none=>rw[s,F] at j;cases j
     | some y=>
       rw[s,F] at j
       cases j
       let#[u,Z,ru]:=g2.get s
       let#[z,J,rz]:=g4.get F
       show#[#[C,U,u,z,I.sqB,g3.sqB,Z,J],λv H4 hv=>?_]
       let#[p,rfl,hp,hq]:=hv
       have:=hq C U u z I.sqB g3.sqB Z J
       subst this
       show#[bB.laid hp,l.lay hp,.tup aR ((aO.cons ru<|.cons rz .nil).ext (bB.laid hp))]
  ·rw[hi]
   unfold u_
   rw[List.length_zipWith,g2.length.symm]
   have:=c.2
   omega
 ·cases e
noncomputable def oH:D->Option Key
 |.int i=>some (.inl i)
 |.str x=>some (.inr x)
 |_=>none
def nH(r:Rel M ρ H d v)(e:oH d=some k):v=kV k:=by
 cases r <;>simp[oH] at e <;>subst e <;>rfl
noncomputable def yG:List D->Option (List Key)
 | []=>some []
 |d::r=>(oH d).bind λk=>(yG r).bind λa=>some (k::a)
theorem zM:∀{ds:List D} {vs:List V} {a:List Key},aO M ρ H ds vs->yG ds=some a->vs=a.map kV
 |_,_,_,.nil,e=>by cases e;rfl
 | _,_,_,.cons h hs,e=>by
   let#[k,b,e]:=aq e
   let#[a,c,e]:=aq e
   cases e
   rw[nH h b,zM hs c]
   rfl
noncomputable def g8(kvs:List (Key×D))(k:Key):Option D:=(kvs.find? λa=>decide (a.1=k)).map (·.2)
noncomputable def putD(kvs:List (Key×D))(k:Key)(v:D):List (Key×D):=
 if (kvs.any λa=>decide (a.1=k))=true then kvs.map (λa=>if a.1=k then(a.1,v) else a) else kvs++ [(k,v)]
noncomputable def bU(kvs more:List (Key×D)):List (Key×D):=more.foldl (λa b=>putD a b.1 b.2) kvs
theorem bM.append:∀{l m:List (Key×D)} {kv kw:List (Key×V)},bM M ρ H l kv->bM M ρ H m kw->bM M ρ H (l++m) (kv++kw)
 | [],_,_,_,h,h'=>by cases h;show h'
 |(_,_)::_,_,_,_,#[v,t,e,h,hs],h'=>by subst e;show#[v,_,L,h,bM.append hs h']
theorem bM.any:∀{l:List (Key×D)} {kv:List (Key×V)} (k:Key),bM M ρ H l kv->(l.any λp=>decide (p.1=k))=kv.any λp=>decide (p.1=k)
 | [],_,_,h=>by cases h;rfl
 |(_,_)::_,_,k,#[v,t,e,h,hs]=>by subst e;erw[List.any_cons,bM.any k hs]
theorem bM.mapP{k:Key}(r:Rel M ρ H d v):∀{l:List (Key×D)} {kv:List (Key×V)},bM M ρ H l kv->bM M ρ H (l.map λp=>if p.1=k then(p.1,d) else p) (kv.map λp=>if p.1=k then(p.1,v) else p)
 | [],_,h=>by cases h;rfl
 | (k',_)::_,_,#[u,t,e,h,hs]=>by
   subst e
   erw[QDq]
   by_cases c:k'=k
   · erw[c,if_true];show#[v,_,L,r,bM.mapP r hs]
   · erw[c,if_false];show#[u,_,L,h,bM.mapP r hs]
def bM.put(h:bM M ρ H l kv)(r:Rel M ρ H d v):bM M ρ H (putD l k d) (putK kv k v):=by
 unfold putD putK
 rw[h.any k]
 split
 ·show h.mapP r
 ·show h.append #[v,[],L,r,L]
theorem bM.merge:∀{m:List (Key×D)} {kw:List (Key×V)} {l:List (Key×D)} {kv:List (Key×V)},bM M ρ H m kw->bM M ρ H l kv->bM M ρ H (bU l m) (jO kv kw)
 | [],_,_,_,h,h'=>by cases h;show h'
 | (k,d)::m,_,_,_,#[v,t,e,h,hs],h'=>by
   subst e
   unfold bU jO
   rw[List.foldl_cons,List.foldl_cons]
   show bM.merge (m:=m) (kw:=t) hs<|h'.put h
theorem bM.zip:∀{a:List Key} {ds:List D} {vs:List V},aO M ρ H ds vs->bM M ρ H (a.zip ds) (a.zip vs)
 | [],_,_,_=>rfl
 |_::_,_,_,.nil=>rfl
 |k::a,_,_,.cons h hs=>#[_,_,L,h,bM.zip hs]
theorem bM.val:∀{l:List (Key×D)} {kv:List (Key×V)} {k:Key} {d:D},bM M ρ H l kv->g8 l k=some d->∃v,lK kv k=some v/\Rel M ρ H d v
 | [],_,_,_,_,e=>by cases e
 | (k',d')::_,_,k,d,#[v,t,e,h,hs],e'=>by
   subst e
   unfold g8 at e'
   unfold lK
   rw[List.find?_cons] at e'|-
   by_cases c:k'=k
   · erw[c,decide_true] at e'|-
     cases e'
     show#[v,L,h]
   · erw[c,decide_false] at e'|-
     show bM.val hs e'
theorem bM.noval:∀{l:List (Key×D)} {kv:List (Key×V)} {k:Key},bM M ρ H l kv->g8 l k=none->lK kv k=none
 | [],_,_,h,_=>by cases h;rfl
 | (k',d')::_,_,k,#[v,t,e,h,hs],e'=>by
   subst e
   unfold g8 at e'
   unfold lK
   rw[List.find?_cons] at e'|-
   by_cases c:k'=k
   · erw[c,decide_true] at e';cases e'
   · erw[c,decide_false] at e'|-
     show bM.noval hs e'
def bM.ext'(h:bM M ρ H l kv)(e:bB ρ H a b):bM M a b l kv:=h.imp λ_ _ r=>r.ext e
def bM.pre'(h:bM M ρ H l kv)(e:ρ <+: a):bM M a H l kv:=h.imp λ_ _ r=>r.pre e
def OF{Q:VK}(x:bB ρ H d h)(st:fg M d n h)(j:h p=none)(r:bM M d h l kv)
  (q:∀f v g,bB ρ H f g->fg M f (n++ [.dct l]) g->Rel M f g (.ref n.length) v->Q v g):Q (.ref p) (upd h p<|.dK kv):=by
 have t:p∉d:=cD x st j
 have s:bB d h d (upd h p<|.dK kv):=bB.laid j
 let k:=(st.lay (u:=.dK kv) j).box (o:=.dct l) t #[kv,aR,(r.ext' s).pre' (List.prefix_append _ _)]
 show q (d++ [p]) (.ref p) _ #[x.pre.trans<|List.prefix_append _ _,λc i=>?_,(x.trans s).keep,(x.trans s).grow] k<|.ref ?_
 ·rcases mQa.mp i with i|i
  ·show x.new c i
  ·rw[Qfq] at i;subst i;show .inr (x.grow _ j)
 ·rw[<-st.len,QQq (Qmq _)]
  simp
open Classical in
def Nw(f g:dU):aU:=λh S=>(f h S).bind λ(p,i)=>(g h i).bind λ(r,d)=>if p.2.stays d p.1/\p.1.length=r.1.length then(yG p.1).bind λj=>some (.ref d.length,d++ [.dct (bU []<|j.zip r.1)]) else none
def Nv{X:Cx}{a:Expr}{b:Expr}{p1 j Z s:Pos}{f g:dU}(hc:X.calm=true)(n:Gl X "dict")(o:X.mg "dict"=none)(P:Gl X "zip")(hm:X.mg "zip"=none)(ha:PE X a (tQ (md X) f))(K:PE X b (tQ (md X) g))(x:autoParam (starEach [a,b] X.env= [(false,eval a X.env),(false,eval b X.env)]) db._auto_1)(h:autoParam (starEach [b] X.env= [(false,eval b X.env)]) db._auto_1)
  (he:autoParam (starEach [Expr.Call (.Name "zip" j) [a,b] [] s] X.env= [(false,eval (Expr.Call (.Name "zip" j) [a,b] [] s) X.env)]) db._auto_1):
  PE X (.Call (.Name "dict" p1) [.Call (.Name "zip" j) [a,b] [] s] [] Z) (tD (md X)<|Nw f g):=jl (B0 hc n o P hm (bJ ha (bJ K de h) (by rw[x,h])) x h he) λσ H Q ⟨ρ,w,S,d,S',ok,e,q⟩=>by
 let#[#[#[t,t1],A],e1,e]:=aq e
 let#[#[#[u,C],S2],Y,e]:=aq e
 dsimp only at e
 split at e
 ·rename_i c
  let#[M,e3,e]:=aq e
  let#[rfl,rfl]:=bN e
  show#[ρ,w,S,t,t1,A,ok,e1,λr a1 J H1 B k U I=>#[r,w,A,u,C,S2,ok.to B k,Y,λN F W H2 y i G z=>?_]]
  let#[a0,h3,v]:=U.to I y i c.1
  let R:=zM v e3
  subst R
  let hl:=v.length
  rw[lQm] at hl
  show#[_,_,a1,F,M,W,L,h3.sqB,G.sqB,by rw[<-hl,<-z.length];show c.2,λp hp=>?_]
  show OF (B.trans y) i hp (bM.merge (l:= []) (bM.zip z) L) q
 ·cases e
noncomputable def PQ:aU:=λ_ S=>some (.ref S.length,S++ [.dct []])
def Qz:PE X (.Dict [] [] m) (tD (md X) PQ):=jl Fw λk H Q g=>by
 let#[i,j,S,d,h,ok,e,q]:=g
 let#[rfl,rfl]:=bN e
 show λp f=>OF bB.refl ok.st f (l:= []) (kv:= []) L q
noncomputable def Ky(f g:aU):aU:=λi S=>(f i S).bind λ(x,j)=>(g i j).bind λ(y,h)=>match x with
 | .ref k=>match h[k]? with
   |some (.dct l)=>(oH y).bind λn=>(g8 l n).bind λd=>some (d,h)
   |_=>none
 |_=>none
def MC{X:Cx}(M:X.A.units+1<cLine)(p:PE X a (tD (md X) f))(z:PE X b (tD (md X) g))(o:Jo b):PE X (.Subscript a b m) (tD (md X)<|Ky f g):=jl (Ku M p z o) λσ H Q J=>by
 let#[K,r,S,d,S',ok,e,q]:=J
 let#[#[x,t],R,e]:=aq e
 let#[#[y,I],G,e]:=aq e
 cases x with
 | ref k=>
   dsimp only at e
   split at e
   · rename_i l o
     let#[Y,U,e]:=aq e
     let#[d',W,e]:=aq e
     let#[rfl,rfl]:=bN e
     show#[K,r,S,_,t,ok,R,λn Z H1 u j i=>#[n,r,t,y,I,ok.to u j,G,λB v2 H2 s h P=>?_]]
     cases nH P U
     let i:=i.ext s
     cases i with
     | ref p=>
       let#[kv,F,w]:=h.obj k _ _ p o
       let#[v,N,C]:=w.val W
       show#[_,v,L,by rw[<-N];show wj.k F,q _ _ _ (u.trans s) h C]
   · cases e
 |_=>cases e
noncomputable def MO(f g h:aU):cH:=λi S=>(h i S).bind λ(d,o)=>(f i o).bind λ(x,n)=>(g i n).bind λ(y,j)=>match x with
 | .ref k=>match j[k]? with
   |some (.dct l)=>(oH y).bind λp=>if l.length<sizeLine then some (.nx i (j.set k<|.dct (putD l p d))) else none
   |_=>none
 |_=>none
mutual
theorem Rel.offK{H:Hp}(f:H b=some (.dK g)):∀{d:D} {v:V},Rel M ρ H d v->Rel M ρ (upd H b o) d v
 |_,_,.non=>.non
 |_,_,.bl x=>.bl x
 |_,_,.int i=>.int i
 |_,_,.str x=>.str x
 |_,_,.tup h hs=>.tup (by rw[aM (Gz h f (by intro z;cases z))];show h) (aO.offK f hs)
 |_,_,.ref h=>.ref h
 |_,_,.fn h=>.fn h
theorem aO.offK{H:Hp}(d:H b=some (.dK f)):∀{ds:List D} {vs:List V},aO M ρ H ds vs->aO M ρ (upd H b o) ds vs
 |_,_,.nil=>.nil
 |_,_,.cons h hs=>.cons (Rel.offK d h) (aO.offK d hs)
end
def fg.putKd(st:fg M ρ S H)(d:ρ[k]?=some a)(h:S[k]?=some (.dct l))(r:bM M ρ H i kw):fg M ρ (S.set k<|.dct i) (upd H a<|.dK kw)/\bB ρ H ρ (upd H a<|.dK kw):=by
 let#[n,f,j]:=st.obj k a _ d h
 show st.put d h #[kw,aR,r.imp λ_ _ q=>q.offK f] λx g=>by rw[f] at g;cases g;show id
def QS{X:Cx}{m:Pos}(hu:X.A.units+1<cLine)(s:PE X a (tD (md X) f))(R:PE X b (tD (md X) g))(hv:PE X v (tD (md X) h))(r:autoParam (swapsWith v (some<|.Subscript a b i) m.line X.env=pure false) db._auto_1):PS X (.Assign [.Subscript a b i] v m) (tS (md X)<|MO f g h):=
 Dc (IQ hu s R hv r) λD σ H qq=>by
  let#[ρ,F,S,o,ok,e,q]:=qq
  let#[#[d,P],e1,e]:=aq e
  let#[#[x,N],Z,e]:=aq e
  let#[#[y,S3],e3,e]:=aq e
  cases x with
  | ref k=>
    dsimp only at e
    split at e
    · rename_i l r
      let#[U,e4,e]:=aq e
      split at e
      · rename_i hl
        cases e
        show#[ρ,F,S,d,P,ok,e1,λC v1 H1 J n u=>#[C,F,P,_,N,ok.to J n,Z,λw v2 H2 G B I=>#[w,F,N,y,S3,(ok.to J n).to G B,e3,λY v3 H3 z j Q=>?_]]]
        cases nH Q e4
        let I:=I.ext z
        let u:=u.ext (G.trans z)
        let p:=(J.trans G).trans z
        cases I with
        | ref s=>
          let#[kv,W,K]:=j.obj k _ _ s r
          let#[t,M]:=j.putKd s r (K.put (k:=U) u)
          show#[_,_,L,FS.k W (by rw[<-K.length];show hl),q _ _ _ (p.trans M) ((ok.to p j).to M t)]
      · cases e
    · cases e
  |_=>cases e
open Classical in
def Lv(f:dU)(g:aU):aU:=λh S=>(f h S).bind λ(p,k)=>if p.2.isL=true then(g h k).bind λ(y,d)=>if p.2.stays d p.1 then(xE y).bind λv=>(ip p.1).bind λi=>(kf v i).bind λj=>some (.int (j:Nat),d) else none else none
def P6{i h:Pos}(ho:PE X o (tQ (md X) f))(ha:PE X e (tD (md X) g))(k:autoParam (attributeBase o "index" X.env (eval o X.env)=eval o X.env) db._auto_1) (p:autoParam (((backTo h (starEach [e] X.env)).all (λx=> !x.1)&&(backToKw h (keywordEach [] X.env)).all (λx=>x.1.isSome)
   &&decide ([e].length+([]:List Keyword).length+(if ([]:List Keyword).isEmpty then 0 else 1)<30))=true) db._auto_1)
  (l:autoParam ((i.endLine==h.line)=true) db._auto_1) (C:autoParam (starEach [e] X.env= [(false,eval e X.env)]) db._auto_1):PE X (.Call (.Attribute o "index" i) [e] [] h) (tD (md X)<|Lv f g):=
 jl (zo PySem.F.plainAttrs_list PySem.F.slot_list_index PySem.F.type_list_index Fp ho (cN ha jV C) k p l C) λσ H Q qq=>by
  let#[ρ,B,S,d,S',ok,e,q]:=qq
  let#[#[#[W,t],J],e1,e]:=aq e
  dsimp only at e
  split at e
  ·rename_i z
   let#[#[y,S2],Y,e]:=aq e
   dsimp only at e
   split at e
   ·rename_i R
    let#[v,I,e]:=aq e
    let#[vs,e4,e]:=aq e
    let#[j,M,e]:=aq e
    let#[rfl,rfl]:=bN e
    show#[ρ,B,S,W,t,J,ok,e1,λu a us H1 K r A P=>#[.inl #[L,us,A.sqL z],u,B,J,[y],S2,ok.to K r,by erw[aw,ax,Y,Qbq],λU ws H2 G n w=>?_]]
    let#[s,h3,N]:=A.to P G n R
    cases w with
    | cons w Z=>
      cases Z
      cases m3 w I
      let#[rfl,f1]:=kn N e4
      show#[a,s,_,j,L,L,h3.sqL z,sf I,f1,M,q _ _ _ (K.trans G) n<|.int _]
   ·cases e
  ·cases e
def Rb:V->List V->Hp->VK->Prop:=λx g H Q=>∃a b f d,x=.ref a/\g= [.ref b]/\a≠b/\H a=some (.dK f)/\H b=some (.dK d)/\f.length+d.length<=sizeLine/\Q .non (upd H a<|.dK (jO f d))
def DU:Ob X "dict.update" Rb:=by
 intro n s M H x K v N Q I B A h
 let#[a,b,l,f,rfl,rfl,ab,ha,hb,hz,q]:=h
 cases B
 let#[u,rfl,ru]:=A.one
 cases ru
 let#[z,p,t,g,o]:=An I.hok ha
 let#[J,k,r,d,m]:=An I.hok hb
 show call_meetsIn PySem.F.slot_dict_update o.typeIs PySem.F.entry_dict_update (PySem.F.args_dict_update_2 _ _) (meets_dict_update (bA X.prog X.w) a b ab k) #[t,r,o,m,by rw[<-g.length,<-d.length];show hz,λy j _ C=>?_]
 have G:∃q,y.get? a=some q:=let ⟨q,_,_,hq,_⟩:=j;#[q,hq]
 let hl:=iM f l
 show#[.non,_,qV I (by rw[ha];show True.intro) C G<|sH (!0) p (KV.merge d g) j,L,q]
noncomputable def J5(f g:aU):aU:=λn S=>(f n S).bind λ(x,h)=>(g n h).bind λ(y,d)=>match x,y with
 | .ref k,.ref j=>if k≠j then match h[k]?,d[k]?,d[j]? with
   |some (.dct _),some (.dct l),some (.dct m)=>if l.length+m.length<=sizeLine then some (.non,d.set k<|.dct (bU l m)) else none
   |_,_,_=>none
   else none
 |_,_=>none
def Pt{p h:Pos}(ho:PE X o (tD (md X) f))(B:PE X e (tD (md X) g))(r:autoParam (attributeBase o "update" X.env (eval o X.env)=eval o X.env) db._auto_1) (w:autoParam (((backTo h (starEach [e] X.env)).all (λx=> !x.1)&&(backToKw h (keywordEach [] X.env)).all (λx=>x.1.isSome)
   &&decide ([e].length+([]:List Keyword).length+(if ([]:List Keyword).isEmpty then 0 else 1)<30))=true) db._auto_1)
  (s:autoParam ((p.endLine==h.line)=true) db._auto_1) (Z:autoParam (starEach [e] X.env= [(false,eval e X.env)]) db._auto_1):PE X (.Call (.Attribute o "update" p) [e] [] h) (tD (md X)<|J5 f g):=
 jl (zo PySem.F.plainAttrs_dict PySem.F.slot_dict_update PySem.F.type_dict_update DU ho (cN B jV Z) r w s Z) λσ H Q qq=>by
  let#[ρ,Y,S,d,S',ok,e,q]:=qq
  let#[#[x,P],e1,e]:=aq e
  let#[#[y,J],e2,e]:=aq e
  cases x with
  | ref k=>
    cases y with
    | ref j=>
      dsimp only at e
      split at e
      · rename_i ne
        cases I:P[k]? with
        |none=>rw[I] at e;cases e
        | some o1=>
          rw[I] at e
          cases o1 with
          | dct l0=>
            cases A:J[k]? with
            |none=>rw[A] at e;cases e
            | some o2=>
              rw[A] at e
              cases o2 with
              | dct l=>
                cases M:J[j]? with
                |none=>rw[M] at e;cases e
                | some o3=>
                  rw[M] at e
                  cases o3 with
                  | dct m=>
                    dsimp only at e
                    split at e
                    · rename_i hl
                      let#[rfl,rfl]:=bN e
                      show#[ρ,Y,S,_,P,ok,e1,λG v H1 x1 u r1=>?_]
                      cases r1 with
                      | ref B=>
                        rename_i a
                        let#[K,g0,_]:=u.obj k a _ B I
                        show#[.inr (.inr (.inl #[L,.inl #[K,g0]])),G,Y,P,[.ref j],J,ok.to x1 u,by erw[aw,ax,e2,Qbq],λa0 ws H2 x2 n N=>?_]
                        cases N with
                        | cons N rr=>
                          cases rr
                          cases N with
                          | ref R=>
                            rename_i b
                            let t:=cn x2.pre B
                            let#[kv,g1,U]:=n.obj k a _ t A
                            let#[kw,g3,W]:=n.obj j b _ R M
                            have ab:a≠b:=λz=>by subst z;show ne (i3 n.nd t R)
                            let#[C,x3]:=n.putKd t A (bM.merge W U)
                            show#[a,b,kv,kw,L,L,ab,g1,g3,by rw[<-U.length,<-W.length];show hl,q _ _ _ ((x1.trans x2).trans x3) C .non]
                    · cases e
                  |_=>cases e
              |_=>cases e
          |_=>cases e
      · cases e
    |_=>cases e
  |_=>cases e
end DL
namespace L2
open PyProof.Rows
def u0{D:X8}{R:Result->Shared->Prop}(I:Nat->Shared->Prop)
  (F:∀n s,I n s->wpAny (model prog w) A (pyNext it) (λr f=>match r with
   |none=>R (.ok .next) f
   |some v=>wpAny (model prog w) A (letOwnedTupleGo a it v) (λ_ d=>wpAny (model prog w) A (assign a env v) (λ_ l=>
     wpAny (model prog w) A (forIn q true λc r=>if r=true then do let ok<-isTrue c env (eval c env);pure (ForInStep.yield ok) else pure (ForInStep.yield r)) (λok s₃=>
      if ok=true then wpAny (model prog w) A (eval G env) (λx i=>wpAny (model prog w) A (eval H env) (λy j=>
       wpAny (model prog w) A (dictSet D x y) (λ_ k=>∃m,m<n/\I m k) (λ_ _=>False) j) (λ_ _=>False) i) (λ_ _=>False) s₃
      else∃m,m<n/\I m s₃) (λ_ _=>False) l) (λ_ _=>False) d) (λ_ _=>False) f) (λ_ _=>False) s)
  (n:Nat) (h:I n s):codeAny (model prog w) A (.compLoop (.DictComp G H [#[a,o,q,0]] e B) 0 it (.ref D) env) R s:=by
 show codeAny_loop L I (λn s J=>?_) n h
 show wpAny _ A ((compTurn (.DictComp G H [#[a,o,q,0]] e B) 0 it (.ref D) env).onRaise (λx=>do noteFrame x env;theTreesLotGoes x)) _ _ s
 show wpAny_noted ?_
 rw[compTurn_dict]
 show Qaq<|wpAny_standAt<|Qaq (QRq (F n s J) (λr f g=>?_) λ_ _ b=>b.elim)
 cases r with
 |none=>show Qgq g
 | some v=>
   show Qaq (QRq g (λ_ d p=>?_) λ_ _ b=>b.elim)
   show Qaq (QRq p (λ_ l u=>Qaq (QRq u (λok s₃ h₃=>?_) λ_ _ b=>b.elim)) λ_ _ b=>b.elim)
   cases ok with
   |false=>show Qgq #[L,h₃]
   | true=>
     show Qaq<|Qaq (QRq h₃ (λx i t=>Qaq<|QLq (QRq t (λy j z=>Qaq<|wpAny_standAt<|QLq (QRq z (λ_ k C=>Qgq #[L,C]) λ_ _ b=>b.elim)) λ_ _ b=>b.elim)) λ_ _ b=>b.elim)
def Mp(J:It)(g:TG)(p:TT)(o n:TE)(Q:VK)(D:X8)(σ:St)(H:Hp):Prop:=
 ∃ W:Nat->Nat->St->Hp->Prop,(∃m,W 0 m σ H)/\∀i m e f,W i m e f->
   (J.stop i f/\Q (.ref D) f)\/(J.go i f/\∃Nx:St->Hp->Prop,(∀b d,Nx b d->∃l,l<m/\W (i+1) l b d)∧
     ∀ x H2,J.yld i f x H2->g x e H2 λa H3=>p a H3 λok H4=>
       if ok=true then o a H4 λk H5=>n a H5 λy h=>∃c j,k=kV j/\h D=some (.dK c)/\c.length<sizeLine/\Nx a (upd h D (.dK (putK c j y))) else Nx a H4)
def F9(js:List (Option Nat))(c:TI)(g:TG)(e:TT)(d b:TE):TE:=λa H Q=>c a H λJ H1=>∀D,H1 D=none->Mp J g e d b Q D (jC js a) (upd H1 D<|.dK [])
def GI{X:Cx}{N:X6}{js:List (Option Nat)}{a:Scope}{cl:List (Str×Addr)}{tg Q kx vx G:Expr}{a9:List Expr}{b3 b0:Pos}{wi:TI}{g gt:TG}{tt:TT}{tk tv:TE}
  (S:aL X N js a cl) (hc:X.calm=true) (hi:PI X tg Q wi)
  (hg:∀C s H fp,PG (aF X N a cl C s H fp) tg g) (ht:∀C s H fp,mK (aF X N a cl C s H fp) a9 tt) (hk:∀C s H fp,PE (aF X N a cl C s H fp) kx tk) (hv:∀C s H fp,PE (aF X N a cl C s H fp) vx tv) (d8:PG X G gt)
  (hs:autoParam (∀x,foldedSetIterable Q X.env x=pure x) dl._auto_1) (d9:autoParam (swapsWithSole [G] (.DictComp kx vx [⟨tg,Q,a9,0⟩] a b3) b0.line X.env=pure true) db._auto_1)
  (h1:autoParam ((assignEach [G] X.env).map (·.2)= [assign G X.env]) db._auto_1):PS X (.Assign [G] (.DictComp kx vx [#[tg,Q,a9,0]] a b3) b0) (D8 (F9 js wi g tt tk tv) gt):=by
 intro a0 s σ H Dn I h
 rw[exec_Assign_arm]
 show Qaq<|wpAny_standAt<|Qaq<|wpAny_of_eq d9<|wpAny_ite_true L<|Qaq ?_
 rw[h1]
 show wpAny _ _ (do let _<-comprehension _ _ _ _ _ _ _ (some λv=>assignAll v [assign G X.env]);pure ()) _ _ _
 show Qaq ?_
 show wpAny_comprehension_free (use:=some λv=>assignAll v [assign G X.env]) L hs S.clos S.kind S.names (cj (hi a0 s σ H _ I h) λv s1 h1=>cj h1 λe5 t h2=>?_)
 let#[it,fp,tn,J,H2,e,F,T,b4,f2,hD]:=h2
 subst e
 show QhQ<|wpAny_newFunctionEnv S.nocell (by intro y hy;simp at hy) (λU P B=>?_) S.kind
 dsimp only at P B|-
 generalize a7:t.heap.push {cls:=.type "dict",data:=.dict (List.toArray [])}=P2 at P B|-
 have hC:P2.objs.size=t.heap.objs.size+1:=by rw[<-a7,Heap.size_push]
 have b6:t.heap.objs.size≠P2.objs.size:=by rw[hC];show Qwq (Nat.lt_succ_self _)
 have a2:t.heap.objs.size<=P2.objs.size:=by rw[hC];show Nat.le_succ _
 have K:∀b,b<t.heap.objs.size->b≠P2.objs.size:=λb f=>by rw[hC];show Qwq (Nat.lt_succ_of_lt f)
 have a1:∀b o,t.heap.get? b=some o->U.get? b=some o:=λb o e=>B.extBut b o (K b<|Qiq e) (Qcq _ (a7▸Qcq _ e))
 have e4:U.get? t.heap.objs.size=some {cls:=.type "dict",data:=.dict (List.toArray [])}:=B.extBut _ _ b6 (Qcq _ (a7▸Qrq _ L))
 have nD:H2 t.heap.objs.size=none:=F.fresh
 have nC:H2 P2.objs.size=none:=F.hok.fresh a2
 have b5:∀b∈fp,b<t.heap.objs.size:=λb f=>by
  let#[o,e,_]:=T.obj _ _ b4 b f
  show Qiq e
 let#[W,#[m0,w0],d2]:=hD t.heap.objs.size nD
 have b7:(aF X N a cl P2.objs.size t H2 fp).Ok:=by
  show⟨F.ok.mod,S.kind,F.ok.glob,F.ok.blt,a2,λx y c h1 h2=>F.ok.inj x y c (S.sub x c h1) (S.sub y c h2),S.has,(λx c h=>by cases h),F.ok.hd,F.ok.frames,.inl L,
   λb f=>#[K b (b5 b f),λx c h=>(f2 b f).2.2.2.2.1 x c (S.sub x c h)],F.bs,QAq F.ok.bsz F.sz,λb o e f=>?_,λb f z=>?_,F.stack,F.stkFree⟩
  ·rcases(f2 b f).2.2.2.1 with z|z
   ·show F.ok.noex b o e z
   ·show absurd (Qqq (Qqq (Qiq e) F.ok.bsz) z)<|Nat.lt_irrefl _
  ·rcases Qsq.mp (F.stkSub b z) with q|q
   ·show(f2 b f).2.1 q
   ·show(f2 b f).2.2.1 q
 have c8:bR X.prog X.w (upd H2 t.heap.objs.size<|.dK []) U t.heap.objs.size (.dK []):=by
  let#[o,es,ep,e1,e2]:=Heap.DictOf.new (knd:=bA X.prog X.w) t.heap
  show sH (Nat.zero_le _) (beq_eq_false_iff_ne.mpr<|Ne.symm<|Qwq F.big) .nil #[o,es,ep,B.extBut _ _ b6<|Qcq _ (a7▸e1),e2]
 have I4:Inv (aF X N a cl P2.objs.size t H2 fp) [] (jC js σ) (upd H2 t.heap.objs.size<|.dK []) {t with heap:=U,toks:=t.toks+([]:List (Str×Value)).length}:=by
  show#[b7,L,F.bare,Un.laid a1 (Qmq _) nD,#[_,P,λi x v h1 h2 h3=>?_],λx c h=>?_,by show upd H2 _ _ P2.objs.size=none;rw[aM b6.symm];show nC,λx c h=>?_,λp hp=>absurd (show p∈([]:List (Addr×Obj)) from hp) (by simp),F.hok.laid a1 (Qmq _) c8,by show(jC js σ).length=N.length;unfold jC;rw[lQm];show S.len]
  ·unfold jC at h2
   rw[gQm] at h2
   cases e:js[i]? with
   |none=>rw[e] at h2;cases h2
   | some o=>
     rw[e] at h2
     cases o with
     |none=>cases h2
     | some j=>
       have a4:σ.getD j none=some v:=QdQ h2
       have hj:σ[j]?=some (some v):=by
         rw[Qlq] at a4
         cases q:σ[j]? with
         |none=>rw[q] at a4;cases a4
         |some y=>rw[q] at a4;show congrArg some a4
       let#[c1,c2,c3]:=S.cap i j x e h1
       let#[m,hn,hl]:=F.loc
       have d7:IA X.env.scope x:=by
         rcases c2 with z|z
         · show .inr (.inl z)
         · show .inr (.inr z)
       let#[u,r,l]:=hl j x v c1 hj d7
       show#[u,r,.inr #[c3,?_]]
       let#[c,c4]:=S.has x c3
       show#[c,c4,?_]
       rcases l with⟨z,_⟩|⟨_,c',e',z⟩
       · rcases c2 with y|y <;>rw[y] at z <;>cases z
       · rw[S.sub x c c4] at e'
         cases e'
         let#[o,ho,hd]:=z
         show#[o,a1 _ _ ho,hd]
  ·let#[v,o,ho,hd]:=F.cell x c (S.sub x c h)
   show#[v,o,a1 _ _ ho,hd]
  ·let#[v,o,ho,hd]:=F.cell x c (S.sub x c h)
   rw[aM (Qwq<|Qiq ho)]
   show F.freeC x c<|S.sub x c h
 have a3:∀{Y:X2} {H':Hp},Y= []->(∀b∈fp,H' b=none)->∀b∈fp,o_ (aF X N a cl P2.objs.size t H2 fp) Y H' b:=λ{Y H'} ep hn b f=>by
  subst ep
  show#[hn b f,K b<|b5 b f,λz=>b7.exfs b f z,.inl f,λx c h=>(f2 b f).2.2.2.2.1 x c (S.sub x c h),λp hp=>absurd (show p∈([]:List (Addr×Obj)) from hp) (by simp)]
 have b1:codeAny (model X.prog X.w) X.A (.compLoop (.DictComp kx vx [⟨tg,Q,a9,0⟩] a b3) 0 (.ref it) (.ref t.heap.objs.size) (compEnvC a cl P2.objs.size X.env))
   (compPost (model X.prog X.w) X.A X.xe (some λv=>assignAll v [assign G X.env]) (λ_ s9=>wpAny (model X.prog X.w) X.A (pure ()) (λ_ d3=>wpAny (model X.prog X.w) X.A (pure Flow.next) (SP X a0 Dn) X.xe d3) X.xe s9) (.ref t.heap.objs.size) P2.objs.size) {t with heap:=U,toks:=t.toks+([]:List (Str×Value)).length}:=by
  show u0 (λn s'=>∃i a5 H',Inv (aF X N a cl P2.objs.size t H2 fp) [] a5 H' s'/\tn i s'.heap/\(∀b∈fp,H' b=none)/\W i n a5 H') ?_ m0
   #[0,_,_,I4,T.keep _ _ _ b4 λb _ o e=>a1 b o e,λb f=>by rw[aM (Qwq<|b5 b f)];show(f2 b f).1,w0]
  rintro n s3 ⟨i,a6,H3,I3,c0,c6,w3⟩
  rcases d2 i n a6 H3 w3 with⟨stop,q⟩|⟨go,Nx,hN,b9⟩
  ·show cj (T.done (aF X N a cl P2.objs.size t H2 fp) L L L hc i [] s3 a6 H3 _ I3 (a3 L c6) c0 stop) λr s4 Z=>?_
   let#[hr,I5]:=Z
   subst hr
   let#[m,hn,_]:=id I5.loc
   have d5:∀h',Heap.SameBut P2.objs.size s4.heap h'->Inv X a0 σ H3 {s4 with heap:=h'}:=by
    intro h' R
    let u:=I5.base
    have ne:∀b o,t.heap.get? b=some o->b≠P2.objs.size:=λb o e=>K b (Qiq e)
    show F.call' (ch:=fp) I5.os #[λb o e n f hx=>(R.2 b<|ne b o e).trans (u.keep b o e n f hx),λb o e n f hx=>?_,u.free,λb o e hx=>?_,u.tups,u.frzs,u.tbls] (λb ob e=>?_) I5.bare λb f=>#[(f2 b f).2.2.2.1,(f2 b f).2.1,(f2 b f).2.2.2.2.1,(f2 b f).2.2.2.2.2]
    ·let#[sl,e1]:=u.slot b o e n f hx
     show#[sl,(R.2 b<|ne b o e).trans e1]
    ·let#[o',e1]:=u.there b o e hx
     show#[o',(R.2 b<|ne b o e).trans e1]
    ·show(I5.hok b ob e).stay (λc w' hc q=>(R.2 c ?_).trans q) (λ_ q=>q) λ_ _ q=>q
     have fC:H3 P2.objs.size=none:=I5.free
     rintro rfl
     rcases hc with z|z
     ·rw[<-z,fC] at e;cases e
     ·rw[fC] at z;cases z
   let IX:=d5 s4.heap #[L,λ_ _=>rfl]
   have a8:o_ X a0 H3 P2.objs.size:=F.fpOk a2 I5.free
   let#[oC,es,ep,d1,c5,d4]:=hn
   let IP:=IX.pinned (fp:= [P2.objs.size]) (λb f=>by rw[Qfq] at f;rw[f];show a8) (λb f=>by rw[Qfq] at f;rw[f];show#[oC,d1,λv=>by rw[c5];simp])
   show wpAny _ _ (assignAll (.ref t.heap.objs.size) [assign G X.env]) _ _ _
   rw[assignAll.eq_2]
   show cj (d8 _ s4 σ H3 (.ref t.heap.objs.size) (.ref t.heap.objs.size) _ IP L q) λ_ s6 Z=>?_
   let#[M,H6,I6,q6]:=Z
   let pC:=I6.pin (P2.objs.size,oC) (Qoq _<|Qoq _<|cW (Qfq.mpr L) d1)
   show#[m,#[oC,es,ep,pC.1,c5,d4],λh' R=>Qgq<|Qgq #[M,H6,?_,q6]]
   show I6.unpinned.turned (it:=P2.objs.size) (t':=s6.toks) (λb o' f e=>(R.2 b f).trans e) pC.2.1 pC.2.2.1 a8.2.2.2.1 a8.2.2.2.2.1 a8.2.2.2.2.2
  ·show cj (T.item (aF X N a cl P2.objs.size t H2 fp) L L L hc i [] s3 a6 H3 _ I3 (a3 L c6) c0 go) λr s4 Z=>?_
   let#[u,hr,h4]:=Z
   subst hr
   show cj h4 λ_ s5 Z=>?_
   let#[x,H5,I5,r5,y5,b2,d6]:=Z
   let e3:=I5.pinned (a3 L d6) (T.obj _ _ b2)
   show cj (hg P2.objs.size t H2 fp _ s5 a6 H5 x u _ e3 r5<|b9 x H5 y5) λ_ s6 Z=>?_
   let#[M,H6,I6,q6]:=Z
   show cj (ht P2.objs.size t H2 fp _ s6 M H6 _ I6 q6) λok s7 Z=>?_
   let#[H7,I7,q7]:=Z
   have again:∀{s8:X4} {H8:Hp},Inv (aF X N a cl P2.objs.size t H2 fp) ([]++mX fp s5.heap) M H8 s8->Nx M H8->∃m,m<n/\∃i a5 H',Inv (aF X N a cl P2.objs.size t H2 fp) [] a5 H' s8/\tn i s8.heap/\(∀b∈fp,H' b=none)/\W i m a5 H':=λ{s8 H8} I8 n8=>by
    let#[m',hm,w8]:=hN M H8 n8
    show#[m',hm,i+1,M,H8,I8.unpinned,T.keep _ _ _ b2 λb f o e=>(I8.pin (b,o)<|Qoq _<|Qoq _<|cW f e).1,λb f=>?_,w8]
    let#[o,e,d]:=T.obj _ _ b2 b f
    show(I8.pin (b,o)<|Qoq _<|Qoq _<|cW f e).2.1
   cases ok with
   |false=>show again I7 q7
   | true=>
     show cj (hk P2.objs.size t H2 fp _ s7 M H7 _ I7 q7) λkv s8 Z=>?_
     let#[k,H8,I8,rk,q8]:=Z
     show cj (hv P2.objs.size t H2 fp _ s8 M H8 _ I8 q8) λyv s9 Z=>?_
     let#[y,H9,I9,ry,e0,ky,ek,hx,hl,n9]:=Z
     subst ek
     let#[z,hd,vs,c9,dd]:=An I9.hok hx
     show wpAny_dictSet_pairs (vk rk) dd (λh' b8 R=>?_) (by rw[<-c9.length];show z)
     have he:∃q,h'.get? t.heap.objs.size=some q:=let ⟨q,_,_,hq,_⟩:=b8;#[q,hq]
     let e6:=iC e0 ky y
     show again (qV I9 (by rw[hx];show True.intro) R he<|sH (!0) hd (c9.put ky ry) b8) n9
 show codeAny_compStart_dict b1<|T.self _ 0 _ _ _ (T.keep _ _ _ b4 λb _ o e=>a1 b o e) b1
end L2
namespace DL
open PyProof.Rows L2
theorem fg.offK(st:fg M ρ S H)(f:H b=some (.dK c))(n:b∉ρ):fg M ρ S (upd H b o):=⟨st.len,st.nd,λk a p i m=>by
 let q:=st.obj k a p i m
 have g:a≠b:=λz=>n (z▸mQg i)
 cases p with
 |lst j=>let#[h,d,e]:=q;show#[h,by rw[aM g];show d,e.offK f]
 |frz j=>let#[h,o,d,e]:=q;show#[h,o,by rw[aM g];show d,e.offK f]
 |dct l=>let#[v,d,e]:=q;show#[v,by rw[aM g];show d,e.imp λ_ _ r=>r.offK f]
 |sett j=>let#[s,t,d,e,u]:=q;show#[s,t,by rw[aM g];show d,e.offK f,u]⟩
def En.offK(h:En M ρ H a σ)(g:H b=some (.dK c)):En M ρ (upd H b o) a σ:=#[h.len,λi d q=>by let#[v,f,e]:=h.get i d q;show#[v,f,e.offK g]]
open Classical in
def iG(g:lO)(t:iH)(b c:aU)(W:az->Prop):List D->cf->az->List (Key×D)->Option (List (Key×D)×az)
 | [],Γ,S,acc=>if W S then some (acc,S) else none
 |d ::ds,Γ,S,acc=>if W S then(g d Γ S).bind λ(a,j)=>(t a j).bind λ(k,e)=>
    if k=true then(b a e).bind λ(x,f)=>(c a f).bind λ(y,i)=>(oH x).bind λh=>if acc.length<sizeLine then iG g t b c W ds a i (putD acc h y) else none
    else iG g t b c W ds a e acc
  else none
def o9(js:List (Option Nat))(i:u9)(g:lO)(t:iH)(b d:aU):cf->az->Option (List (Key×D)×az):=λa S=>(i a S).bind λ(p,c)=>iG g t b d p.2 p.1 (nZ js a) c []
def Kn{Q:VK}(ok:Ok M ρ Γ S σ H)(e:o9 js i g t fk fv Γ S=some (l,S'))
  (q:∀b a kv f,bB ρ H b f->fg M b S' f->H a=none->a∉b->f a=some (.dK kv)->bM M b f l kv->Q (.ref a) f):F9 js (tI M i) (tG M g) (tB M t) (tD M fk) (tD M fv) σ H Q:=by
 let#[#[#[n,W],S1],e1,e]:=aq e
 show#[ρ,Γ,S,n,W,S1,ok,e1,λo J H1 x1 Z wk D U=>?_]
 have n1:D∉o:=cD x1 Z U
 have a2:Ok M o (nZ js Γ) S1 (jC js σ) (upd H1 D<|.dK []):=#[((ok.en.ext x1).ext (bB.laid U)).sig js,Z.lay U]
 show⟨λi m F f=>m=n.length-i/\i<=n.length/\∃d B X c j,bB o H1 d f/\Ok M d B X F f/\D∉d/\f D=some (.dK j)/\bM M d f c j/\iG g t fk fv W (n.drop i) B X c=some (l,S'),
  #[n.length,by simp,Nat.zero_le _,o,_,S1,[],[],bB.laid U,a2,n1,aR,L,e],?_⟩
 rintro i m b4 H2 ⟨rfl,hi,d,B,X,c,j,x2,ok2,n2,hD2,racc,e2⟩
 by_cases N:i<n.length
 ·have hd:n[i]?=some n[i]:=gQe N
  rw[QWq N] at e2
  unfold iG at e2
  split at e2
  ·rename_i w
   let#[w1,w2]:=wk i d X H2 x2 ok2.st w
   let#[go,a4]:=w1 _ hd
   show .inr ⟨go,λF f=>∃b A C c j,bB o H1 b f/\Ok M b A C F f/\D∉b/\f D=some (.dK j)/\bM M b f c j/\iG g t fk fv W (n.drop (i+1)) A C c=some (l,S'),
    λF f ⟨b,A,C,c,j,h1,h2,h3,h4,h5,h6⟩=>#[n.length-(i+1),by omega,L,N,b,A,C,c,j,h1,h2,h3,h4,h5,h6],λx H3 hy=>?_⟩
   let#[x3,a5,r3]:=a4 x H3 hy
   let#[#[h,S4],e4,e5]:=aq e2
   show#[d,B,X,_,h,S4,ok2.to x3 a5,r3,e4,λa7 b3 H4 x4 p=>?_]
   let#[#[k,S5],e6,e7]:=aq e5
   show#[a7,h,S4,k,S5,p,e6,λa0 H5 Y I=>?_]
   let u:=(x3.trans x4).trans Y
   have G:∀{b f},bB d H2 b f->f D=some (.dK j)/\D∉b:=λ{b f} x=>#[x.keep _ _ hD2<|.inl n2,λm=>(x.new _ m).elim n2 λz=>by rw[z] at hD2;cases hD2]
   dsimp only at e7|-
   split at e7
   ·rename_i ck
    rw[Qhq ck]
    let#[#[kx,S6],e8,e9]:=aq e7
    let#[#[y,S7],a9,b1]:=aq e9
    let#[kk,b0,K]:=aq b1
    show#[a0,h,S5,kx,S6,p.to Y I,e8,λa1 kv H6 x6 a6 r6=>#[a1,h,S6,y,S7,(p.to Y I).to x6 a6,a9,λa3 v H7 x7 a8 r7=>?_]]
    let P:=(u.trans x6).trans x7
    let#[s,n7]:=G P
    let R:=racc.ext' P
    split at K
    ·rename_i cl
     show#[j,kk,nH r6 b0,s,by rw[<-racc.length];show cl,a3,h,S7,putD c kk y,_,(x2.trans P).off U _,#[(((p.en.ext Y).ext x6).ext x7).offK s,a8.offK s n7],n7,aR,(R.put r7).imp λ_ _ r=>r.offK s,K]
    ·cases K
   ·rename_i ck
    rw[Quq ck]
    let#[b2,n5]:=G u
    show#[a0,h,S5,c,j,x2.trans u,p.to Y I,n5,b2,racc.ext' u,e7]
  ·cases e2
 ·have e3:i=n.length:=by omega
  subst e3
  rw[List.drop_length] at e2
  unfold iG at e2
  split at e2
  ·rename_i w
   let#[rfl,rfl]:=bN e2
   let#[w1,w2]:=wk n.length d X H2 x2 ok2.st w
   show .inl #[w2 L,q d D j H2 (x1.trans x2) ok2.st (x1.grow _ U) n2 hD2 racc]
  ·cases e2
noncomputable def NL(n:Nat)(f:cf->az->Option (List (Key×D)×az)):cH:=λb S=>(f b S).bind λ(l,a)=>some (.nx (b.set n<|some<|.ref a.length) (a++ [.dct l]))
def Jy{j:Pos}
  (S:aL X N js d r) (hc:X.calm=true) (hi:PI X u f (tI (md X) i))
  (K:∀C s H fp,PG (aF X N d r C s H fp) u<|tG (md X) g) (ht:∀C s H fp,mK (aF X N d r C s H fp) m<|tB (md X) t) (M:∀C s H fp,PE (aF X N d r C s H fp) v<|tD (md X) B) (hv:∀C s H fp,PE (aF X N d r C s H fp) w<|tD (md X) J) (y:PG X h (ni n))
  (Z:autoParam (∀x,foldedSetIterable f X.env x=pure x) dl._auto_1) (A:autoParam (swapsWithSole [h] (.DictComp v w [⟨u,f,m,0⟩] d c) j.line X.env=pure true) db._auto_1)
  (P:autoParam ((assignEach [h] X.env).map (·.2)= [assign h X.env]) db._auto_1):PS X (.Assign [h] (.DictComp v w [#[u,f,m,0]] d c) j) (tS (md X)<|NL n<|o9 js i g t B J):=
 Dc (GI S hc hi K ht M hv y Z A P) λD σ H W=>by
  let#[Y,Γ,S,o,ok,e,q]:=W
  let#[#[l,S1],e1,e]:=aq e
  cases e
  show Kn ok e1 λk a kv I x G Q U ha R=>?_
  let z:=G.box (o:=.dct l) U #[kv,ha,R.pre'<|List.prefix_append k [a]]
  have F:bB Y H (k++ [a]) I:=⟨x.pre.trans (List.prefix_append _ _),λb p=>by
   rcases mQa.mp p with p|p
   ·show x.new b p
   ·rw[Qfq] at p;subst p;show .inr Q,x.keep,x.grow⟩
  show q (k++ [a]) _ I F #[((ok.en.ext F).set (.ref ?_)),z]
  rw[<-G.len,QQq (Qmq _)]
  simp
end DL
namespace Zp
open PySem PySem.W PyProof.Rows
noncomputable def sy(lt:Nat->Nat->Bool):KasT (Array Nat)->Array Nat
 |.ret p=>p
 |.ask i j k=>sy lt (k<|lt i j)
theorem xx{a:Nat->Nat->(Bool->Shared->Prop)->Shared->Prop}{Q:Array Nat->Shared->Prop}{lt:Nat->Nat->Bool}(b:∀i j C,i<n->j<n->i≠j->C (lt i j) s->a i j C s):
  ∀t:KasT (Array Nat),rS n t=true->Q (sy lt t) s->t.kasWp a Q s
 |.ret p,_,h=>h
 | .ask i j k,ha,h=>by
   erw[rS,QCq,decide_eq_true_eq] at ha
   let#[#[#[#[f,c],l],d],g]:=ha
   show b i j _ f c l ?_
   cases e:lt i j with
   |true=>show xx b (k true) d (by unfold sy at h;rw[e] at h;show h)
   |false=>show xx b (k false) g (by unfold sy at h;rw[e] at h;show h)
end Zp
namespace L2
open PyProof.Rows
end L2
namespace DL
open PyProof.Rows L2
def uV(a b:Str):Prop:=¬(b.cps.toList<a.cps.toList)
instance(a b:Str):Decidable (uV a b):=by unfold uV;infer_instance
def D9(a b:Str):uV a b\/uV b a:=by
 by_cases h:b.cps.toList<a.cps.toList
 ·show .inr λc=>List.lt_asymm h c
 ·show .inl h
def v7(e:uV a b)(d:uV b c):uV a c:=by
 unfold uV at *
 rw[List.not_lt] at *
 show List.le_trans e d
def FM(c:uV a b)(d:uV b a):a=b:=by
 unfold uV at *
 rw[List.not_lt] at *
 have:=List.le_antisymm c d
 cases a
 cases b
 erw[Str.mk.injEq]
 show Array.toList_inj.mp this
noncomputable def A5(x:Str):List Str->List Str
 | []=> [x]
 |y::r=>if uV x y then x::y::r else y::A5 x r
noncomputable def pB:List Str->List Str
 | []=> []
 |x::r=>A5 x (pB r)
theorem o8(x:Str):∀l:List Str,(A5 x l).Perm (x::l)
 | []=>List.Perm.refl _
 | y::r=>by
   unfold A5
   split
   · show List.Perm.refl _
   · show((o8 x r).cons y).trans (List.Perm.swap _ _ _)
theorem kT:∀l:List Str,(pB l).Perm l
 | []=>List.Perm.refl _
 |x::r=>(o8 x _).trans ((kT r).cons x)
theorem qh:∀{l:X6},l.Pairwise uV->(A5 x l).Pairwise uV
 | [],_=>by simp[A5]
 | y::r,h=>by
   rw[List.pairwise_cons] at h
   unfold A5
   split
   · rename_i c
     show List.pairwise_cons.mpr #[λz a=>?_,List.pairwise_cons.mpr h]
     rcases Qsq.mp a with rfl|a
     · show c
     · show v7 c<|h.1 z a
   · rename_i c
     show List.pairwise_cons.mpr #[λz a=>?_,qh h.2]
     rcases Qsq.mp ((o8 x r).mem_iff.mp a) with rfl|a
     · show(D9 _ _).resolve_left c
     · show h.1 z a
theorem iK:∀l:List Str,(pB l).Pairwise uV
 | []=>List.Pairwise.nil
 |x::r=>qh (iK r)
def xi:∀{l:X6},sortedS l=true->l.Pairwise uV
 | [],_=>List.Pairwise.nil
 | x::r,h=>by
   have e:∀(r:X6) (x:Str),risingS x r=true->(x::r).Pairwise uV:=by
     intro r
     induction r with
     |nil=>intro x _;simp
     | cons y r d=>
       intro x h
       unfold risingS at h
       erw[QCq] at h
       let c:=d y h.2
       have b:uV x y:=by
         have:=h.1
         unfold uV
         rw[ltCps_eq] at this
         simpa using this
       show List.pairwise_cons.mpr #[λz a=>?_,c]
       rcases Qsq.mp a with rfl|a
       · show b
       · show v7 b ((List.pairwise_cons.mp c).1 z a)
   show e r x h
def EB(h:sortedS c=true)(p:c.Perm d):c=pB d:=
 List.Perm.eq_of_pairwise (le:=uV) (λa b _ _ f e=>FM f e) (xi h) (iK d) (p.trans (kT d).symm)
end DL
namespace L2
open PyProof.Rows
end L2
namespace DL
open L2
noncomputable def vp:List D->Option (List Str)
 | []=>some []
 |.str x::r=>(vp r).bind λc=>some (x::c)
 |_::_=>none
theorem y7:∀{ds:List D} {vs:List V} {xs:X6},aO M ρ H ds vs->vp ds=some xs->vs=xs.map V.str
 | [],_,_,h,e=>by cases h;cases e;rfl
 | d::ds,_,_,h,e=>by
   cases d with
   | str b=>
     erw[vp] at e
     let#[f,c,e]:=aq e
     cases e
     cases h with
     | cons h g=>
       cases h
       rw[y7 g c]
       rfl
   |_=>cases e
theorem vN:∀c:List Str,aO M ρ H (c.map D.str) (c.map V.str)
 | []=>.nil
 |s::c=>.cons (.str s) (vN c)
noncomputable def Dq(f:dU):fI:=λg S=>(f g S).bind λ(p,d)=>if p.2.isL=true then(vp p.1).bind λc=>if c.length<64 then some ((pB c).map D.str,d) else none else none
def Ol(o:Gl X "sorted")(C:X.mg "sorted"=none)(G:PE X a (tQ (md X) f))(g:autoParam (starEach [a] X.env= [(false,eval a X.env)]) db._auto_1):
  PE X (.Call (.Name "sorted" p) [a] [] j) (tL (md X)<|Dq f):=
 jl (eV xn o C PyProof.Rows.boot_sorted (bJ G de g) (he:=g)) λK H Q z=>by
  let#[A,B,S,d,M,ok,e,q]:=z
  let#[#[#[v,t],I],F,e]:=aq e
  dsimp only at e
  split at e
  ·rename_i c
   let#[m,w,e]:=aq e
   split at e
   ·rename_i y
    let#[rfl,rfl]:=bN e
    show#[A,B,S,v,t,I,ok,F,λn a J N x i h r=>#[a,m,L,?_,y,λl s hl u k=>?_]]
    ·rw[<-y7 r w];show h.sqL c
    ·cases EB u k
     show q _ _ _ _ (x.trans<|bB.laid hl) (i.lay hl) (x.grow _ hl) (cD x i hl) aR<|vN _
   ·cases e
  ·cases e
theorem aO.of_get:∀{ds:List D} {vs:List V},ds.length=vs.length->(∀(i:Nat) (d:D),ds[i]?=some d->∃v,vs[i]?=some v/\Rel M ρ H d v)->aO M ρ H ds vs
 | [],[],_,_=>.nil
 | [],_::_,h,_=>by cases h
 |_::_,[],h,_=>by cases h
 | d::ds,v::vs,h,g=>by
   let#[f,e,r]:=g 0 d L
   cases e
   show .cons r (aO.of_get (Nat.succ.inj h) λi d c=>by
     let#[v,e,r]:=g (i+1) d (by simpa using c)
     show#[v,by simpa using e,r])
def EM{lo hi:Int}:aO M ρ H (iY lo hi) (L2.upTo lo (hi-lo).toNat):=by
 show aO.of_get (by unfold iY L2.upTo;simp) λi d c=>?_
 unfold iY at c
 unfold L2.upTo
 rw[gQm] at c|-
 let#[k,f,rfl]:=oQm.mp c
 show#[_,by rw[f];rfl,.int _]
def Di{K:X1}:bp P w K d a dN k f g ps (eg #[K,d] n λ_ _=>none):=
 {len:=λi H Q E h=>by
   let#[_,_,_,_,_,_,_,_,e,_]:=h
   cases e
  run:=λA b s H c j i Q E _ _ _ _ h=>by
   let#[_,_,_,_,_,_,_,_,e,_]:=h
   cases e}
end DL
namespace Zq
open PySem PyProof.Rows
def Jv{A:X_}(n:A.handled=none)(t:Bool)(it a:X8)(f:a≠it)(items:Xa):
  Draws prog w A it [it,a] items.size (λi v=>items[i]?=some v) (λi h=>It t h it a i/\Sq t h a items) where
 live:=λ_ _ b=>by let#[o,h,_]:=b.1.obj;show#[o,h]
 frame:=λ_ _ _ b g=>#[b.1.at λo e=>g it (by simp) o e,b.2.at λo e=>g a (by simp) o e]
 item:=λi s Q E j b k=>draw b.1 b.2 (v:=items[i]) (by simp[j]) λl d c=>k _ l s.toks (by simp[j]) #[d,b.2.ext c.extBut f] c
 done:=λs Q E b m=>CK n b.1 b.2 (by simp) m
def Fk{A:X_}(f:A.handled=none)(t:Bool)(it a:X8)(items:Xa)(k:Nat)(c:items.size<=k):
  Draws prog w A it [it,a] k (λi v=>items[i]?=some v) (λi h=>i=k/\It t h it a k/\Sq t h a items) where
 live:=λ_ _ b=>by let#[o,h,_]:=b.2.1.obj;show#[o,h]
 frame:=λ_ _ _ b c=>#[b.1,b.2.1.at λo e=>c it (by simp) o e,b.2.2.at λo e=>c a (by simp) o e]
 item:=λi s Q E g b j=>absurd b.1 (Qwq g)
 done:=λs Q E b d=>CK f b.2.1 b.2.2 (by simp[c]) d
noncomputable abbrev E2(t:Bool)(h:Xe)(a:X8):Heap:=(H1 t h a).push {cls:=.type "enumerate",data:=.fields (List.toArray [.none,.bool false,.ref h.objs.size,rawInt 0,.none,.none])}
def Bn(t:Bool)(a:X8)(xs:Xa):Meets (Builtin.«enumerate.__new__» #[[.type "enumerate",.ref a],[]]) (λ_ R s=>Sq t s.heap a xs/\R (.ok (.ret (.ref (H1 t s.heap a).objs.size))) {s with heap:=E2 t s.heap a}):=
 .of_wp λk w A R s h=>by
  let#[j,g,d,f,i]:=s
  let#[e,h]:=h
  let l:=sub_enumerate
  cases t
  ·have b:Heap.IsList (Shared.heap #[j,g,d,f,i]) a xs:=e
   wp_walk
   show wpAny_stack_any λm=>Qgq ?_
   split
   ·rename_i c _ _ _ _ _
    cases (c==Value.type "enumerate")
    ·wp_walk using wpAny_pyIter_list b
     show#[_,L,h]
    ·wp_walk using wpAny_pyIter_list b
     show#[_,L,h]
   ·wp_walk using wpAny_pyIter_list b
    show#[_,L,h]
  ·have b:Heap.IsTuple (Shared.heap #[j,g,d,f,i]) a xs:=e
   wp_walk
   show wpAny_stack_any λm=>Qgq ?_
   split
   ·rename_i c _ _ _ _ _
    cases (c==Value.type "enumerate")
    ·wp_walk using wpAny_pyIter_tuple b
     show#[_,L,h]
    ·wp_walk using wpAny_pyIter_tuple b
     show#[_,L,h]
   ·wp_walk using wpAny_pyIter_tuple b
    show#[_,L,h]
def Pp{E:X0}{s:X4}{Q:X0}(g:Sq t s.heap a xs)
  (q:∀h',IsEnum h' (s.heap.objs.size+1) s.heap.objs.size 0 .none->It t h' s.heap.objs.size a 0->(∀c o,s.heap.get? c=some o->h'.get? c=some o)->Q (.ref (s.heap.objs.size+1)) {s with heap:=h'}):
  wpAny (model prog w) A (call (.type "enumerate") [.ref a]) Q E s:=by
 show callType_new F.called_enumerate (!1) (F.typeCall_enumerate_1 _) (F.newCall_enumerate_1 _) (λd=>F.args_object_init_2 d _) F.entry_enumerate_new (Bn t a xs) #[g,?_]
 have e:(H1 t s.heap a).objs.size=s.heap.objs.size+1:=Heap.size_push ..
 have b:(E2 t s.heap a).get? (H1 t s.heap a).objs.size=some _:=Qrq _ L
 have f:(E2 t s.heap a).get? s.heap.objs.size=some _:=Qcq _ (Qrq _ L)
 show(?_:_/\_)
 rw[e] at b
 rw[e]
 show#[#[_,b,L],q _ b ?_ λc o n=>Qcq _<|Qcq _ n]
 cases t <;>show#[_,f,L,L]
end Zq
namespace L2
open PySem PyProof.Rows Zq
noncomputable def Sd(K:X1)(t:Bool)(a:X8):It:=
  ⟨λi H=>∃b x,yY K t H a b/\b[i]?=some x,
   λi H v c=>∃p,v=.ref p/\H p=none/\∀b x,yY K t H a b->b[i]?=some x->c=upd H p (.tup [.int (i:Nat),x]),
   λi H=>∃b,yY K t H a b/\b.length<=i⟩
def EO{P:X9}{w:Xc}{K:X1}{m:List Expr}{x1:Nat}{tp:Pos}{t:Bool}{e it a:X8}(l:e≠it)(B:a≠e)(S:a≠it):
  Turn P w K (.Tuple m x1 tp) (Sd K t a) [e,it] e (λn h=>(∃d,IsEnum h e it (n:Nat) d)/\Zq.It t h it a n) where
 mem:=by simp
 obj:=λn h ⟨⟨d,f⟩,j⟩ c b=>by
  simp at b
  rcases b with rfl|rfl
  ·show#[_,f,λv n=>by cases n]
  ·show j.obj
 keep:=λn h h' ⟨⟨d,f⟩,j⟩ k=>#[#[d,k e (by simp) _ f],j.at λo e=>k it (by simp) o e]
 item:=by
  rintro X r N J b n i s σ H E I u ⟨⟨d,f⟩,j⟩ G
  subst r N J
  let#[xs,x,y,R]:=G
  let#[g,C,U,_]:=I.sq y
  let#[ux,Y,rx]:=C.get R
  have lt:∀{c o},s.heap.get? c=some o->c≠s.heap.objs.size:=λe=>Qwq (Qiq e)
  have p:∀c∈[e,it],c≠s.heap.objs.size:=λc b=>by
   let#[oi,e1,_]:=j.obj
   simp at b
   rcases b with rfl|rfl
   ·show lt f
   ·show lt e1
  have z:n<g.toArray.size:=by
   have:=(gQs.mp Y).1
   simpa using this
  show wpAny_pyNext_enum_itemD (Jv (A:=X.A.in1) (I.ok.hd b) t it a S g.toArray) f #[j,U] z l (by simp[l,Ne.symm B]) λx' h1 Z r ho F hT a1 hk=>#[_,L,?_]
  obtain rfl:x'=ux:=by
   have:=r
   erw[List.getElem?_toArray] at this
   rw[Y] at this
   show(QdQ this).symm
  show wpAny_letOwnedTupleGo_enum ho λh2 e2 Q=>?_
  have I2:Inv X i σ (upd H s.heap.objs.size<|.tup [.int (n:Nat),x]) {s with heap:=h2,toks:=Z+1}:=I.turnedNew (t':=Z+1) (fp:= [e,it]) u (λc o b q=>?_) (Qmq _) ?_
  ·show#[.ref s.heap.objs.size,_,I2,L,#[s.heap.objs.size,L,I.hok.fresh<|Qmq _,λa0 x' q1 M=>?_],#[#[_,by simpa using e2],F.1.ext Q.extBut<|Ne.symm l],λc b=>?_]
   ·rw[I.sq_inj q1 y] at M
    rw[R] at M
    cases M
    rfl
   ·rw[aM (p c b)]
    show(u c b).1
  ·simp at b
   show Q.extBut _ _ b.1<|hk c o b.1 b.2 q
  ·show#[by show 2<=_;decide,[_,_],.cons #[_,L] (.cons rx .nil),_,Q.extBut _ _ (λq=>p e (by simp) q.symm) hT,L,L,0,L]
 done:=by
  rintro X r N J b n i s σ H E I u ⟨⟨d,f⟩,j⟩ G
  subst r N J
  let#[xs,y,R]:=G
  let#[g,C,U,_]:=I.sq y
  let hl:=C.length
  show wpAny_pyNext_enum_endD (Fk (A:=X.A.in1) (I.ok.hd b) t it a g.toArray n (by simp;omega)) f #[L,j,U] λh1 r1=>#[L,I.turnedL (t':=s.toks) (fp:= [e,it]) u λc o b q=>?_]
  simp at b
  show r1 c o b.2 q
 self:=λ_ _ _ _ _ ⟨⟨d,f⟩,_⟩ h=>wpAny_pyIter_enum f h
def Pq(K:X1)(d:TA):TI:=λe H R=>d e H λb H1=>∃(t:Bool) (a:X8) (c:List V),b= [.ref a]/\yY K t H1 a c/\R (Sd K t a) H1
def J_(w:Gl X "enumerate")(G:X.mg "enumerate"=none)(J:PA X [a] m)(C:autoParam (starEach [a] X.env= [(false,eval a X.env)]) db._auto_1):
  PI X (.Tuple b N B) (.Call (.Name "enumerate" p) [a] [] f) (Pq X.K m):=by
 intro d s F H R I h
 show Call_<|ju I w G (by rfl)<|PyProof.Rows.callWith_type1 (cj (J f d s F H _ I h) λY i ⟨U,H1,g,v,z⟩=>?_) C L
 let#[t,x,W,e,M,q]:=z
 subst e
 cases v with
 | cons r A=>
   cases A
   cases r
   let#[y,Q,n,_]:=g.sq M
   let l:=Sq.lt n
   show Zq.Pp n λS o P k=>?_
   show wpAny_pyIter_enum o #[_,_,_,_,H1,L,g.kept (t':=i.toks) k,EO (e:=i.heap.objs.size+1) (it:=i.heap.objs.size) (Nat.succ_ne_self _) (Qwq<|Nat.lt_succ_of_lt l)<|Qwq l,#[#[_,o],P],λc u=>?_,q]
   have j:i.heap.objs.size<=c:=by
     erw[Qsq,QXq,or_false] at u
     rcases u with e|e <;>(rw[e];first|show Qmq _|show Nat.le_add_right _ _)
   show g.fpOk j<|g.hok.fresh j
end L2
namespace DL
open L2
noncomputable def oA(n:Nat):List D->List D
 | []=> []
 |d::ds=>.tup [.int n,d]::oA (n+1) ds
theorem pM:∀{ds:List D} {n i:Nat} {d:D},(oA n ds)[i]?=some d->∃x,ds[i]?=some x/\d=.tup [.int ((n+i:Nat)),x]
 | [],_,_,_,h=>by simp[oA] at h
 | x::ds,n,0,d,h=>by
   erw[oA,List.getElem?_cons_zero,Option.some.injEq] at h
   show#[x,L,h.symm]
 | x::ds,n,i+1,d,h=>by
   erw[oA,List.getElem?_cons_succ] at h
   let#[y,b,a]:=pM h
   show#[y,by simpa using b,by rw[a];congr 3;omega]
theorem oU:∀{ds:List D} {n:Nat},(oA n ds).length=ds.length
 | [],_=>rfl
 |_::_,_=>congrArg (·+1) oU
noncomputable def Cp(f:dU):u9:=λb S=>(f b S).bind λ(p,a)=>some ((oA 0 p.1,λS=>p.2.stays S p.1),a)
def Rq(B:Gl X "enumerate")(P:X.mg "enumerate"=none)(Z:PE X a (tQ (md X) f))(t:autoParam (starEach [a] X.env= [(false,eval a X.env)]) db._auto_1):
  PI X (.Tuple c n J) (.Call (.Name "enumerate" p) [a] [] b) (tI (md X)<|Cp f):=P7 (J_ B P (bJ Z de t) t) λσ H R ⟨I,K,S,ds,W,S',ok,e,q⟩=>by
 let#[#[#[k,G],S1],Q,e]:=aq e
 let#[U,rfl]:=bN e
 let#[rfl,rfl]:=Prod.mk.inj U
 show#[I,K,S,k,G,S1,ok,Q,λC a1 h H1 n j r z=>?_]
 show#[_,a1,h,L,r.sqB,q _ _ _ n j λi F S3 H3 A g w=>?_]
 let#[m,l,o]:=r.to z A g w
 show#[λd y=>?_,λM=>#[m,l.sqB,?_]]
 ·let#[x,N,rfl]:=pM y
  let#[u,s,ru]:=o.get N
  show#[#[m,u,l.sqB,s],λv H4 Y=>?_]
  let#[p,rfl,hp,hq]:=Y
  have:=hq m u l.sqB s
  subst this
  show#[bB.laid hp,g.lay hp,.tup aR ((aO.cons ?_<|.cons ru .nil).ext (bB.laid hp))]
  rw[Nat.zero_add]
  show .int _
 ·rw[M,oU,o.length]
  show Qmq _
structure CJ(P:X9)(w:Xc)(K:X1)(mg:X3)(x:Str)(tbl:List (Str×Str)):Prop where
 at_:∃a,mg x=some (.ref a)/\∀h:Heap,K.In h->∃vs,h.DictOf (bA P w) a vs/\∀k nm,tbl.lookup k=some nm->∃f,valueAt vs (Sum.inr k:Key)=some (.ref f)/\mg nm=some (.ref f)
noncomputable def P8(d:List (Str×Str))(g:aU):aU:=λi S=>(g i S).bind λ(y,f)=>match y with
 |.str x=>(d.lookup x).bind λnm=>some (.fn nm,f)
 |_=>none
def Im{X:Cx}(P:CJ X.prog X.w X.K X.mg x j)(N:Gl X x)(M:PE X b (tD (md X) g))(hs:Jo b)(G:autoParam ((x==("__debug__":Str))=false) cL._auto_1):
  PE X (.Subscript (.Name x p) b h) (tD (md X)<|P8 j g):=by
 rintro l s σ H Q I ⟨A,Γ,S,d,S',ok,e,q⟩
 let#[a,hm,U]:=P.at_
 let#[#[y,C],e1,e]:=aq e
 cases y with
 | str z=>
   let#[nm,Y,e]:=aq e
   let#[rfl,rfl]:=bN e
   show B3 PySem.F.slot_dict_getitem.lookup hs<|xR I N hm ?_ G
   show cj (M l s σ H (λv m=>∃i,bB A H i m/\fg (md X) i C m/\Rel (md X) i m (.str z) v) I #[A,Γ,S,_,C,ok,e1,λi v m x st r=>#[i,x,st,r]]) λiv R qr=>?_
   let#[v,H2,u,Z,i,x2,t,r2]:=qr
   let#[vs,B,hv]:=U _ u.kIn
   let#[f,hf,n]:=hv z nm Y
   cases r2
   have ty:R.TypeIs (.ref a) "dict":=by
     let#[o,es,ep,W,J,h3,_]:=B
     show#[o,W,J.1]
   show#[ty,wpAny_getItem_of (vk (k:=Sum.inr z) Z) B.mapOf hf ?_]
   show#[.ref f,H2,u.tok _,L,q _ _ _ x2 t<|.fn n]
 |_=>cases e
def tw(i:Nat)(T:List (Str×dr))(g:fI):aU:=λd S=>match d[i]? with
 |some (some<|.fn x)=>(T.lookup x).bind λF=>aB F g d S
 |_=>none
def Jx{X:Cx}{T:List (Str×dr)}(Z:∀x F,T.lookup x=some F->fm X.prog X.w X.K X.mg X.base k x ps F)(hr:dX k X.A)(hN:X.N[i]?=some y)(hv:IA X.env.scope y)
  (ha:PA X (e::es) (y2 (md X) g)) (hn:nA ps.length g) (B:autoParam ((y==("__debug__":Str))=false) cL._auto_1) (z:autoParam ((y==("__classdict__":Str))=false) cL._auto_1) (he:autoParam (starEach (e::es) X.env=(false,eval e X.env)::starEach es X.env) db._auto_1) (hpl:autoParam ((backTo h<|starEach es X.env).any (·.1)=false) db._auto_1):
  PE X (.Call (.Name y p) (e::es) [] h) (tD (md X)<|tw i T g):=by
 rintro j s n H Q I ⟨ρ,Γ,S,d,S',ok,e,q⟩
 unfold tw at e
 split at e
 ·rename_i x hx
  let#[F,o,e]:=aq e
  let#[f,fd,G,U,P,m]:=(Z x F o).ex
  let#[v,t,rv]:=ok.en.get i _ hx
  cases rv with
  | fn hm=>
    have M:(md X).mg x=some (.ref f):=m
    rw[hm] at M
    cases M
    show wpAny_Call_Name_kw (cj (GD hN hv B z j s n H (λC l=>C=.ref f/\l=H) I #[_,t,L,L]) λu s1 qr=>?_)
    let#[C,l,Y,R,o,e2]:=qr
    subst o e2
    cases (show u=Value.ref f from R)
    show PySem.W.callWith_K (h₀:=X.base) I.ok.mod.kin P (cj (ha h j s1 n l _ Y<|CQ hn n l Q #[ρ,Γ,S,d,S',ok,e,q]) λus s2 ⟨vs,H1,J,r,q2⟩=>#[J.kIn,?_]) he hpl
    show Fy G hr U .nil Gs J r q2
 ·cases e
def BF(w:Xc)(x:Str):PyData.keyHash w.params x=hashStr w x:=by
 unfold PyData.keyHash hashStr
 first|rfl|simp
inductive Al(w:Xc)(mg:X3):List DictEntry->List (Str×Str)->Prop
 |nil:Al w mg [] []
 |cons {x nm:Str} {t:Tok} {f:X8} {es:List DictEntry} {tbl:List (Str×Str)}:mg nm=some (.ref f)->Al w mg es tbl->Al w mg (#[PyData.keyHash w.params x,.str x t,.ref f]::es) ((x,nm)::tbl)
def Al.keys(b:Al w c es a):∀e∈es,∃k,(bA P w).is k e.key=true/\e.hash=(bA P w).hash k:=by
 induction b with
 |nil=>intro e h;cases h
 | @cons x nm t f es a hm b ih=>
   intro e h
   rcases Qsq.mp h with rfl|h
   · show#[Sum.inr x,pJ x t,BF w x]
   · show ih e h
def Al.pairs(d:Al w e es a):∃vs:List (Key×Value),Pairs (bA P w) es vs/\vs.map (·.1)=a.map (λp=>Sum.inr p.1)∧
  ∀k nm,a.lookup k=some nm->∃f,valueAt vs (Sum.inr k:Key)=some (.ref f)/\e nm=some (.ref f):=by
 induction d with
 |nil=>show#[[],.nil,L,λk nm h=>by cases h]
 | @cons x nm t f es a hm d ih=>
   let#[vs,m,i,o]:=ih
   show#[(Sum.inr x,.ref f)::vs,.cons (pJ x t) L m,by simp[i],λk n h=>?_]
   by_cases c:k=x
   · subst c
     rw[List.lookup_cons_self] at h
     cases h
     show#[f,?_,hm]
     unfold valueAt
     rw[List.find?_cons_of_pos (by simp)]
     rfl
   · have j:(k==x)=false:=by simpa using c
     rw[List.lookup_cons,j] at h
     let#[g,b,l]:=o k n h
     show#[g,?_,l]
     unfold valueAt at b|-
     rw[List.find?_cons_of_neg]
     · show b
     · intro z
       have:(Sum.inr x:Key)=Sum.inr k:=by simpa using z
       show c (Sum.inr.inj this).symm
def Gi{K:X1}{d:X3}{es:List DictEntry}(q:d x=some (.ref a))(l:K.lookup a=some #[.type "dict",none,.dict es.toArray r,(List.toArray [])])(f:Al w d es c)(i:(c.map (·.1)).Nodup):CJ P w K d x c:=by
 let#[k,m,g,o]:=f.pairs (P:=P)
 show#[a,q,λh j=>#[k,#[_,_,_,j _ _ l,#[L,L,L],L,λe s=>f.keys e (by simpa using s),by simpa using m,?_],o]]
 rw[g]
 have:c.map (λp=>(Sum.inr p.1:Key))=(c.map (·.1)).map Sum.inr:=by rw[QPq];rfl
 rw[this]
 show List.Pairwise.map _ (λa b n e=>n<|Sum.inr.inj e) i
theorem Hz{K:X1}:∀{T:List (Str×dr)},(∀p∈T,fm P w K b a k p.1 ps p.2)->∀x F,T.lookup x=some F->fm P w K b a k x ps F
 | [],_,x,F,h=>by cases h
 | p::T,g,x,F,h=>by
   by_cases c:x=p.1
   · subst c
     rw[List.lookup_cons_self] at h
     cases h
     show g p<|QBq ..
   · have e:(x==p.1)=false:=by simpa using c
     rw[List.lookup_cons,e] at h
     show Hz (λq d=>g q<|Qpq _ d) x F h
def Ab:Sp:=λc H Q _=>∃(a:X8) (b:List Int) (o:Obj),c= [.ref a]/\H a=some (.frz o (.lst (b.map V.int)))/\b.length<=63/\∀d,Q (.bl true) d
theorem ph:∀ns:List Int,aO M ρ H (ns.map D.int) (ns.map V.int)
 | []=>.nil
 |s::ss=>.cons (.int s) (ph ss)
def Jt{K:X1}(G:bp P w K i c dN k f j ps (eg #[K,i] 1 F))
  (h:∀ns:List Int,ns.length<=63->∃g,F [.ref 0] [.frz (ns.map D.int)]=some (.d (.bl true),g)):bp P w K i c dN k f j ps Ab:=
 G.imp λu H Q E p=>by
  let#[a,ns,o,e,s,hl,q]:=p
  subst e
  let#[g,e]:=h ns hl
  show#[[a],[.frz (ns.map D.int)],[.ref 0],_,g,L,.cons (.ref L) .nil,#[L,by simp,λk b y l m=>?_],e,λn v t x z r=>?_]
  ·cases k with
   |zero=>cases l;cases m;show#[_,o,s,ph ns]
   |succ k=>simp at l
  ·cases r
   show q t
noncomputable def Bw(K:X1):Bool:=K.all λp=>match p.2.data with|.seq _ _=>(match p.2.cls with|.type s=>s !="list" |_=>true)|_=>true
def Eb{K:X1}(h:Bw K=true)(e:K.lookup a=some o)(i:o.data=.seq f n):o.cls≠.type "list":=by
 intro l
 have d:∀(K:X2),K.all (λp=>match p.2.data with|.seq _ _=>(match p.2.cls with|.type s=>s !="list" |_=>true)|_=>true)=true->K.lookup a=some o->False:=by
  intro K
  induction K with
  |nil=>intro _ e;cases e
  | cons p K k=>
    intro h e
    rw[List.all_cons,QCq] at h
    let#[b,q]:=p
    rw[List.lookup_cons] at e
    by_cases c:a=b
    · subst c
      erw[BEq.rfl] at e
      cases e
      let g:=h.1
      erw[i,l] at g
      simp at g
    · have j:(a==b)=false:=by simpa using c
      rw[j] at e
      show k h.2 e
 show d K h e
def OM{K:X1}{ns:List Int}(nl:Bw K=true)(hl:ns.length<=63)(c:J3 H)(b:ji K H a (ns.map V.int)):Ab [.ref a] H (λv _=>v=.bl true) λ_ _ _=>False:=by
 rcases b with(h|⟨o,h⟩)|⟨o,its,n,h,hc,_,hd,_⟩
 ·rcases c a with z|⟨o,d,z⟩
  ·rw[h] at z;cases z
  ·rw[h] at z;cases z
 ·show#[a,ns,o,L,h,hl,λ_=>rfl]
 ·show absurd hc<|Eb nl h hd
def yO{l:PySem.W.OpenLaw}{m:World->Heap->Prop}{d:DefRec}{K:Params->PySem.W.Frag}(v:l.most=some 63)(g:d.params.defaults= [])(t:dX k PySem.callerA)
  (r:∀(w:Xc) (h:Xe),m w h->(K w.params).In h) (nl:∀w:World,Bw (K w.params)=true)
  (F:∀(w:Xc) (e:X3) (j:X8) (h:Xe),(K w.params).In h->h.Ns mainGlobals e->e d.name=some (.ref j)->
   ∃i:FuncData,(∀(s:X4) (u:Xd),BindsTo s i #[[u],[]] [("_law_script",u)])/\∀b:Heap,(K w.params).In b->b.Ns mainGlobals e->bp l.prog w (K w.params) e b dN k j i ["_law_script"] Ab):
  PySem.W.WalkO q c o m l.row.toRowW d [] (λf vs=>PySem.call f vs):=
 L2.Kh (n:=63) (k:=k) (x:="_law_script") (CX:=λ_=>dN) (sp:=λ_=>Ab) v (!1) g t r F (λw H a A hl p y=>OM (nl w) hl p y) λ_ _ _ _ _ z=>z
end DL
namespace DL
open L2 PyProof.Rows
def wK{X:Cx}{a:Pos}(i:Nat)(g:X.N.Nodup)(he:PE X e (tD (md X) f))(hi:autoParam (X.N[i]?=some x) db._auto_1)(h:autoParam (Loc X.env.scope x) ef._auto_1)(d:autoParam (swapsWith e (some<|.Name x b) a.line X.env=pure false) db._auto_1)
  (c:autoParam (X.fn x=true\/X.env.scope.names.lookup x=some .local) cC._auto_1):PS X (.Assign [.Name x b] e a) (tS (md X)<|a_ i f):=NC (M_ g hi h he d c)
def Si{X:Cx}(i:Nat)(d:X.N.Nodup)(hi:autoParam (X.N[i]?=some x) db._auto_1)(g:autoParam (Loc X.env.scope x) ef._auto_1)(c:autoParam (X.fn x=true\/X.env.scope.names.lookup x=some .local) cC._auto_1):PG X (.Name x a) (ni i):=xc d hi g c
def F0{X:Cx}(i:Nat)(d:X.N.Nodup)(hi:autoParam (X.N[i]?=some x) db._auto_1)(g:autoParam (Loc X.env.scope x) ef._auto_1)(c:autoParam (X.fn x=true\/X.env.scope.names.lookup x=some .local) cC._auto_1):PG X (.Name x a) (tG (md X)<|bS i):=Fm (xc d hi g c)
def So{N:X6}(i:Nat)(j:autoParam (N.Nodup) ei._auto_1)(hi:autoParam ((aF X N c d C s H fp).N[i]?=some x) db._auto_1)(h:autoParam (Loc (aF X N c d C s H fp).env.scope x) ef._auto_1)
  (g:autoParam ((aF X N c d C s H fp).fn x=true\/(aF X N c d C s H fp).env.scope.names.lookup x=some .local) cC._auto_1):PG (aF X N c d C s H fp) (.Name x a) (tG (md<|aF X N c d C s H fp)<|bS i):=Fm (xc j hi h g)
def v_{X:Cx}(i:Nat)(h:autoParam (X.N[i]?=some x) db._auto_1)(g:autoParam (IA X.env.scope x) dL._auto_1)(d:autoParam ((x==("__debug__":Str))=false) cL._auto_1)(c:autoParam ((x==("__classdict__":Str))=false) cL._auto_1):PE X (.Name x a) (tD (md X)<|ar i):=NG (pv i h g d c)
def PK{X:Cx}(C:fm X.prog X.w X.K X.mg X.base k x ps F)(h:dX b X.A)(f:PA X (e::es) (y2 (md X) g))(d:autoParam (k<=b) ej._auto_1)(i:autoParam (Gl X x) db._auto_1)
  (j:autoParam (nA ps.length g) el._auto_1)
  (c:autoParam ((x==("__debug__":Str))=false) cL._auto_1) (he:autoParam (starEach (e::es) X.env=(false,eval e X.env)::starEach es X.env) db._auto_1) (hpl:autoParam ((backTo a<|starEach es X.env).any (·.1)=false) db._auto_1):
  PE X (.Call (.Name x p) (e::es) [] a) (tD (md X)<|aB F g):=Po C (h.mono d) i f j c he hpl
def OG{X:Cx}(C:fm X.prog X.w X.K X.mg X.base k x ps F)(h:dX b X.A)(f:PA X (e::es) (y2 (md X) g))(d:autoParam (k<=b) ej._auto_1)(i:autoParam (Gl X x) db._auto_1)
  (j:autoParam (nA ps.length g) el._auto_1)
  (c:autoParam ((x==("__debug__":Str))=false) cL._auto_1) (he:autoParam (starEach (e::es) X.env=(false,eval e X.env)::starEach es X.env) db._auto_1) (hpl:autoParam ((backTo a<|starEach es X.env).any (·.1)=false) db._auto_1):
  PE X (.Call (.Name x p) (e::es) [] a) (tL (md X)<|dR F g):=N8 C (h.mono d) i f j c he hpl
def fG{N P:X6}{h:Scope}(a:autoParam (h.kind=.function) db._auto_1)(b:autoParam (h.isCoroutine=false) db._auto_1)(c:autoParam (h.isGenerator=false) db._auto_1)(d:autoParam (N.Nodup) ei._auto_1)(e:autoParam (N.take P.length=P) db._auto_1)
  (f:autoParam (∀x∈P,h.names.lookup x=some .local\/h.names.lookup x=some .cell) ei._auto_1) (g:autoParam (∀y∈h.names,y.2≠.free) ei._auto_1):aD N P h:=#[a,b,c,d,e,f,g]
structure aV(K:X1)(x:Str)(st:Stmt)(f:X8):Prop where
 ex:∃(oc:Xd) (od:Option Addr) (kV dc pm:Xd) (an:Option Addr) (cd ct:Xd) (sl:Array (Option Value)),PySem.W.nsIn K mainGlobals x=some (some<|.ref f)∧
  K.lookup f=some #[oc,od,.func (PySem.W.fnOf x x (gD st) (eA st) (ay st) .none kV dc pm an cd ct),sl]/\PySem.W.codeIn K cd x=true/\PySem.W.keepIn K (.ref f)=true
def aV.of{K:X1}{x:Str}{st:Stmt}{f:X8}{i:Xd}{g:Option Addr}{kV h e:Xd}{d:Option Addr}{b j:Xd}{sl:Array (Option Value)}(a:PySem.W.nsIn K mainGlobals x=some (some<|.ref f))
  (l:K.lookup f=some #[i,g,.func (PySem.W.fnOf x x (gD st) (eA st) (ay st) .none kV h e d b j),sl]) (c:PySem.W.codeIn K b x=true) (k:PySem.W.keepIn K (.ref f)=true):aV K x st f:=#[i,g,kV,h,e,d,b,j,sl,a,l,c,k]
structure Q0(K:X1)(mg:X3)(x:Str)(st:Stmt)(ps:X6)(f:X8):Prop where
 ex:∃fd,et K x x st f fd/\Binds K fd ps []/\PySem.W.keepIn K (.ref f)=true
 m:mg x=some (.ref f)
noncomputable abbrev zlz(ps:List PySem.Str):(List PySem.Value->Prop)->Prop:=List.rec (motive:=fun _=>(List PySem.Value->Prop)->Prop) (fun P=>P []) (fun _ _ r P=>∀a,r fun u=>P (a::u)) ps
theorem zlf:∀{ps:List PySem.Str}{P:List PySem.Value->Prop},zlz ps P->∀us:List PySem.Value,us.length=ps.length->P us:=by
 intro ps
 induction ps with
 |nil=>intro P h us e;exact List.eq_nil_of_length_eq_zero e▸h
 |cons p ps ih=>
  intro P h us e
  cases us with
  |nil=>cases e
  |cons a us=>exact ih (P:=fun u=>P (a::u)) (h a) us (Nat.succ.inj e)
def aV.ok1{K:X1}{k:X3}{x:Str}{st:Stmt}{ps:X6}{f:X8}{h:Xe}(D:aV K x st f)(X:K.In h)(G:h.Ns mainGlobals k)
  (m:autoParam (∀(kV d e:Xd) (j:Option Addr) (c l:Xd),zlz ps fun a:X5=>bindArgs (PySem.W.fnOf x x (gD st) (eA st) (ay st) .none kV d e j c l) #[a,[]]=pure (ps.zip a)) em._auto_1):Q0 K k x st ps f:=by
 let#[p,r,kV,o,e,j,q,l,sl,n,g,i,b]:=D.ex
 show#[#[_,A0 g i b,(A0 g i b).binds (λkV d e j c l=>zlf (m kV d e j c l)),b],PySem.W.mg_of X G n]
structure Pk(P:X9)(w:Xc)(base:Xe):Prop where
def Q0.cal{P:X9}{w:Xc}{a:Xe}{K:X1}{c:X3}{x:Str}{st:Stmt}{ps:X6}{f:X8}{k:Nat}{F:dr}(O:Q0 K c x st ps f)(Z:Pk P w a)
  (h:∀b,et K x x st f b->Binds K b ps []->PySem.W.keepIn K (.ref f)=true->c x=some (.ref f)->bp P w K c a dN k f b ps (eg #[K,c] ps.length F)):fm P w K c a k x ps F:=by
 let#[b,g,d,e]:=O.ex
 show#[f,b,h b g d e O.m,d,e,O.m]
end DL
namespace DL
open L2
def E(f:cf->az->Option (α×az))(c:cf)(S:az)(Q:α->az->Prop):Prop:=∃a b,f c S=some (a,b)/\Q a b
def T(f:cH)(a:cf)(S:az)(Q:Out->Prop):Prop:=∃o,f a S=some o/\Q o
def Fn(F:dr)(ds:List D)(S:az)(Q:Res->az->Prop):Prop:=∃r a,F ds S=some (r,a)/\Q r a
def Tg(g:lO)(d:D)(c:cf)(S:az)(Q:cf->az->Prop):Prop:=∃a b,g d c S=some (a,b)/\Q a b
def Qc(g:qE)(d:List D)(c:cf)(S:az)(Q:cf->az->Prop):Prop:=∃a b,g d c S=some (a,b)/\Q a b
def Op(o:Option α)(Q:α->Prop):Prop:=∃d,o=some d/\Q d
def E.mono{Q R:α->az->Prop}(h:E f s S Q)(i:∀a S,Q a S->R a S):E f s S R:=by
 let#[a,b,e,q]:=h
 show#[a,b,e,i _ _ q]
def T.mono{Q R:Out->Prop}(h:T f s S Q)(i:∀o,Q o->R o):T f s S R:=by
 let#[a,e,q]:=h
 show#[a,e,i _ q]
def aA{Q:D->az->Prop}(h:s[i]?=some (some d))(q:Q d S):E (ar i) s S Q:=#[d,S,by unfold ar;rw[h],q]
def uO{Q:D->az->Prop}(q:Q d S):E (cF d) s S Q:=#[d,S,L,q]
def cG{Q:List D->az->Prop}(q:Q [] S):E ax s S Q:=#[[],S,L,q]
def aQ{Q:List D->az->Prop}(h:E f s S λd a=>E g s a λds S2=>Q (d::ds) S2):E (aw f g) s S Q:=by
 let#[d,a,b,ds,S2,c,q]:=h
 show#[_,_,by unfold aw;rw[b];erw[Qbq];rw[c];rfl,q]
def fh{o:uN}{Q:D->az->Prop}(h:E f s S λx a=>E g s a λy S2=>Op (o S2 x y) λd=>Q d S2):E (bf o f g) s S Q:=by
 let#[x,a,b,y,S2,e,d,c,q]:=h
 show#[d,S2,by unfold bf;rw[b];erw[Qbq];rw[e];erw[Qbq];rw[c];rfl,q]
def vX{Q:D->az->Prop}(h:E f s S λds a=>ds.length<=sizeLine/\Q (.tup ds) a):E (bc f) s S Q:=by
 let#[ds,a,b,l,q]:=h
 show#[_,_,by unfold bc;rw[b];erw[Qbq];rw[Qhq l],q]
def k_{Q:List D->az->Prop}(h:E f s S λds a=>ds.length<=sizeLine/\Q ds a):E (ft f) s S Q:=by
 let#[ds,a,b,l,q]:=h
 show#[_,_,by unfold ft;rw[b];erw[Qbq];rw[Qhq l],q]
def l8{Q:D->az->Prop}(h:E f s S λds a=>Q (.ref a.length) (a++ [.lst ds])):E (eR f) s S Q:=by
 let#[ds,a,b,q]:=h
 show#[_,_,by unfold eR;rw[b];rfl,q]
def Qs{o:KI}{Q:D->az->Prop}(h:E f s S λds a=>Op (o ds) λd=>Q d a):E (Dm o f) s S Q:=by
 let#[ds,a,b,d,c,q]:=h
 show#[d,a,by unfold Dm;rw[b];erw[Qbq];rw[c];rfl,q]
def fP{Q:(List D×Tag)->az->Prop}(h:E f s S λd a=>Op (t_ a d) λp=>Q p a):E (bL f) s S Q:=by
 let#[e,a,b,d,c,q]:=h
 show#[d,a,by unfold bL;rw[b];erw[Qbq];rw[c];rfl,q]
def sO{Q:(List D×Tag)->az->Prop}(h:E f s S λds a=>Q (ds,.fr) a):E (lI f) s S Q:=by
 let#[ds,a,b,q]:=h
 show#[_,a,by unfold lI;rw[b];rfl,q]
def tM{Q:D->az->Prop}(h:E f s S λp a=>Q (.int p.1.length) a):E (hZ f) s S Q:=by
 let#[p,a,b,q]:=h
 show#[_,a,by unfold hZ;rw[b];rfl,q]
def oP{Q:D->az->Prop}(h:E f s S λp a=>Q (.tup p.1) a):E (tupQ f) s S Q:=by
 let#[p,a,b,q]:=h
 show#[_,a,by unfold tupQ;rw[b];rfl,q]
def oZ{Q:(List D×Tag)->az->Prop}(h:E f s S λp a=>p.2.isL=true/\Q p a):E (fM f) s S Q:=by
 let#[p,a,b,l,q]:=h
 show#[_,a,by unfold fM;rw[b];erw[Qbq];rw[Qhq l],q]
def bF(Q:D->az->Prop)(r:Res)(S2:az):Prop:=match r with|.d x=>Q x S2|.l _=>False
def aW(Q:List D->az->Prop)(r:Res)(S2:az):Prop:=match r with|.d _=>False|.l x=>Q x S2
def bH(Q:Bool->az->Prop)(d:D)(a:az):Prop:=match d with|.bl k=>Q k a|_=>False
def cO(g:cH)(Q:Out->Prop)(o:Out):Prop:=match o with|.nx a b=>T g a b Q|o=>Q o
def c_(I:Nat->cf->az->Prop)(n:Nat)(Q:Out->Prop)(o:Out):Prop:=match o with|.nx a b=>I (n+1) a b|.ct a b=>I (n+1) a b|.bk a b=>Q (.nx a b)|o=>Q o
def iO(S:az)(Q:Res->az->Prop)(o:Out):Prop:=match o with
 |.nx _ a=>Op (settle S .non a) λp=>Q p.1 p.2|.rt d a=>Op (settle S d a) λp=>Q p.1 p.2|.rl l a=>Op (eT S l a) λp=>Q p.1 p.2|_=>False
def Sn{Q:D->az->Prop}(h:Q x S):bF Q (.d x) S:=h
def Sz{Q:List D->az->Prop}(h:Q x S):aW Q (.l x) S:=h
def uT{Q:Bool->az->Prop}(h:Q k S):bH Q (.bl k) S:=h
def Sj(h:let a:=s;T g a S Q):cO g Q (.nx s S):=h
def gn(h:E g s S λds a=>Fn F ds a<|bF Q):E (aB F g) s S Q:=by
 let#[ds,a,c,r,b,e,q]:=h
 cases r with
 |d x=>show#[x,b,by unfold aB;rw[c];erw[Qbq];rw[e];rfl,q]
 |l x=>show q.elim
def q_(h:E g s S λds a=>Fn F ds a<|aW Q):E (dR F g) s S Q:=by
 let#[ds,a,c,r,b,e,q]:=h
 cases r with
 |d x=>show q.elim
 |l x=>show#[x,b,by unfold dR;rw[c];erw[Qbq];rw[e];rfl,q]
def cu(h:E f s S (bH Q)):E (aS f) s S Q:=by
 let#[d,b,a,q]:=h
 cases d with
 |bl k=>show#[k,b,by unfold aS;rw[a];rfl,q]
 |_=>show q.elim
def yM{Q:Bool->az->Prop}(h:E f s S λd a=>Op (AV a d) λk=>Q k a):E (kG f) s S Q:=by
 let#[d,a,b,k,c,q]:=h
 show#[k,a,by unfold kG;rw[b];erw[Qbq];rw[c];rfl,q]
def BE{Q:Bool->az->Prop}(h:E f s S λk a=>Q (!k) a):E (zB f) s S Q:=by
 let#[k,a,b,q]:=h
 show#[_,a,by unfold zB;rw[b];rfl,q]
def wc(h:E f s S λk a=>if k=true then E g s a Q else Q false a):E (r8 f g) s S Q:=by
 let#[k,a,b,q]:=h
 cases k with
 |true=>let#[j,c,d,q]:=(q:E g s a Q);show#[j,c,by unfold r8;rw[b];show d,q]
 |false=>show#[false,a,by unfold r8;rw[b];rfl,q]
def OE(h:E f s S λk a=>if k=true then Q true a else E g s a Q):E (N2 f g) s S Q:=by
 let#[k,a,b,q]:=h
 cases k with
 |true=>show#[true,a,by unfold N2;rw[b];rfl,q]
 |false=>let#[j,c,d,q]:=(q:E g s a Q);show#[j,c,by unfold N2;rw[b];show d,q]
def PB(h:E c s S λk a=>if k=true then E f s a Q else E g s a Q):E (tf c f g) s S Q:=by
 let#[k,a,e,q]:=h
 cases k with
 |true=>let#[j,b,d,q]:=(q:E f s a Q);show#[j,b,by unfold tf;rw[e];show d,q]
 |false=>let#[j,b,d,q]:=(q:E g s a Q);show#[j,b,by unfold tf;rw[e];show d,q]
def eZ(h:E f s S λd a=>Q<|.nx (s.set i<|some d) a):T (a_ i f) s S Q:=by
 let#[d,a,b,q]:=h
 show#[_,by unfold a_;rw[b];rfl,q]
def gA(h:E f s S λd a=>Q<|.rt d a):T (cQ f) s S Q:=by
 let#[d,a,b,q]:=h
 show#[_,by unfold cQ;rw[b];rfl,q]
def QL(h:E f s S λd a=>Q<|.rl d a):T (JK f) s S Q:=by
 let#[d,a,b,q]:=h
 show#[_,by unfold JK;rw[b];rfl,q]
def si(h:E f s S λd a=>Q<|.nx s a):T (AG f) s S Q:=by
 let#[d,a,b,q]:=h
 show#[_,by unfold AG;rw[b];rfl,q]
def cq{Q:Out->Prop}(q:Q (.nx s S)):T iP s S Q:=#[_,L,q]
def L_(h:E f s S λd b=>Tg g d s b λa S2=>Q<|.nx a S2):T (oO f g) s S Q:=by
 let#[d,b,c,a,S2,e,q]:=h
 show#[_,by unfold oO;rw[c];erw[Qbq];rw[e];rfl,q]
def aK(h:T f s S (cO g Q)):T (aC f g) s S Q:=by
 let#[o,b,q]:=h
 cases o with
 |nx a c=>let#[o,d,q]:=(q:T g a c Q);show#[o,by unfold aC;rw[b];show d,q]
 |_=>show#[_,by unfold aC;rw[b];rfl,q]
def ed(h:E c s S λk a=>if k=true then T f s a Q else T g s a Q):T (h_ c f g) s S Q:=by
 let#[k,a,d,q]:=h
 cases k with
 |true=>let#[j,b,q]:=(q:T f s a Q);show#[j,by unfold h_;rw[d];show b,q]
 |false=>let#[j,b,q]:=(q:T g s a Q);show#[j,by unfold h_;rw[d];show b,q]
def aN{s:cf}{Q:cf->az->Prop}(q:Q (s.set i<|some d) S):Tg (bS i) d s S Q:=#[_,_,L,q]
def SA{Q:cf->az->Prop}(h:E f s S λx a=>E g s a λy S2=>∃k i ds j,x=.ref k/\y=.int i/\S2[k]?=some (.lst ds)/\HW ds.length i=some j/\Q s (S2.set k<|.lst (ds.set j d))):Tg (MA f g) d s S Q:=by
 let#[x,a,b,y,S2,c,k,i,ds,j,rfl,rfl,h1,h2,q]:=h
 show#[_,_,by unfold MA;rw[b];erw[Qbq];rw[c];erw[Qbq,h1,h2],q]
def kN (h:E i s S λp w=>∃I:Nat->cf->az->Prop,I 0 s w/\(∀n a c,I n a c->p.2 c)∧
   (∀(n:Nat) (d:D) (a:cf) (c:az),p.1[n]?=some d->I n a c->Tg g d a c λu S2=>cO b (c_ I n Q)<|.nx u S2)∧
   ∀a c,I p.1.length a c->Q (.nx a c)):T (nK i g b) s S Q:=by
 let#[#[r,W],w,B,I,A,x,f,m]:=h
 have F:∀(k n:Nat) (a:cf) (c:az),n+k=r.length->I n a c->∃o,forL g b W (r.drop n) a c=some o/\Q o:=by
  intro k
  induction k with
  | zero=>
    intro n a c y t
    rw[List.drop_of_length_le (!0)]
    show#[.nx a c,by erw[forL];rw[Qhq (x _ _ _ t)],m _ _ (by rw[<-y];show t)]
  | succ k z=>
    intro n a c y t
    have l:n<r.length:=by omega
    rw[QWq l]
    let#[u,S2,v,o,C,q]:=f n r[n] a c (gQe l) t
    erw[forL]
    rw[Qhq (x _ _ _ t),v]
    erw[Qbq]
    rw[C]
    erw[Qbq]
    cases o with
    |nx e j=>show z (n+1) e j (!0) q
    |ct e j=>show z (n+1) e j (!0) q
    |bk e j=>show#[_,L,q]
    |rt d j=>show#[_,L,q]
    |rl d j=>show#[_,L,q]
 let#[o,v,q]:=F r.length 0 s w (!0) A
 show#[o,by unfold nK;rw[B];show v,q]
def tU{Q:List D->az->Prop} (h:E i s S λp B=>∃I:Nat->cf->az->List D->Prop,I 0 (nZ js s) B []/\(∀n b e a,I n b e a->p.2 e)∧
   (∀(n:Nat) (d:D) (b:cf) (e:az) (a:List D),p.1[n]?=some d->I n b e a->Tg g d b e λj S2=>E t j S2 λk x=>if k=true then E f j x λy A=>a.length<sizeLine/\I (n+1) j A (a++ [y]) else I (n+1) j x a)∧
   ∀b e a,I p.1.length b e a->Q a e):E (cM js i g t f) s S Q:=by
 let#[#[v,W],B,J,I,H,C,m,u]:=h
 have M:∀(k n:Nat) (b:cf) (e:az) (a:List D),n+k=v.length->I n b e a->∃r l,lS g t f W (v.drop n) b e a=some (r,l)/\Q r l:=by
  intro k
  induction k with
  | zero=>
    intro n b e a F w
    rw[List.drop_of_length_le (!0)]
    show#[a,e,by erw[lS];rw[Qhq (C _ _ _ _ w)],u _ _ _ (by rw[<-F];show w)]
  | succ k G=>
    intro n b e a F w
    have o:n<v.length:=by omega
    rw[QWq o]
    let#[j,S2,z,c,x,K,q]:=m n v[n] b e a (gQe o) w
    erw[lS]
    rw[Qhq (C _ _ _ _ w),z]
    erw[Qbq]
    rw[K]
    erw[Qbq]
    cases c with
    | true=>
      rw[Qhq L] at q|-
      let#[y,A,N,hl,q]:=q
      rw[N]
      erw[Qbq]
      rw[Qhq hl]
      show G (n+1) j A _ (!0) q
    | false=>
      rw[Quq (!1)] at q|-
      show G (n+1) j x _ (!0) q
 let#[r,l,z,q]:=M v.length 0 _ B [] (!0) H
 show#[r,l,by unfold cM;rw[J];show z,q]
def qe{Q:(List D×(az->Prop))->az->Prop}(h:E f s S λd a=>∃j,d=.int j/\(-(2^62)<=j/\j<2^62)/\Q (iY 0 j,λ_=>True) a):E (qH f) s S Q:=by
 let#[d,a,b,j,rfl,hj,q]:=h
 show#[_,a,by unfold qH;rw[b];erw[Qbq];rw[Qhq hj],q]
def uA{Q:(List D×(az->Prop))->az->Prop}(h:E f s S λp a=>Q (p.1,λb=>p.2.stays b p.1) a):E (rG f) s S Q:=by
 let#[p,a,c,q]:=h
 show#[_,a,by unfold rG;rw[c];rfl,q]
def AN{m:List D->List D->Option (List D×D)}{Q:D->az->Prop}(h:E f s S λx b=>∃k a,x=.ref k/\b[k]?=some (.lst a)/\E g s b λys S2=>∃ds,S2[k]?=some (.lst ds)/\Op (m ds ys) λp=>Q p.2<|S2.set k<|.lst p.1):E (Fj m f g) s S Q:=by
 let#[x,b,c,k,a,rfl,h1,ys,S2,e2,ds,h2,p,e3,q]:=h
 show#[_,_,by unfold Fj;rw[c];erw[Qbq,e2,h1,h2,e3],q]
def bP{ds:List D}(h:cO b (iO S Q) (.nx (ds.map some++List.replicate (n-ds.length) none) S)):Fn (ff n b) ds S Q:=by
 let#[o,e,q]:=h
 cases o with
 |nx g f=>let#[#[r,a],c,q]:=q;show#[r,a,by unfold ff;rw[e];show c,q]
 |rt d f=>let#[#[r,a],c,q]:=q;show#[r,a,by unfold ff;rw[e];show c,q]
 |rl d f=>let#[#[r,a],c,q]:=q;show#[r,a,by unfold ff;rw[e];show c,q]
 |bk=>show q.elim
 |ct=>show q.elim
def i7{Q:Res×az->Prop}(c:n_ S a)(ht:a.take S.length=S2)(b:∀k,d≠.ref k)(hl:cc S.length d=true)(q:Q (.d d,S2)):Op (settle S d a) Q:=by
 show#[_,?_,q]
 unfold settle
 rw[Qhq c,ht]
 cases d with
 |ref k=>show absurd L (b k)
 |_=>erw[hl,if_true]
def mO{Q:Res×az->Prop}(b:n_ S a)(ht:a.take S.length=S2)(hl:bK S.length ds=true)(q:Q (.l ds,S2)):Op (eT S ds a) Q:=by
 show#[_,?_,q]
 unfold eT
 rw[Qhq #[b,hl],ht]
def sk:n_ S S:=#[Qmq _,λk o _ h=>.inl h]
def vo{S:az}(h:Kv S.length o=true):n_ S (S.set k o):=by
 show#[by simp,λj u _ e=>?_]
 rw[List.getElem?_set] at e
 split at e
 ·split at e
  ·cases e;show .inr h
  ·cases e
 ·show .inl e
end DL
namespace L2
open PyProof.Rows
end L2
namespace DL
open L2
end DL
namespace L2
open PyProof.Rows
end L2
namespace DL
open PyProof.Rows L2
end DL
namespace L2
open PyProof.Rows
end L2
namespace DL
open PyProof.Rows L2
end DL
namespace DL
open L2
mutual
noncomputable def DR:D->Option PyData
 |.non=>some .none
 |.bl b=>some (.bool b)
 |.int i=>some (.int i)
 |.str x=>if PyData.strOk x=true then some (.str x) else none
 |.tup a=>(vE a).map .tuple
 |.ref _=>none
 |.fn _=>none
noncomputable def vE:List D->Option (List PyData)
 | []=>some []
 |d::ds=>(DR d).bind λp=>(vE ds).map (p::·)
end
mutual
theorem wO:∀{d:D} {p:PyData} {v:V},Rel M ρ H d v->DR d=some p->pP (λ_=>False) H p v
 |.non,_,_,.non,e=>by cases e;show .non
 |.bl _,_,_,.bl _,e=>by cases e;show .bl _
 |.int _,_,_,.int _,e=>by cases e;show .int _
 | .str _,_,_,.str _,e=>by
   erw[DR] at e
   split at e
   · cases e;show .str _
   · cases e
 | .tup ds,_,_,.tup h hs,e=>by
   erw[DR] at e
   let#[b,a,rfl]:=oQm.mp e
   show .tup h (Cn hs a)
 |.ref _,_,_,_,e=>by cases e
 |.fn _,_,_,_,e=>by cases e
theorem Cn:∀{ds:List D} {ps:List PyData} {vs:List V},aO M ρ H ds vs->vE ds=some ps->uw (λ_=>False) H ps vs
 | [],_,_,.nil,e=>by cases e;show .nil
 | d::ds,_,_,.cons h hs,e=>by
   erw[vE] at e
   let#[p,a,e]:=aq e
   let#[ps,b,rfl]:=oQm.mp e
   show .cons (wO h a) (Cn hs b)
end
end DL
namespace L2
end L2
namespace DL
open L2
end DL
namespace DL
open PyProof.Rows L2
def jm:fillsNumberSlot (.type "tuple") "mul"=pure false:=
 PySem.fillsNumberSlot_seq (id:="tuple.__mul__") (r:=some (.builtin "tuple.__rmul__")) PySem.F.slot_tuple_mul.lookup (by decide +kernel) PySem.F.slot_tuple_rmul.lookup (by decide +kernel)
def nR:seqRepeat? (.type "tuple")=pure (some<|.builtin "tuple.__mul__"):=by
 unfold seqRepeat?
 rw[PySem.seqSlot_of (T:="tuple") (name:="__mul__") (id:="tuple.__mul__") PySem.F.slot_tuple_mul.lookup (by decide +kernel),PySem.seqSlot_of (T:="tuple") (name:="__rmul__") (id:="tuple.__rmul__") PySem.F.slot_tuple_rmul.lookup (by decide +kernel)]
 rfl
def sM(a:Int)(t:Tok)(l:X8)(items:Xa)(n:Nat)(c:Option Addr)(sl:Array (Option Value)):
  Meets (Builtin.«int.__rmul__» #[[.int a t,.ref l],[]]) (λ_ R s=>s.heap.get? l=some {cls:=.type "tuple",dict:=c,data:=.seq items n,slots:=sl}/\R (.ok (.ret Value.notImplemented)) s):=
 .of_wp λb w A R s h=>by let#[i,g,d,e,f]:=s;let#[hl,h]:=h;wp_walk;show#[_,L,h]
def EG(l:X8)(items:Xa)(n:Nat)(r:Option Addr)(sl:Array (Option Value))(x:Int)(u:Tok)(v:2<=x)(F:x<2^63)(a:¬items.isEmpty=true)(hsz:items.size*x.toNat<=sizeLine):
  Meets (Builtin.«tuple.__mul__» #[[.ref l,.int x u],[]]) (λ_ R s=>s.heap.get? l=some {cls:=.type "tuple",dict:=r,data:=.seq items n,slots:=sl}/\R (.ok (.ret (Value.ref s.heap.objs.size))) {s with heap:=s.heap.push {cls:=Value.type "tuple",data:=Data.seq (List.foldl (λe c=>e++c) (List.toArray []) (List.replicate x.toNat items))},toks:=s.toks}):=
 .of_wp λi w A R s h=>by
  let#[C,g,d,y,z]:=s;let#[hl,h]:=h
  let B:=AutoSeq1.idx_int
  have j:(sizeLine:Nat)=16777216:=by decide
  have f:((items.size:Int)*x)=((items.size*x.toNat:Nat):Int):=by rw[Int.natCast_mul,Int.toNat_of_nonneg (!0)]
  have m:items.size*x.toNat<=16777216:=by omega
  have k:¬(decide (x< -2^63)||decide (x>=2^63))=true:=by simp;omega
  have o:¬(items.isEmpty||x==1)=true:=by simp at a|-;show#[a,by omega]
  have p:¬(decide (x<=0)||items.isEmpty)=true:=by simp at a|-;show#[by omega,a]
  have t:¬((items.size:Int)*x>(2^63-1)/8):=by rw[f];omega
  have q:¬Builtin.Tuple.tupleTooMany ((items.size:Int)*x)=true:=by rw[f];unfold Builtin.Tuple.tupleTooMany;rw[Qdq (by rw[j];omega)];decide
  have b:(List.foldl (λe c=>e++c) (List.toArray []) (List.replicate x.toNat items)).size<=sizeLine:=by rw[AutoListH.size_joined,j,Nat.mul_comm];simpa using m
  wp_walk using wpAny_loadPart' hl
  show QgQ (Qdq k) ?_
  wp_walk using wpAny_loadPart' hl
  show QgQ (Qdq o) ?_
  wp_walk using wpAny_loadPart' hl
  show QgQ (Qdq p) ?_
  wp_walk using wpAny_loadPart' hl
  show QgQ (Qdq t) ?_
  wp_walk using wpAny_loadPart' hl
  show QgQ (Qdq q) ?_
  wp_walk using wpAny_loadPart' hl
  show QgQ (Qdq<|Nat.not_lt.mpr b) ?_
  wp_walk
  show#[_,L,h]
def Kz(K:X1):R2:=λx y H Q=>∃a k d,x=.ref a/\y=.int k/\gh K H a d/\d≠[]/\2<=k/\k<2^63/\d.length*k.toNat<=sizeLine/\∀p,H p=none->Q (.ref p) (upd H p<|.tup (List.replicate k.toNat d).flatten)
def J9:j0 X (binaryOp .Mult) (Kz X.K):=by
 intro p s S H x y v u Q I J M h
 let#[l,k,G,rfl,rfl,ha,hx,h1,h2,hz,q]:=h
 cases J
 let#[t,rfl]:=M
 let#[d,g,C,_]:=I.tuple ha
 let#[#[B,r,m,sl],f,w,n,j]:=id C
 simp only at w j
 subst w j
 have i:d.toArray.size*k.toNat<=sizeLine:=by rw[Qjq,<-g.length];show hz
 have e:List.foldl (λP N=>P++N) (List.toArray []) (List.replicate k.toNat d.toArray)=(List.replicate k.toNat d).flatten.toArray:=by
  have:=foldl_rep d k.toNat []
  rw[List.nil_append] at this
  show this
 show wpAny_binaryOp_repeat_ref (T:="tuple") (U:="int") (!1) #[_,f,L] (λA=>typeIs_int A k t) jm F.fills_int_mul F.slot_int_rmul nR F.slot_int_index.lookup
  (call_meets F.slot_int_rmul (typeIs_int s k t) F.entry_int_rmul (F.args_int_rmul_2 _ _) (sM k t l d.toArray n r sl)
   #[f,L,#[_,f,L],call_meets F.slot_tuple_mul #[_,f,L] F.entry_tuple_mul (F.args_tuple_mul_2 _ _) (EG l d.toArray n r sl k t h1 h2 (λz=>hx (g.nil_iff.mp (by simpa using z))) i) #[f,?_]])
 rw[e]
 show#[.ref s.heap.objs.size,_,I.laid (t':=s.toks) (o:=.tup (List.replicate k.toNat G).flatten) (λb R q=>Qcq _ q) (Qmq _) ?_,L,q _<|I.hok.fresh<|Qmq _]
 show#[by rw[len_rep,Nat.mul_comm];show hz,_,g.rep k.toNat,tF.new _ _]
def A8(l:X8)(items:Xa)(n:Nat)(b:Option Addr)(sl:Array (Option Value))(u:Tok):
  Meets (Builtin.«tuple.__mul__» #[[.ref l,.int 1 u],[]]) (λ_ R s=>s.heap.get? l=some {cls:=.type "tuple",dict:=b,data:=.seq items n,slots:=sl}/\R (.ok (.ret (Value.ref l))) s):=
 .of_wp λa w A R s h=>by
  let#[j,g,d,c,e]:=s;let#[hl,h]:=h
  let f:=AutoSeq1.idx_int
  have i:¬(decide ((1:Int)< -2^63)||decide ((1:Int)>=2^63))=true:=by decide
  have k:(items.isEmpty||(1:Int)==1)=true:=by simp
  wp_walk using wpAny_loadPart' hl
  show#[_,L,h]
def BI(l:X8)(items:Xa)(n:Nat)(c:Option Addr)(sl:Array (Option Value))(u:Tok)(a:¬items.isEmpty=true):
  Meets (Builtin.«tuple.__mul__» #[[.ref l,.int 0 u],[]]) (λ_ R s=>s.heap.get? l=some {cls:=.type "tuple",dict:=c,data:=.seq items n,slots:=sl}/\R (.ok (.ret (Value.ref s.heap.objs.size))) {s with heap:=s.heap.push {cls:=Value.type "tuple",data:=Data.seq (List.toArray [])},toks:=s.toks}):=
 .of_wp λb w A R s h=>by
  let#[k,g,d,e,f]:=s;let#[hl,h]:=h
  let i:=AutoSeq1.idx_int
  have j:¬(decide ((0:Int)< -2^63)||decide ((0:Int)>=2^63))=true:=by decide
  have m:¬(items.isEmpty||(0:Int)==1)=true:=by simpa using a
  have o:(decide ((0:Int)<=0)||items.isEmpty)=true:=by simp
  wp_walk using wpAny_loadPart' hl
  show#[_,L,h]
def KH(K:X1):R2:=λx y H Q=>∃a k d,x=.ref a/\y=.int k/\gh K H a d/\d≠[]/\((k=1/\Q (.ref a) H)\/(k=0/\∀p,H p=none->Q (.ref p) (upd H p<|.tup [])))
def JP:j0 X (binaryOp .Mult) (KH X.K):=by
 intro m s N H x y v u Q I C G h
 let#[l,k,M,rfl,rfl,ha,hx,h]:=h
 cases C
 let#[t,rfl]:=G
 let#[d,A,B,_]:=I.tuple ha
 let#[#[w,g,j,sl],e,p,n,i]:=id B
 simp only at p i
 subst p i
 have f:¬d.toArray.isEmpty=true:=λz=>hx (A.nil_iff.mp (by simpa using z))
 show wpAny_binaryOp_repeat_ref (T:="tuple") (U:="int") (!1) #[_,e,L] (λr=>typeIs_int r k t) jm F.fills_int_mul F.slot_int_rmul nR F.slot_int_index.lookup
  (call_meets F.slot_int_rmul (typeIs_int s k t) F.entry_int_rmul (F.args_int_rmul_2 _ _) (sM k t l d.toArray n g sl) #[e,L,#[_,e,L],?_])
 rcases h with⟨rfl,q⟩|⟨rfl,q⟩
 ·show call_meets F.slot_tuple_mul #[_,e,L] F.entry_tuple_mul (F.args_tuple_mul_2 _ _) (A8 l d.toArray n g sl t) #[e,.ref l,H,I,L,q]
 ·show call_meets F.slot_tuple_mul #[_,e,L] F.entry_tuple_mul (F.args_tuple_mul_2 _ _) (BI l d.toArray n g sl t f) #[e,?_]
  show#[.ref s.heap.objs.size,_,I.laid (t':=s.toks) (o:=.tup []) (λb J q=>Qcq _ q) (Qmq _) ?_,L,q _<|I.hok.fresh<|Qmq _]
  show#[Nat.zero_le _,_,.nil,tF.new _ _]
noncomputable def wM:uN:=λ_ x y=>match x,y with
 |.tup i,.int k=>if 0<=k/\k<2^63/\i≠[]/\i.length*k.toNat<=sizeLine then some (.tup (List.replicate k.toNat i).flatten) else none
 |_,_=>none
def IE:j7 M (λx y H Q=>Kz M.K x y H Q\/KH M.K x y H Q) wM:=by
 intro o S H x y d u v Q j l n e q
 cases l with
 | tup i h=>
   cases n with
   | int k=>
     erw[wM] at e
     split at e <;>cases e
     rename_i hl
     let g:=λz=>hl.2.2.1 (List.length_eq_zero_iff.mp<|h.length.trans<|List.length_eq_zero_iff.mpr z)
     by_cases m:2<=k
     · show .inl #[_,k,_,L,L,gh.of i,g,m,hl.2.1,by rw[<-h.length];show hl.2.2.2,λp f=>q _ _ (bB.laid f) (j.lay f)<|.tup aR ((h.rep _).ext (bB.laid f))]
     · show .inr #[_,k,_,L,L,gh.of i,g,?_]
       rcases(by omega:k=1\/k=0) with rfl|rfl
       · show .inl #[L,q _ _ bB.refl j ?_]
         rw[show(List.replicate (1:Int).toNat _).flatten=_ from List.append_nil _]
         show .tup i h
       · show .inr #[L,λp f=>q _ _ (bB.laid f) (j.lay f)<|.tup aR .nil]
   |_=>erw[wM,reduceCtorEq] at e
 |_=>erw[wM,reduceCtorEq] at e
def QK(d:PE X a (tD (md X) f))(e:PE X b (tD (md X) g)):PE X (.BinOp a .Mult b c) (tD (md X)<|bf wM f g):=oa IE (oD (J9.or JP) d e)
end DL
namespace L2
open PyProof.Rows
end L2
namespace DL
open L2
end DL
namespace L2
end L2
namespace DL
open L2
end DL
namespace L2
open PyProof.Rows
end L2
namespace DL
open L2
end DL
namespace Z3
open PySem Zq
end Z3
namespace L2
open PyProof.Rows Zq
end L2
namespace DL
open PyProof.Rows L2
end DL
namespace L2
open PyProof.Rows
section
variable{X:Cx}
theorem CI:∀{b:List String} {a:X5},bo (b.map V.ty) a->a=b.map Value.type
 | [],_,r=>by cases r;rfl
 | T::b,_,r=>by
   cases r with
   | cons h t=>
     rw[CI t,QDq]
     cases (show _=Value.type T from h)
     rfl
inductive G8(H:Hp):V->Value->Prop where
 |non:G8 H .non (.type "NoneType")
 |bl (x:Bool):G8 H (.bl x) (.type "bool")
 |int (i:Int):G8 H (.int i) (.type "int")
 |str (x:Str):G8 H (.str x) (.type "str")
 |lst {a:X8} {xs:List V} (e:H a=some (.lst xs)):G8 H (.ref a) (.type "list")
 |frz {a:X8} {o:Obj} {xs:List V} (e:H a=some (.frz o (.lst xs))):G8 H (.ref a) (.type "list")
 |tup {a:X8} {xs:List V} (e:H a=some (.tup xs)):G8 H (.ref a) (.type "tuple")
 |dK {a:X8} {kvs:List (Key×V)} (e:H a=some (.dK kvs)):G8 H (.ref a) (.type "dict")
def D6:dB X (.builtin "isinstance") (λxs H Q=>∃(x:V) (a:X8) (j:List String) (t:Xd) (b:Bool),xs= [x,.ref a]/\H a=some (.tup (j.map V.ty))/\G8 H x t/\PySem.W.kitAny X.K t (j.map Value.type)=some b/\Q (.bl b) H):=by
 intro m s P H xs U Q I r h
 let#[x,a,j,t,b,rfl,ha,ty,e,q]:=h
 let#[u,G,rfl,rx,rt]:=vals2 r
 cases (show G=Value.ref a from rt)
 let#[_,C,F,#[c,R,B,sl],f,J,A,n,v]:=(show bR X.prog X.w H s.heap a (.tup (j.map V.ty)) from I.hok a _ ha)
 cases J
 cases v
 rw[CI F] at f
 cases ty with
 |non=>cases (show u=Value.none from rx);show PySem.W.kia_tup PySem.W.kitx_none I.kIn True.intro f e (λz=>nomatch z) λd=>#[.bl b,H,I.tok d,L,q]
 |bl y=>cases (show u=Value.bool y from rx);show PySem.W.kia_tup PySem.W.kitx_bool I.kIn True.intro f e (λz=>nomatch z) λd=>#[.bl b,H,I.tok d,L,q]
 |int i=>let#[t,l]:=(show∃t,u=Value.int i t from rx);cases l;show PySem.W.kia_tup PySem.W.kitx_int I.kIn True.intro f e (λz=>nomatch z) λd=>#[.bl b,H,I.tok d,L,q]
 |str y=>let#[t,l]:=(show∃t,u=Value.str y t from rx);cases l;show PySem.W.kia_tup PySem.W.kitx_str I.kIn True.intro f e (λz=>nomatch z) λd=>#[.bl b,H,I.tok d,L,q]
 | @lst a xs ea=>
   cases (show u=Value.ref a from rx)
   let#[_,_,n,_,g]:=(show bR X.prog X.w H s.heap a (.lst xs) from I.hok a _ ea)
   show PySem.W.kia_tup PySem.W.kitx_list I.kIn #[_,g,L] f e (λz=>nomatch z) λd=>#[.bl b,H,I.tok d,L,q]
 | @frz a ob xs ea=>
   cases (show u=Value.ref a from rx)
   let#[_,_,_,n,_,g]:=(show bR X.prog X.w H s.heap a (.frz ob (.lst xs)) from I.hok a _ ea)
   show PySem.W.kia_tup PySem.W.kitx_list I.kIn #[_,g,L] f e (λz=>nomatch z) λd=>#[.bl b,H,I.tok d,L,q]
 | @tup a xs ea=>
   cases (show u=Value.ref a from rx)
   let#[_,_,_,p]:=(show bR X.prog X.w H s.heap a (.tup xs) from I.hok a _ ea)
   let#[o,g,k,_]:=p
   show PySem.W.kia_tup PySem.W.kitx_tuple I.kIn #[o,g,k] f e (λz=>nomatch z) λd=>#[.bl b,H,I.tok d,L,q]
 | @dK a kvs ea=>
   cases (show u=Value.ref a from rx)
   let#[_,_,M,_,p]:=(show bR X.prog X.w H s.heap a (.dK kvs) from I.hok a _ ea)
   let#[o,N,S,g,k,_]:=p
   show PySem.W.kia_tup PySem.W.kitx_dict I.kIn #[o,g,k.1] f e (λz=>nomatch z) λd=>#[.bl b,H,I.tok d,L,q]
end
end L2
namespace DL
open PyProof.Rows L2
section
variable{X:Cx}{a:Expr}{c:Pos}
noncomputable def zJ(T U:String)(f:aU):aU:=λe S=>(f e S).bind λ(d,b)=>(sS b T d).bind λk=>(sS b U d).bind λl=>some (.bl (k||l),b)
def Jr{K:X1}{t:Xd}{T U:String}{k l:Bool}(d:PySem.W.kitOne K t (.type T)=some k)(b:PySem.W.kitOne K t (.type U)=some l):PySem.W.kitAny K t ([T,U].map Value.type)=some (k||l):=by
 erw[QDq,List.map_nil,PySem.W.kitAny]
 rw[d]
 cases k with
 |true=>rfl
 |false=>simp only;rw[b];cases l <;>rfl
def QB{T U:String}{u m:Expr}{f:aU}{p C:Pos}{F:Nat}(hk:Fu X.K T)(I:Fu X.K U)(hg:Gl X "isinstance")(hm:X.mg "isinstance"=none)(ha:PE X a (tD (md X) f))(ht:PE X u (tC (.ty T)))(hu:PE X m (tC (.ty U)))
  (P:autoParam (starEach [a,.Tuple [u,m] F C] X.env= [(false,eval a X.env),(false,eval (.Tuple [u,m] F C) X.env)]) db._auto_1) (n:autoParam (starEach [.Tuple [u,m] F C] X.env= [(false,eval (.Tuple [u,m] F C) X.env)]) db._auto_1)
  (N:autoParam (starEach [u,m] X.env= [(false,eval u X.env),(false,eval m X.env)]) db._auto_1) (A:autoParam (starEach [m] X.env= [(false,eval m X.env)]) db._auto_1):
  PE X (.Call (.Name "isinstance" p) [a,.Tuple [u,m] F C] [] c) (tD (md X) (zJ T U f)):=
 jl (eV D6 hg hm boot_isinstance (bJ ha (bJ (Gb (bJ ht (bJ hu de A) (by rw[N,A]))) de n) (by rw[P,n])) (he:=by rw[P,n]) (hpl:=by rw[n];rfl)) λσ H Q qq=>by
  let#[ρ,Γ,S,d,S',ok,e,q]:=qq
  let#[#[d',S1],e1,e]:=aq e
  let#[k,i,e]:=aq e
  let#[l,j,e]:=aq e
  let#[rfl,rfl]:=bN e
  let#[k1,k2,k3,k4,k5,Z,k7]:=hk
  let#[l1,l2,l3,l4,l5,l6,l7]:=I
  show#[ρ,Γ,S,d',S1,ok,e1,λB v w x G r=>#[by show 2<=_;decide,λp M=>?_]]
  have x2:bB B w B (upd w p (.tup ([T,U].map V.ty))):=bB.laid M
  let J:=q _ (.bl (k||l)) _ (x.trans x2) (G.lay M) (.bl _)
  have g:∀{b:X8} {o:HO},w b=some o->(upd w p (.tup ([T,U].map V.ty))) b=some o:=λ{b o} hb=>by
   rw[aM]
   ·show hb
   ·intro z;subst z;rw[M] at hb;cases hb
  have mk:∀{t:Xd},G8 (upd w p (.tup ([T,U].map V.ty))) v t->PySem.W.kitOne X.K t (.type T)=some k->PySem.W.kitOne X.K t (.type U)=some l->_:=λ{t} ty y h2=>(#[v,p,[T,U],t,k||l,L,aR,ty,Jr y h2,J]:∃(x:V) (a:X8) (Y:List String) (t:Xd) (b:Bool),[v,V.ref p]= [x,.ref a]/\(upd w p (.tup ([T,U].map V.ty))) a=some (.tup (Y.map V.ty))/\G8 (upd w p (.tup ([T,U].map V.ty))) x t/\PySem.W.kitAny X.K t (Y.map Value.type)=some b/\Q (.bl b) (upd w p (.tup ([T,U].map V.ty))))
  cases r with
  |non=>cases i;cases j;show mk .non k1 l1
  |bl=>cases i;cases j;show mk (.bl _) k2 l2
  |int=>cases i;cases j;show mk (.int _) k3 l3
  |str=>cases i;cases j;show mk (.str _) k4 l4
  |tup h P=>cases i;cases j;show mk (.tup (g h)) k5 l5
  |fn=>cases i
  | ref h=>
    erw[sS] at i j
    split at i
    · rename_i s;rw[s] at j;cases i;cases j;let#[R,y,_]:=G.obj _ _ _ h s;show mk (.lst (g y)) Z l6
    · rename_i s;rw[s] at j;cases i;cases j;let#[R,o,y,_]:=G.obj _ _ _ h s;show mk (.frz (g y)) Z l6
    · rename_i s;rw[s] at j;cases i;cases j;let#[R,y,_]:=G.obj _ _ _ h s;show mk (.dK (g y)) k7 l7
    · cases i
end
end DL
namespace L2
open PyProof.Rows
end L2
namespace DL
open L2
section
variable{X:Cx}{a b:Expr}{c:Pos}
noncomputable def GO(f g:aU):aU:=λe S=>(f e S).bind λ(y,h)=>(g e h).bind λ(x,d)=>match x with
 | .ref k=>match d[k]? with
   |some (.dct l)=>(oH y).bind λi=>some (.bl (g8 l i).isSome,d)
   |_=>none
 |_=>none
def Pb{f g:aU}:∀(σ:List (Option V)) (H:Hp) (Q:V->Hp->Prop),tD (md X) (GO f g) σ H Q->NZ (tD (md X) f) (tD (md X) g) σ H Q:=λσ H Q C=>by
 let#[F,o,S,d,W,ok,e,q]:=C
 let#[#[y,s],M,e]:=aq e
 let#[#[x,B],A,e]:=aq e
 cases x with
 | ref k=>
   dsimp only at e
   split at e
   · rename_i l I
     let#[j,N,e]:=aq e
     let#[rfl,rfl]:=bN e
     show#[F,o,S,y,s,ok,M,λm R H1 t i u=>#[m,o,s,_,B,ok.to t i,A,λw U H2 p h K=>?_]]
     cases nH (u.ext p) N
     cases K with
     | ref P=>
       let#[J,z,n]:=h.obj k _ _ P I
       show#[_,_,L,wj.k z,?_]
       have:(lK J j).isSome=(g8 l j).isSome:=by
         cases r:g8 l j with
         |none=>rw[n.noval r];rfl
         |some d=>let#[v,G,_]:=n.val r;rw[G];rfl
       rw[this]
       show q _ _ _ (t.trans p) h (.bl _)
   · cases e
 |_=>cases e
def N7{f g:aU}(h:X.A.units+1<cLine)(e:PE X a (tD (md X) f))(i:PE X b (tD (md X) g))(d:autoParam (behindInMarks .In b=false) db._auto_1):PT X (.Compare a [.In] [b] c) (tB (md X) (aS (GO f g))):=r_ Pb (Gy (Ml h e i) d)
end
end DL
namespace L2
open PyProof.Rows
def Inv.sett(I:Inv X f σ H s)(h:H a=some (.ext (ST.cK a d))):ST.cK a d s.heap:=(show bR X.prog X.w H s.heap a (.ext _) from I.hok a _ h).1
def GN(x:ST.cK a d h):bR P w H h a (.ext (ST.cK a d)):=by
 show#[x,?_,λc g p k=>p.keep k]
 let#[o,i,e,t,c,_]:=x
 show#[o,c]
def Od(H:Hp)(d:List (PyData×Addr)):Prop:=∀e∈d,ST.nu 8 e.1=true/\pP (λ_=>False) H e.1 (.ref e.2)
def Od.to(I:Inv X f σ H s)(h:Od H d):ST.Mm s.heap d:=λe c=>by
 let#[k,g]:=h e c
 let#[i,j,_]:=nN I (λa z=>z.elim) g (u:=.ref e.2) L
 show#[k,i,j]
def DZ:dB X (.type "set") (λxs H Q=>xs= []/\∀q,H q=none->Q (.ref q) (upd H q<|.ext (ST.cK q []))):=by
 intro f s σ H xs g Q I r h
 let#[rfl,q]:=h
 cases r
 show ST.IB λi c e=>?_
 show#[.ref _,_,I.laid (o:=.ext (ST.cK s.heap.objs.size [])) (t':=s.toks) c (Qmq _)<|GN e,L,q _ I.fresh]
def OA(g c:TE):TE:=λσ H Q=>g σ H λy H1=>c σ H1 λx H2=>∃a b d p,x=.ref a/\y=.ref b/\H2 a=some (.ext (ST.cK a d))/\Od H2 d/\d.length<=5000/\pP (λ_=>False) H2 p (.ref b)/\ST.nu 8 p=true/\Q (.bl (!d.any λe=>PyData.eqv e.1 p)) H2
def MV{X:Cx}(R:X.A.units+64<cLine)(hi:PE X i g)(q:PE X o e):PC X .NotIn i o (OA g e):=by
 intro f s σ H Q I h
 show cj (hi f s σ H _ I h) λJ r ⟨y,H1,m,v,n⟩=>cj (q f r σ H1 _ m n) λu P w=>?_
 let#[x,H2,c,t,a,b,d,p,k,G,F,C,hl,j,B,K]:=w
 subst k G
 obtain rfl:u=Value.ref a:=t
 obtain rfl:J=Value.ref b:=v
 let#[M,l,_]:=nN c (λa z=>z.elim) j (u:=.ref b) L
 show ST.G0 (!0) (c.sett F) (C.to c) hl l B λN=>#[.bl _,H2,c.tok _,L,K]
def IM{X:Cx}(C:X.A.units+64<cLine):Ob X "set.add" (λx vs H Q=>∃a b d p,x=.ref a/\vs= [.ref b]/\H a=some (.ext (ST.cK a d))/\Od H d/\d.length<=5000/\pP (λ_=>False) H p (.ref b)/\ST.nu 8 p=true/\Q .non (upd H a<|.ext (ST.cK a (if (d.any λe=>PyData.eqv e.1 p)=true then d else d++ [(p,b)])))):=by
 intro f s σ H x vs v G Q I m l h
 let#[a,b,d,p,rfl,rfl,hS,he,hl,hd,hn,q]:=h
 cases m
 let#[u,rfl,ru]:=l.one
 obtain rfl:u=Value.ref b:=ru
 let#[w,i,_]:=nN I (λa z=>z.elim) hd (u:=.ref b) L
 show ST.JV (!0) (I.sett hS) (he.to I) hl i hn λj y r g=>?_
 show#[.non,_,I.write (x:=a) (e:=a) (t':=j) (by rw[hS];trivial) (.inl L) (λc o n e=>(r.2 c n).trans e) ?_<|GN g,L,q]
 let#[o,B,F,t,k,_]:=g
 show#[o,k]
def Sl(r:V->List V->Hp->VK->Prop)(l:TE)(t:TA):TE:=λσ H Q=>l σ H λx H1=>(∃p d,x=.ref p/\H1 p=some (.ext (ST.cK p d)))/\t σ H1 λc H2=>r x c H2 Q
def MH{j:Pos}(N:Ob X "set.add" r)(C:PE X o l)(S:PA X [e] t)
  (c:autoParam (attributeBase o "add" X.env (eval o X.env)=eval o X.env) db._auto_1)
  (k:autoParam (((backTo g (starEach [e] X.env)).all (λx=> !x.1)&&(backToKw g (keywordEach [] X.env)).all (λx=>x.1.isSome)
   &&decide ([e].length+([]:List Keyword).length+(if ([]:List Keyword).isEmpty then 0 else 1)<30))=true) db._auto_1)
  (i:autoParam ((j.endLine==g.line)=true) db._auto_1) (J:autoParam (starEach [e] X.env= [(false,eval e X.env)]) db._auto_1):
  PE X (.Call (.Attribute o "add" j) [e] [] g) (Sl r l t):=by
 intro f s σ H Q I h
 show wpAny_Call_method_late c k i L (cj (C f s σ H _ I h) λv G K=>?_)
 let#[x,H1,m,u,#[p,d,R,B],z]:=K
 subst R
 cases u
 let q:=m.sett B
 show#["set","set.add",F.plainAttrs_set,F.slot_set_add,F.type_set_add,q.typeIs,q.noDict,?_]
 let n:=S g f G σ H1 _ m z
 rw[J] at n|-
 show Calls.callWith_builtin (by rfl)<|Calls.evalArgs_plain ?_
 show cj n λP y ⟨w,H2,A,M,U⟩=>N f y σ H2 (.ref p) w (.ref p) P Q A L M U
end L2
namespace DL
open PyProof.Rows L2
mutual
theorem wQ:∀{d:D} {p:PyData},fj d=some p->DR d=some p
 |.int _,_,e=>e
 | .tup ds,_,e=>by
   erw[fj] at e
   let#[b,a,rfl]:=oQm.mp e
   erw[DR]
   rw[Cy a]
   rfl
 |.non,_,e=>by cases e
 |.bl _,_,e=>by cases e
 |.str _,_,e=>by cases e
 |.ref _,_,e=>by cases e
 |.fn _,_,e=>by cases e
theorem Cy:∀{ds:List D} {ps:List PyData},dH ds=some ps->vE ds=some ps
 | [],_,e=>e
 | d::ds,_,e=>by
   erw[dH] at e
   let#[p,a,e]:=aq e
   let#[ps,b,rfl]:=oQm.mp e
   erw[vE]
   rw[wQ a,Cy b]
   rfl
end
noncomputable def oz(ds:List D)(p:PyData):Bool:=ds.any λd=>match fj d with|some q=>PyData.eqv q p|none=>false
theorem wZ:∀{ds:List D} {ps:List PyData} {bs:X7} {p:PyData},dH ds=some ps->ps.length=bs.length->((List.zip ps bs).any λe=>PyData.eqv e.1 p)=oz ds p
 | [],_,bs,p,e,l=>by cases e;rfl
 | d::ds,_,bs,p,e,l=>by
   erw[dH] at e
   let#[q,a,e]:=aq e
   let#[ps,f,rfl]:=oQm.mp e
   cases bs with
   |nil=>simp at l
   | cons b bs=>
     let c:=wZ (p:=p) f (bs:=bs) (by simpa using l)
     rw[List.zip_cons_cons,List.any_cons,c]
     unfold oz
     rw[List.any_cons,a]
theorem uk:∀{ds:List D} {ps:List PyData},dH ds=some ps->ps.length=ds.length
 | [],_,e=>by cases e;rfl
 | d::ds,_,e=>by
   erw[dH] at e
   let#[q,b,e]:=aq e
   let#[ps,a,rfl]:=oQm.mp e
   simp[uk a]
theorem CW:∀{n:Nat} {ps:List PyData} {p:PyData},ST.lR n ps=true->ST.nu n p=true->ST.lR n (ps++ [p])=true
 |n,[],p,_,h=>by erw[List.nil_append,ST.lR,h];rfl
 | n,q::ps,p,h,hp=>by
   erw[ST.lR,QCq] at h
   erw[List.cons_append,ST.lR,QCq]
   show#[h.1,CW h.2 hp]
theorem zG:∀{ds:List D} {ps:List PyData} {d:D} {p:PyData},dH ds=some ps->fj d=some p->dH (ds++ [d])=some (ps++ [p])
 | [],_,d,p,e,e2=>by cases e;erw[List.nil_append,dH];rw[e2];rfl
 | c::ds,_,d,p,e,e2=>by
   erw[dH] at e
   let#[q,a,e]:=aq e
   let#[ps,b,rfl]:=oQm.mp e
   erw[List.cons_append,dH]
   rw[a,zG b e2]
   rfl
theorem CM:∀{ps:List PyData} {bs:X7} {p:PyData} {b:X8},ps.length=bs.length->List.zip (ps++ [p]) (bs++ [b])=List.zip ps bs++ [(p,b)]
 | [],[],_,_,_=>rfl
 |q::ps,c::bs,p,b,h=>by erw[List.cons_append,List.zip_cons_cons];rw[CM (by simpa using h)]
 | [],_::_,_,_,h=>by simp at h
 |_::_,[],_,_,h=>by simp at h
theorem BP:∀{ds:List D} {ps:List PyData} {bs:X7},aO M ρ H ds (bs.map V.ref)->dH ds=some ps->ST.lR 8 ps=true->Od H (List.zip ps bs)
 | [],_,_,_,e,_=>by cases e;intro e a;simp at a
 | d::ds,_,bs,h,e,hn=>by
   erw[dH] at e
   let#[q,c,e]:=aq e
   let#[ps,g,rfl]:=oQm.mp e
   erw[ST.lR,QCq] at hn
   cases bs with
   |nil=>cases h
   | cons b bs=>
     cases h with
     | cons h f=>
       intro e a
       rw[List.zip_cons_cons] at a
       rcases Qsq.mp a with rfl|a
       · show#[hn.1,wO h<|wQ c]
       · show BP f g hn.2 e a
noncomputable def Qk:aU:=λ_ S=>some (.ref S.length,S++ [.sett []])
def MK(r:Gl X "set")(l:X.mg "set"=none):PE X (.Call (.Name "set" p) [] [] i) (tD (md X) Qk):=jl (A1 DZ r l (by rfl)) λv H Q m=>by
 let#[h,t,S,d,s,ok,e,q]:=m
 cases e
 show#[L,λp g=>?_]
 have k:bB h H h (upd H p<|.ext (ST.cK p [])):=bB.laid g
 have n:p∉h:=cD bB.refl ok.st g
 let j:=(ok.st.lay (u:=.ext (ST.cK p [])) g).box (o:=.sett []) n #[[],[],aR,.nil,L,L]
 show q (h++ [p]) (.ref p) _ #[List.prefix_append _ _,λc f=>?_,k.keep,k.grow] j<|.ref ?_
 ·rcases mQa.mp f with f|f
  ·show .inl f
  ·rw[Qfq] at f;subst f;show .inr g
 ·rw[<-ok.st.len,QQq (Qmq _)]
  simp
noncomputable def Fi(f g:aU):aU:=λd S=>(f d S).bind λ(y,h)=>(g d h).bind λ(x,c)=>match x,y with
 | .ref k,.tup ys=>match c[k]? with
   |some (.sett ds)=>(fj<|.tup ys).bind λp=>if ST.nu 8 p=true/\ds.length<=5000 then some (.bl (!oz ds p),c) else none
   |_=>none
 |_,_=>none
def OT:∀(σ:List (Option V)) (H:Hp) (Q:V->Hp->Prop),tD (md X) (Fi f g) σ H Q->OA (tD (md X) f) (tD (md X) g) σ H Q:=λσ H Q I=>by
 let#[J,r,S,d,S',ok,e,q]:=I
 let#[#[y,t],N,e]:=aq e
 let#[#[x,G],C,e]:=aq e
 cases x with
 | ref k=>
   cases y with
   | tup ys=>
     dsimp only at e
     split at e
     · rename_i ds K
       let#[p,P,e]:=aq e
       split at e
       · rename_i c
         let#[rfl,rfl]:=bN e
         show#[J,r,S,_,t,ok,N,λm Z H1 u l j=>#[m,r,t,_,G,ok.to u l,C,λw v2 H2 s h M=>?_]]
         let j:=j.ext s
         cases M with
         | ref R=>
           let#[W,Y,B,o,n,A]:=h.obj k _ _ R K
           let hl:=o.length
           rw[lQm] at hl
           let z:=uk n
           let F:=wO j (wQ P)
           cases j with
           | tup U v=>
             show#[_,_,_,p,L,L,B,BP o n A,?_,F,c.1,?_]
             · rw[List.length_zip];omega
             · rw[wZ n (!0)]
               show q _ _ _ (u.trans s) h<|.bl _
       · cases e
     · cases e
   |_=>cases e
 |_=>cases e
def O_{X:Cx}(h:dX k X.A)(d:PE X a (tD (md X) f))(j:PE X b (tD (md X) g))(c:autoParam (behindInMarks .NotIn b=false) db._auto_1):PT X (.Compare a [.NotIn] [b] i) (tB (md X)<|aS<|Fi f g):=r_ OT (Gy (MV h.units d j) c)
noncomputable def HC(f g:aU):aU:=λh S=>(f h S).bind λ(x,d)=>match x with
 | .ref k=>match d[k]? with
   | some (.sett _)=>(g h d).bind λ(y,c)=>match y,c[k]? with
     |.tup ys,some (.sett ds)=>(fj<|.tup ys).bind λp=>if ST.nu 8 p=true/\ds.length<=5000 then some (.non,c.set k<|.sett (if oz ds p=true then ds else ds++ [.tup ys])) else none
     |_,_=>none
   |_=>none
 |_=>none
def FN{X:Cx}{s j:Pos}(hr:dX k X.A)(ho:PE X o (tD (md X) f))(ha:PE X e (tD (md X) g))(w:autoParam (attributeBase o "add" X.env (eval o X.env)=eval o X.env) db._auto_1)
  (N:autoParam (((backTo j (starEach [e] X.env)).all (λx=> !x.1)&&(backToKw j (keywordEach [] X.env)).all (λx=>x.1.isSome)
   &&decide ([e].length+([]:List Keyword).length+(if ([]:List Keyword).isEmpty then 0 else 1)<30))=true) db._auto_1)
  (B:autoParam ((s.endLine==j.line)=true) db._auto_1) (hs:autoParam (starEach [e] X.env= [(false,eval e X.env)]) db._auto_1):PE X (.Call (.Attribute o "add" s) [e] [] j) (tD (md X)<|HC f g):=
 jl (MH (IM hr.units) ho (bJ ha de hs) w N B hs) λσ H Q qq=>by
  let#[ρ,Γ,S,d,S',ok,e,q]:=qq
  let#[#[x,S1],e1,e]:=aq e
  cases x with
  | ref k=>
    dsimp only at e
    split at e
    · rename_i a4 a1
      let#[#[y,S2],e2,e]:=aq e
      dsimp only at e
      split at e
      · rename_i ys ds t
        let#[p,e3,e]:=aq e
        split at e
        · rename_i c
          let#[rfl,rfl]:=bN e
          show#[ρ,Γ,S,_,S1,ok,e1,λW v1 H1 x1 M r1=>?_]
          cases r1 with
          | ref hk=>
            rename_i l
            let#[a8,a7,g1,_]:=M.obj k l _ hk a1
            show#[#[_,_,L,g1],W,Γ,S1,_,S2,ok.to x1 M,e2,λr v2 H2 Y C r2=>?_]
            have m:r[k]?=some l:=cn Y.pre hk
            let#[K,G,h1,R,I,h4]:=C.obj k l _ m t
            let hl:=R.length
            rw[lQm] at hl
            let a6:=uk I
            let dt:=wO r2 (wQ e3)
            let a2:=r2
            cases r2 with
            | tup F a3=>
              rename_i U a5
              show#[l,U,List.zip G K,p,L,L,h1,BP R I h4,by rw[List.length_zip];omega,dt,c.1,?_]
              rw[wZ I (!0)]
              have ne:∀x,H2 l=some x->¬Qt x:=λx J=>by rw[h1] at J;cases J;show λz=>z
              have x3:∀u:HO,bB r H2 r (upd H2 l u):=λu=>by
                have ma:l∈r:=mQg m
                show#[List.prefix_refl _,λ_ h=>.inl h,λb x J c=>?_,λb F=>?_]
                · rw[aM]
                  · show J
                  · intro z
                    subst z
                    show c.elim (λn=>n ma) λim=>ne _ J im
                · by_cases z:b=l
                  · subst z;rw[aR] at F;cases F
                  · rw[aM z] at F;show F
              by_cases P:oz ds p=true
              · rw[Qhq P]
                rw[Qhq P] at q
                let#[v,Z]:=C.put (o':=.sett ds) (u:=.ext (ST.cK l<|List.zip G K)) m t #[K,G,aR,R.ext<|x3 _,I,h4] ne
                show q _ _ _ ((x1.trans Y).trans Z) v .non
              · rw[Quq P]
                rw[Quq P] at q
                rw[<-CM (!0)]
                let#[v,Z]:=C.put (o':=.sett (ds++ [.tup ys])) (u:=.ext (ST.cK l (List.zip (G++ [p]) (K++ [U])))) m t ⟨K++ [U],G++ [p],aR,by
                  rw[Qzq]
                  show(R.ext (x3 _)).append (.cons (a2.ext (x3 _)) .nil),zG I e3,CW h4 c.1⟩ ne
                show q _ _ _ ((x1.trans Y).trans Z) v .non
        · cases e
      · cases e
    · cases e
  |_=>cases e
def QX{S:az}{Q:D->az->Prop}(q:Q (.ref S.length) (S++ [.sett []])):E Qk a S Q:=#[_,_,L,q]
def Og{Q:D->az->Prop}(h:E f a S λy b=>E g a b λx S2=>∃k ys ds p,x=.ref k/\y=.tup ys/\S2[k]?=some (.sett ds)/\fj (.tup ys)=some p/\(ST.nu 8 p=true/\ds.length<=5000)/\Q (.bl (!oz ds p)) S2):E (Fi f g) a S Q:=by
 let#[y,b,c,x,S2,d,k,ys,ds,p,rfl,rfl,h1,h2,h3,q]:=h
 show#[_,_,by unfold Fi;rw[c];erw[Qbq];rw[d];erw[Qbq,h1,h2];rw[Qhq h3],q]
def K7{Q:D->az->Prop}(h:E f a S λx c=>∃k b,x=.ref k/\c[k]?=some (.sett b)/\E g a c λy S2=>∃ys ds p,y=.tup ys/\S2[k]?=some (.sett ds)/\fj (.tup ys)=some p/\(ST.nu 8 p=true/\ds.length<=5000)/\Q .non (S2.set k<|.sett (if oz ds p=true then ds else ds++ [.tup ys]))):E (HC f g) a S Q:=by
 let#[x,c,d,k,b,rfl,h0,y,S2,e2,ys,ds,p,rfl,h1,h2,h3,q]:=h
 show#[_,_,by unfold HC;rw[d];erw[Qbq,h0];rw[e2];erw[Qbq,h1,h2];rw[Qhq h3],q]
noncomputable def Oa(i:Nat)(f:aU):cH:=λc S=>match c[i]? with
 | some (some<|.int m)=>(f c S).bind λ(d,g)=>match d with
   |.int n=>some (.nx (c.set i<|some<|.int (m+n)) g)
   |_=>none
 |_=>none
def QE{X:Cx}(i:Nat)(A:X.N.Nodup)(he:PE X e (tD (md X) f))(hi:autoParam (X.N[i]?=some x) db._auto_1)(u:autoParam (Loc X.env.scope x) ef._auto_1)
  (p:autoParam (X.fn x=true\/X.env.scope.names.lookup x=some .local) cC._auto_1):PS X (.AugAssign (.Name x a) .Add e b) (tS (md X)<|Oa i f):=
 Dc (L5 A hi u he LW p) λD C H r=>by
  let#[s,t,S,o,ok,e,q]:=r
  unfold Oa at e
  split at e
  ·rename_i m w
   let#[#[d,z],y,e]:=aq e
   cases d with
   | int n=>
     cases e
     let#[v,l,j]:=ok.en.get i _ w
     cases j
     show#[_,l,s,t,S,_,z,ok,y,λg B H1 h c k=>?_]
     cases k
     show#[_,_,L,L,?_]
     show q g _ _ h #[(ok.en.ext h).set (.int _),c]
   |_=>cases e
  ·cases e
def Rn{Q:Out->Prop}(j:c[i]?=some (some<|.int m))(h:E f c S λd g=>∃n,d=.int n/\Q (.nx (c.set i<|some<|.int (m+n)) g)):T (Oa i f) c S Q:=by
 let#[d,g,k,n,rfl,q]:=h
 show#[_,by unfold Oa;rw[j];simp only;rw[k];rfl,q]
end DL
namespace L2
open PyProof.Rows
def GL(K:X1):List V->Hp->VK->Prop:=λd H Q=>∃(a:X8) (c:List Int),d= [.ref a]/\ji K H a (c.map V.int)/\c.length<64/\∀(l:X8) (b:List Int),H l=none->b.Pairwise (·<=·)->b.Perm c->Q (.ref l) (upd H l<|.lst (b.map V.int))
def xK(h:IntsAre vs ns):bo (ns.map V.int) vs:=by
 induction h with
 |nil=>show .nil
 |cons y t _ a=>show .cons #[t,L] a
def xj:dB X (.builtin "sorted") (GL X.K):=by
 intro m s A H z B Q I r h
 let#[a,j,rfl,ha,h64,q]:=h
 let#[u,rfl,rx]:=vals1 r
 cases (show u=Value.ref a from rx)
 let#[f,k,t,y]:=I.list ha
 have v:f.length=j.length:=by have:=k.length;simpa using this.symm
 have g:s.heap.objs.size<=s.heap.objs.size+1:=Nat.le_succ _
 show sorted_ints t.isList (intsAre_of k) (!0) λc d p l w=>?_
 let#[e,x]:=sortedAll_at s.heap f c
 have i:d.length=j.length:=l.length_eq
 show#[.ref (s.heap.objs.size+1),_,I.laid (a:=s.heap.objs.size+1) (o:=.lst (d.map V.int)) (h':=sortedAll s.heap f c) (t':=s.toks) (λb o n=>?_) g #[?_,c.toList,e,xK p,?_],L,q _ d (I.hok.fresh g) w l]
 ·show sortedAll_old n
 ·rw[lQm,i]
  show QAq (nQl h64) (!1)
 ·simpa using x
end L2
namespace DL
open L2
noncomputable def pL:List D->Option (List Int)
 | []=>some []
 | d::r=>match d with
   |.int i=>(pL r).bind λf=>some (i::f)
   |_=>none
theorem vQ:∀{ds:List D} {vs:List V} {f:List Int},aO M ρ H ds vs->pL ds=some f->vs=f.map V.int
 | [],_,_,h,e=>by cases h;cases e;rfl
 | d::ds,_,_,h,e=>by
   cases d with
   | int b=>
     erw[pL] at e
     let#[i,g,e]:=aq e
     cases e
     cases h with
     | cons h j=>
       cases h
       rw[vQ j g]
       rfl
   |_=>cases e
theorem sV:∀d:List Int,pL (d.map D.int)=some d
 | []=>rfl
 |i::d=>by erw[QDq,pL];rw[sV d];rfl
end DL
namespace DL
open PyProof.Rows L2
noncomputable def insI(x:Int):List Int->List Int
 | []=> [x]
 |y::r=>if x<=y then x::y::r else y::insI x r
noncomputable def fe:List Int->List Int
 | []=> []
 |x::r=>insI x (fe r)
theorem insI_perm(x:Int):∀l:List Int,(insI x l).Perm (x::l)
 | []=>List.Perm.refl _
 | y::r=>by
   unfold insI
   split
   · show List.Perm.refl _
   · show((insI_perm x r).cons y).trans (List.Perm.swap _ _ _)
theorem fR:∀l:List Int,(fe l).Perm l
 | []=>List.Perm.refl _
 |x::r=>(insI_perm x _).trans ((fR r).cons x)
theorem qp{x:Int}:∀{l:List Int},l.Pairwise (·<=·)->(insI x l).Pairwise (·<=·)
 | [],_=>by simp[insI]
 | y::r,h=>by
   rw[List.pairwise_cons] at h
   unfold insI
   split
   · rename_i c
     show List.pairwise_cons.mpr #[λz a=>?_,List.pairwise_cons.mpr h]
     rcases Qsq.mp a with rfl|a
     · show c
     · show Int.le_trans c (h.1 z a)
   · rename_i c
     show List.pairwise_cons.mpr #[λz a=>?_,qp h.2]
     rcases Qsq.mp ((insI_perm x r).mem_iff.mp a) with rfl|a
     · omega
     · show h.1 z a
theorem iS:∀l:List Int,(fe l).Pairwise (·<=·)
 | []=>List.Pairwise.nil
 |x::r=>qp (iS r)
section
variable{X:Cx}{a:Expr}{g:Pos}
noncomputable def IZ(f:dU):fI:=λd S=>(f d S).bind λ(p,c)=>if p.2.isL=true then(pL p.1).bind λb=>if b.length<64 then some ((fe b).map D.int,c) else none else none
def Np{f:dU}{p:Pos}(u:Gl X "sorted")(C:X.mg "sorted"=none)(G:PE X a (tQ (md X) f))(n:autoParam (starEach [a] X.env= [(false,eval a X.env)]) db._auto_1):
  PE X (.Call (.Name "sorted" p) [a] [] g) (tL (md X) (IZ f)):=
 jl (eV xj u C PyProof.Rows.boot_sorted (bJ G de n) (he:=n)) λK H Q z=>by
  let#[A,B,S,d,M,ok,e,q]:=z
  let#[#[#[v,t],I],F,e]:=aq e
  dsimp only at e
  split at e
  ·rename_i c
   let#[i,w,e]:=aq e
   split at e
   ·rename_i y
    let#[rfl,rfl]:=bN e
    show#[A,B,S,v,t,I,ok,F,λs a J N x o h r=>#[a,i,L,?_,y,λl j hl m k=>?_]]
    ·rw[<-vQ r w];show h.sqL c
    ·have:j=fe i:=List.Perm.eq_of_pairwise (le:=(·<=·)) (λa b _ _ m k=>by omega) m (iS i) (k.trans (fR i).symm)
     subst this
     show q _ _ _ _ (x.trans (bB.laid hl)) (o.lay hl) (x.grow _ hl) (cD x o hl) aR (ph _)
   ·cases e
  ·cases e
def LR{d:cf}{S:az}{f:dU}{Q:List D->az->Prop}(h:E f d S λp c=>p.2.isL=true/\∃b:List Int,p.1=b.map D.int/\b.length<64/\Q ((fe b).map D.int) c):E (IZ f) d S Q:=by
 let#[p,c,e,l,b,j,i,q]:=h
 show#[_,c,by unfold IZ;rw[e];erw[Qbq];rw[Qhq l,j,sV];erw[Qbq];rw[Qhq i],q]
end
end DL
namespace L2
open PyProof.Rows
end L2
namespace DL
open L2
end DL
namespace L2
open PyProof.Rows
def AZ(h:Xe)(v:Xd)(i:Int):Prop:=∃a o b n t,v=.ref a/\h.get? a=some o/\o.cls=.type "tuple" /\o.data=.seq b n/\b[0]?=some (.int i t)
section
variable{P:X9}{w:Xc}{A:X_}{E:X0}{s:X4}
def lD{xs:Xa}{v:Xd}(h:xs[0]?=some v):∃r,xs.toList=v::r:=by
 cases e:xs.toList with
 |nil=>have:=congrArg (·[0]?) e;simp[h] at this
 |cons u r=>have:=congrArg (·[0]?) e;simp[h] at this;show#[r,by rw[this]]
def Cr{v u:Xd}{i j:Int}{Q:X0}(m:A.units<cLine)(q:AZ s.heap v i)(l:AZ s.heap u j)(g:i≠j)(h:Q (.bool (decide (i<j))) s):wpAny (model P w) A (richCompare .Lt v u) Q E s:=by
 let#[a,o,C,n,t,rfl,h1,h2,h3,h4]:=q
 let#[b,p,G,y,c,rfl,g1,g2,g3,g4]:=l
 have d:s.TypeIs (.ref a) "tuple":=#[o,h1,h2]
 have f:s.TypeIs (.ref b) "tuple":=#[p,g1,g2]
 show wpAny_richCompare_same_room (op:=.Lt) d f F.slot_tuple_lt (wpAny_call_entry F.slot_tuple_lt d F.entry_tuple_lt ?_ (F.args_tuple_lt_2 _ _)) m
 show wpAny _ _ (isInstance (.ref b) (.type "tuple") >>= _) _ _ s
 show Qaq (wpAny_isInstance f isSubtype_tuple_tuple ?_)
 erw[Bool.not_true,Bool.false_eq_true,if_false]
 show Qaq (wpAny_tupleItemsOf h1 h3 (Qaq (wpAny_tupleItemsOf g1 g3 ?_)))
 let#[r,e]:=lD h4
 let#[B,k]:=lD g4
 rw[e,k,List.zip_cons_cons]
 show Qaq ?_
 rw[List.forIn_cons]
 show Qaq (Qaq (wpAny_eqBool_int ?_))
 rw[show(i==j)=false by simpa using g]
 erw[Bool.not_false,if_true]
 show Qaq (wpAny_rule (Qaq (richCompare_gives (op:=.Lt) (typeIs_int s _ t) (typeIs_int s _ c) F.slot_int_lt F.entry_int_lt (F.args_int_lt_2 _ _) (gives_int_lt _ _ t c) (λx=>nomatch x) ?_)))
 show Qaq (Qgq (Qgq (Qgq (Qgq #[_,L,#[(λz=>by cases z),h]]))))
def tX(h:Xe)(v:Xd)(p:Int×Str):Prop:=∃a o b n t c,v=.ref a/\h.get? a=some o/\o.cls=.type "tuple" /\o.data=.seq b n/\b= (List.toArray [.int p.1 t,.str p.2 c])
def tX.keep{h h':Xe}{v:Xd}{i:Int×Str}(x:tX h v i)(k:∀a o,v=.ref a->h.get? a=some o->h'.get? a=some o):tX h' v i:=by
 let#[a,o,c,n,t,b,rfl,h1,h2,h3,h4]:=x
 show#[a,o,c,n,t,b,L,k a o L h1,h2,h3,h4]
def tX.pr{h:Xe}{v:Xd}{p:Int×Str}(x:tX h v p):AZ h v p.1:=by
 let#[a,o,b,n,t,c,rfl,h1,h2,h3,h4]:=x
 show#[a,o,b,n,t,L,h1,h2,h3,by rw[h4];rfl]
def Hj{v u:Xd}{p c:Int×Str}{Q:X0}(j:A.units<cLine)(k:tX s.heap v p)(i:tX s.heap u c)(same:p.1=c.1->p.2=c.2)(h:Q (.bool (decide (p.1<c.1))) s):wpAny (model P w) A (richCompare .Lt v u) Q E s:=by
 by_cases d:p.1=c.1
 ·let e:=same d
  rw[d,Qdq (Int.lt_irrefl _)] at h
  let#[a,o,y,n,t,q,rfl,h1,h2,h3,h4]:=k
  let#[b,r,B,x,m,l,rfl,g1,g2,g3,g4]:=i
  have f:s.TypeIs (.ref a) "tuple":=#[o,h1,h2]
  have g:s.TypeIs (.ref b) "tuple":=#[r,g1,g2]
  show wpAny_richCompare_same_room (op:=.Lt) f g F.slot_tuple_lt (wpAny_call_entry F.slot_tuple_lt f F.entry_tuple_lt ?_ (F.args_tuple_lt_2 _ _)) j
  show wpAny _ _ (isInstance (.ref b) (.type "tuple") >>= _) _ _ s
  show Qaq (wpAny_isInstance g isSubtype_tuple_tuple ?_)
  erw[Bool.not_true,Bool.false_eq_true,if_false]
  show Qaq (wpAny_tupleItemsOf h1 h3 (Qaq (wpAny_tupleItemsOf g1 g3 ?_)))
  rw[h4,g4,d,e]
  show Qaq ?_
  show wpAny _ _ (forIn [(Value.int c.1 t,Value.int c.1 m),(Value.str c.2 q,Value.str c.2 l)] _ _) _ _ s
  rw[List.forIn_cons]
  show Qaq (Qaq (wpAny_eqBool_int ?_))
  rw[show(c.1==c.1)=true by simp]
  erw[Bool.not_true,Bool.false_eq_true,if_false]
  show Qgq ?_
  dsimp only
  rw[List.forIn_cons]
  show Qaq (Qaq (wpAny_eqBool_str ?_))
  rw[Qeq L]
  erw[Bool.not_true,Bool.false_eq_true,if_false]
  show Qgq ?_
  dsimp only
  rw[List.forIn_nil]
  show Qgq (Qgq #[_,L,#[λz=>?_,h]])
  cases z
 ·show Cr j k.pr i.pr d h
theorem nz(bt:Nat->Nat->Bool):∀j,argBest bt j<=j
 |0=>Qmq _
 | j+1=>by
   unfold argBest
   split
   · show Qmq _
   · show Nat.le_succ_of_le (nz bt j)
variable{I:X8}{fp m:X7}{n:Nat}{f:Nat->Value->Prop}{St:Nat->Heap->Prop}{R:Result->Shared->Prop}{G:Heap->Prop}
def Gg(W:Walks P w A.in1 I fp m n f St)(bt:Nat->Nat->Bool)(S:X8)(nf:S∉fp)(hG:∀h h':Heap,G h->(∀b o,b∉m->b≠S->h.get? b=some o->h'.get? b=some o)->G h')
  (hc:∀i j vi X (s:X4) (Q:X0) (E:X0),G s.heap->i≠j->f i vi->f j X->Q (.bool (bt i j)) s->wpAny (model P w) A.in1 (richCompare .Lt vi X) Q E s):
  ∀ (k j:Nat) (s:X4) (b:Xd) (c:Nat),n=j+1+k->St (j+1) s.heap->G s.heap->f (argBest bt j) b->s.heap.get? S=some (seqObj "list" (List.toArray [b,b]) c)->
    (∀v h' C,f (argBest bt (n-1)) v->(∀d o,d∉m->d≠S->s.heap.get? d=some o->h'.get? d=some o)->R (.ok (.ret v)) {s with heap:=h',toks:=C})->
    codeAny (model P w) A (.builtin "min.loop" #[[.ref I,.none,.ref S],[]]) R s:=by
 have Z:S∉m:=λz=>nf (W.sub _ z)
 have nm:(toString "min" ++toString ".loop":String)="min.loop":=by decide
 intro k
 induction k with
 | zero=>
   intro j s b c e U g pb B H
   show codeAny_builtin F.entry_min_loop ?_
   rw[Around.under_plainId F.plain_min_loop _]
   show wpAny _ A.in1 (seqItems? (.ref S) >>= _) _ _ s
   show Qaq (wpAny_seqItems B L ?_)
   show wpAny _ A.in1 (tryCatch (pyNext (.ref I)) _ >>= _) _ _ s
   show Qaq (wpAny_tryCatch (W.done s _ _ (by rw[e];show U) λh' C u=>?_))
   let a:=u S _ Z B
   show wpAny _ A.in1 (updateSeq S (λ_=> (List.toArray [])) >>= _) _ _ _
   show Qaq (wpAny_updateSeq a L (Qaq (wpAny_letGo (Qgq (H b _ C (by rw[e];show pb) λd o p l q=>?_)))))
   show(Heap.get?_update_other _ _ (Ne.symm l)).trans (u d o p q)
 | succ k ih=>
   intro j s b c e U g pb B H
   show codeAny_builtin F.entry_min_loop ?_
   rw[Around.under_plainId F.plain_min_loop _]
   show wpAny _ A.in1 (seqItems? (.ref S) >>= _) _ _ s
   show Qaq (wpAny_seqItems B L ?_)
   show wpAny _ A.in1 (tryCatch (pyNext (.ref I)) _ >>= _) _ _ s
   show Qaq (wpAny_tryCatch (W.item (j+1) s _ _ (!0) U λv h' C pv y u=>?_))
   let a:=u S _ Z B
   have M:G h':=hG _ _ g λd o p _ q=>u d o p q
   show wpAny _ A.in1 (tryCatch (holding [v,v] (richCompare .Lt v b >>= _)) _ >>= _) _ _ _
   show Qaq (wpAny_tryCatch (QLq (Qaq (hc (j+1) (argBest bt j) v b _ _ _ M (by have:=nz bt j;omega) pv pb ?_))))
   show Qaq (QLq (wpAny_truthy_bool (Qaq (wpAny_letGo (Qgq ?_)))))
   cases Y:bt (j+1) (argBest bt j) with
   | true=>
     erw[if_true]
     show Qaq (wpAny_updateSeq a L (Qaq (wpAny_letGo ?_)))
     rw[nm]
     have t:∀d o,d≠S->h'.get? d=some o->(h'.update S (Obj.mapSeq λ_=> (List.toArray [v,v]))).get? d=some o:=λd o l q=>(Heap.get?_update_other _ _ (Ne.symm l)).trans q
     show Qgq #[plainId_quiet F.plain_min_loop _,ih (j+1) _ v _ (!0) (W.frame _ _ _ y λd hd o q=>t d o (λz=>nf (z▸hd)) q) (hG _ _ M λd o _ l q=>t d o l q) (by erw[argBest,Y,if_true];show pv) (Heap.get?_update_self _ a L) λN J x K r=>?_]
     show H N J x K λd o p l q=>r d o p l (t d o l (u d o p q))
   | false=>
     erw[Bool.false_eq_true,if_false]
     show Qaq (wpAny_letGo ?_)
     rw[nm]
     show Qgq #[plainId_quiet F.plain_min_loop _,ih (j+1) _ b c (!0) y M (by erw[argBest,Y,Bool.false_eq_true,if_false];show pb) a λN J x K r=>?_]
     show H N J x K λd o p l q=>r d o p l (u d o p q)
def EK(W:Walks P w A.in1 I fp m n f St)(bt:Nat->Nat->Bool)(S:X8)(y:S∉fp)(x:∀h h':Heap,G h->(∀b o,b∉m->b≠S->h.get? b=some o->h'.get? b=some o)->G h')
  (hc:∀i j J B (s:X4) (Q:X0) (E:X0),G s.heap->i≠j->f i J->f j B->Q (.bool (bt i j)) s->wpAny (model P w) A.in1 (richCompare .Lt J B) Q E s) (Z:0<n) {c:Nat} (st:St 0 s.heap) (g:G s.heap)
  (H:s.heap.get? S=some (seqObj "list" (List.toArray []) c)) (hR:∀v h' C,f (argBest bt (n-1)) v->(∀d o,d∉m->d≠S->s.heap.get? d=some o->h'.get? d=some o)->R (.ok (.ret v)) {s with heap:=h',toks:=C}):
  codeAny (model P w) A (.builtin "min.loop" #[[.ref I,.none,.ref S],[]]) R s:=by
 have X:S∉m:=λz=>y (W.sub _ z)
 have nm:(toString "min" ++toString ".loop":String)="min.loop":=by decide
 show codeAny_builtin F.entry_min_loop ?_
 rw[Around.under_plainId F.plain_min_loop _]
 show wpAny _ A.in1 (seqItems? (.ref S) >>= _) _ _ s
 show Qaq (wpAny_seqItems H L ?_)
 show wpAny _ A.in1 (tryCatch (pyNext (.ref I)) _ >>= _) _ _ s
 show Qaq (wpAny_tryCatch (W.item 0 s _ _ Z st λv h' C pv u r=>?_))
 let k:=r S _ X H
 have U:G h':=x _ _ g λd o l _ q=>r d o l q
 have a:∀d o,d≠S->h'.get? d=some o->(h'.update S (Obj.mapSeq λ_=> (List.toArray [v,v]))).get? d=some o:=λd o e q=>(Heap.get?_update_other _ _ (Ne.symm e)).trans q
 show wpAny _ A.in1 (updateSeq S (λ_=> (List.toArray [v,v])) >>= _) _ _ _
 show Qaq (wpAny_updateSeq k L ?_)
 rw[nm]
 show Qgq #[plainId_quiet F.plain_min_loop _,Gg W bt S y x hc (n-1) 0 _ v _ (!0) (W.frame _ _ _ u λd K o q=>a d o (λz=>y (z▸K)) q) (x _ _ U λd o _ e q=>a d o e q) pv (Heap.get?_update_self _ k L) λY M t N p=>?_]
 show hR Y M t N λd o l e q=>p d o l e (a d o e (r d o l q))
def JZ{l:X8}{d:X5}{t:List (Int×Str)}{Q:X0}(hh:A.handled=none)(hu:A.units+2<cLine)(hl:s.heap.IsList l d.toArray)(U:∀i v,d[i]?=some v->tX s.heap v (t.getD i (0,"")))(nd:∀p∈t,∀q∈t,p.1=q.1->p.2=q.2)(u:d.length=t.length)(ne:0<d.length)
  (q:∀h' J,(∀b o,s.heap.get? b=some o->h'.get? b=some o)->Q (d.getD (argBest (λi j=>decide ((t.getD i (0,"")).1<(t.getD j (0,"")).1)) (d.length-1)) .none) {s with heap:=h',toks:=J}):wpAny (model P w) A (call (.builtin "min") [.ref l]) Q E s:=by
 have nm:(toString "min" ++toString ".loop":String)="min.loop":=by decide
 show call_function_tree F.kind_min F.plain_min F.entry_min (F.args_min1 _) ?_
 show wpAny _ A.in1 (Builtin.Builtins.bindParams "min" ["key","default"] 0 #[[],[]] >>= _) _ _ s
 show Qaq (wpAny_of_eq (show Builtin.Builtins.bindParams "min" ["key","default"] 0 #[[],[]]=pure [none,none] from L) (Qaq (Qgq ?_)))
 have S:l<s.heap.objs.size:=by let#[_,e,_]:=hl;show Qiq e
 show Qaq (wpAny_pyIter_list hl ?_)
 show Qaq (QhQ ?_)
 rw[nm]
 let W:=Walks.list (prog:=P) (w:=w) (A:=A.in1) (show A.in1.handled=none from hh) s.heap.objs.size l (Qwq S) d.toArray
 have sz:d.toArray.size=d.length:=by simp
 have H:(s.heap.push {cls:=.type "list_iterator",data:=.fields (List.toArray [.ref l,.int 0 0])}).objs.size=s.heap.objs.size+1:=by rw[Heap.size_push]
 have C:(s.heap.push {cls:=.type "list_iterator",data:=.fields (List.toArray [.ref l,.int 0 0])}).objs.size∉[s.heap.objs.size,l]:=by
  rw[H]
  erw[Qsq,QXq,or_false,not_or]
  show#[Nat.succ_ne_self _,λz=>Nat.lt_irrefl _ (Nat.lt_trans (Nat.lt_succ_self _) (z▸S))]
 generalize hb:(λi j=>decide ((t.getD i (0,"")).1<(t.getD j (0,"")).1))=bt at q
 have x:∀{h:Xe} {i:Nat} {v:Xd} {a:X8},d[i]?=some v->v=.ref a->a<s.heap.objs.size:=λ{h i v a} e z=>by
  let#[b,o,_,_,_,_,y,B,_]:=U i v e
  rw[z] at y
  cases y
  show Qiq B
 let go:=EK (P:=P) (w:=w) (A:=A) (G:=λh=>∀i v,d[i]?=some v->tX h v (t.getD i (0,""))) (R:=λr K=>match r with|.ok (.ret v)=>Q v K|.ok _=>False|.error e=>E e K) W bt _ C
  (s:={s with heap:=(s.heap.push {cls:=.type "list_iterator",data:=.fields (List.toArray [.ref l,.int 0 0])}).push {cls:=.type "list",data:=.seq (List.toArray [])}})
  (λh h' g k i v e=>(g i v e).keep λa o z q=>k a o (by erw[Qfq];show Qwq (x (h:=h) e z)) (by rw[H];show Qwq (Nat.lt_succ_of_lt (x (h:=h) e z))) q)
  (λi j Z M s1 Q1 E1 g ij p1 p2 N=>by
   have y:d[i]?=some Z:=by simpa using p1
   have B:d[j]?=some M:=by simpa using p2
   have X:i<t.length:=u▸(gQs.mp y).1
   have Y:j<t.length:=u▸(gQs.mp B).1
   show Hj (show A.in1.units<cLine from Nat.lt_of_le_of_lt (Nat.le_of_eq L) (Nat.lt_of_succ_lt hu)) (g i Z y) (g j M B) (nd _ ?_ _ ?_) (by rw[<-hb] at N;show N)
   ·rw[Qlq,gQe X];show List.getElem_mem X
   ·rw[Qlq,gQe Y];show List.getElem_mem Y)
  (by rw[sz];show ne) (c:=0) #[#[_,Qcq _ (Qrq _ L),L,L],(hl.push _).push _] (λi v e=>(U i v e).keep λa o z q=>Qcq _ (Qcq _ q)) (Qrq _ L) (λv h' J p k=>?_)
 ·show Qgq #[plainId_quiet F.plain_min_loop _,go]
 ·show Q v _
  have e:v=d.getD (argBest bt (d.length-1)) .none:=by
   rw[Qlq]
   have p:d[argBest bt (d.length-1)]?=some v:=by simpa using p
   rw[p]
   rfl
  rw[e]
  show q h' J λb o z=>k b o ?_ ?_ (Qcq _ (Qcq _ z))
  ·erw[Qfq]
   show Qwq (Qiq z)
  ·rw[H]
   show Qwq (Nat.lt_succ_of_lt (Qiq z))
end
inductive zx(H:Hp):List Addr->List (Int×Str)->Prop
 |nil:zx H [] []
 |cons {a:X8} {x:Int×Str} {rs:X7} {ss:List (Int×Str)}:H a=some (.tup [.int x.1,.str x.2])->zx H rs ss->zx H (a::rs) (x::ss)
theorem zx.len{H:Hp}:∀{rs:X7} {a:List (Int×Str)},zx H rs a->rs.length=a.length
 |_,_,.nil=>rfl
 |_,_,.cons _ r=>congrArg (·+1) r.len
inductive Ad(H:Hp):List Addr->List Int->Prop
 |nil:Ad H [] []
 |cons {a b:X8} {x:Int} {us ws:List V} {rs:X7} {ss:List Int}:H a=some (.tup (.ref b::ws))->H b=some (.tup (.int x::us))->Ad H rs ss->Ad H (a::rs) (x::ss)
theorem Ad.len{H:Hp}:∀{rs:X7} {a:List Int},Ad H rs a->rs.length=a.length
 |_,_,.nil=>rfl
 |_,_,.cons _ _ r=>congrArg (·+1) r.len
section
variable{X:Cx}
def Pj{b:X2}{σ:St}{H:Hp}{s:X4}(I:Inv X b σ H s){a:X8}{x:Int}{j:List V}(h:H a=some (.tup (.int x::j))):AZ s.heap (.ref a) x:=by
 let#[d,g,#[o,f,c,n,i],l]:=I.tuple (gh.of h)
 cases g with
 | cons e k=>
   let#[t,rfl]:=e
   show#[a,o,_,n,t,L,f,c,i,by simp]
def Oc{b:X2}{σ:St}{H:Hp}{s:X4}(I:Inv X b σ H s){a:X8}{x:Int×Str}(h:H a=some (.tup [.int x.1,.str x.2])):tX s.heap (.ref a) x:=by
 let#[g,k,#[o,j,d,n,l],m]:=I.tuple (gh.of h)
 cases k with
 | cons i c=>
   let#[t,rfl]:=i
   cases c with
   | cons e c=>
     let#[f,rfl]:=e
     cases c
     show#[a,o,_,n,t,f,L,j,d,l,L]
theorem C_{a:X2}{σ:St}{H:Hp}{s:X4}(I:Inv X a σ H s):∀{rs:X7} {b:List (Int×Str)},zx H rs b->∀i v,(rs.map Value.ref)[i]?=some v->tX s.heap v (b.getD i (0,""))
 |_,_,.nil,i,v,e=>by simp at e
 |_,_,.cons h r,0,v,e=>by cases e;show Oc I h
 |_,_,.cons h r,i+1,v,e=>by simpa using C_ I r i v (by simpa using e)
noncomputable def Om(a:List (Int×Str))(i j:Nat):Bool:=decide ((a.getD i (0,"")).1<(a.getD j (0,"")).1)
noncomputable def dS(a:List (Int×Str)):Nat:=argBest (Om a) (a.length-1)
def Ea(k:X.calm=true)(j:X.A.units+2<cLine):dB X (.builtin "min") (λxs H Q=>∃a rs b,xs= [.ref a]/\ji X.K H a (rs.map V.ref)/\zx H rs b/\(∀p∈b,∀q∈b,p.1=q.1->p.2=q.2)/\0<rs.length/\Q (.ref (rs.getD (dS b) 0)) H):=by
 intro c s n H xs o Q I r h
 let#[a,rs,b,rfl,ha,hF,hd,hn,q]:=h
 let#[u,rfl,rx]:=vals1 r
 cases (show u=Value.ref a from rx)
 let#[e,g,i,m]:=I.list ha
 cases oY g
 show JZ (I.ok.hd k) j i.isList (C_ I hF) hd (by rw[lQm];show hF.len) (by simpa using hn) λh' l d=>?_
 show#[.ref (rs.getD (dS b) 0),H,I.kept (h':=h') d,?_,q]
 show _=Value.ref _
 have f:dS b<rs.length:=by
  have:=nz (Om b) (b.length-1)
  have:=hF.len
  unfold dS
  omega
 rw[Qlq,Qlq,lQm,hF.len,gQm]
 show((rs[dS b]?).map Value.ref).getD _=_
 rw[gQe f]
 rfl
end
end L2
namespace Zp
open PySem PySem.W PyProof.Rows L2
def Ge:∀n:Nat,n<=4->2<=n->rS n (kas_sort n)=true/\(sy (λi j=>decide (i<j)) (kas_sort n)).toList=List.range n:=by
 intro n b a
 have:n=2\/n=3\/n=4:=by omega
 rcases this with rfl|rfl|rfl
 ·decide +kernel
 ·decide +kernel
 ·decide +kernel
def FA(h:Xe)(v:Xd)(i:Int):Prop:=∃a o b n p,v=.ref a/\h.get? a=some o/\o.cls=.type "tuple" /\o.data=.seq b n/\b[0]?=some p/\AZ h p i
inductive fY(h:Xe):List Value->List Int->Prop
 |nil:fY h [] []
 |cons {v:Xd} {i:Int} {vs:X5} {is:List Int}:FA h v i->fY h vs is->fY h (v::vs) (i::is)
theorem fY.len{h:Xe}:∀{vs:X5} {fs:List Int},fY h vs fs->vs.length=fs.length
 |_,_,.nil=>rfl
 |_,_,.cons _ r=>congrArg (·+1) r.len
def FA.keep{h h':Xe}{v:Xd}{i:Int}(k:∀a o,h.get? a=some o->o.cls=.type "tuple" ->h'.get? a=some o)(x:FA h v i):FA h' v i:=by
 let#[a,o,c,n,p,rfl,h1,h2,h3,h4,b,o',ys,m,t,rfl,g1,g2,g3,g4]:=x
 show#[a,o,c,n,_,L,k _ _ h1 h2,h2,h3,h4,b,o',ys,m,t,L,k _ _ g1 g2,g2,g3,g4]
theorem fY.keep{h h':Xe}(k:∀a o,h.get? a=some o->o.cls=.type "tuple" ->h'.get? a=some o):∀{vs:X5} {fs:List Int},fY h vs fs->fY h' vs fs
 |_,_,.nil=>.nil
 |_,_,.cons e r=>.cons (e.keep k) (r.keep k)
theorem fY.get{h:Xe}:∀{vs:X5} {fs:List Int} {i:Nat},fY h vs fs->i<fs.length->FA h (vs.getD i Value.none) (fs.getD i 0)
 |_,_,0,.cons e r,_=>e
 |_,_,i+1,.cons e r,hi=>by simpa using r.get (i:=i) (by simpa using hi)
 |_,_,_,.nil,hi=>by simp at hi
theorem fY.firsts{M:Model}{h:Xe}:∀{vs:X5} {fs:List Int},fY h vs fs->∃c:List Value,KatTups h vs c/\c.length=fs.length/\∀v∈c,Looks M h (typeOf v) (.type "tuple")
 |_,_,.nil=>#[[],KatTups.nil,L,by simp]
 | _,_,.cons e r=>by
   let#[c,k,l,m]:=r.firsts (M:=M)
   let#[a,o,f,n,p,rfl,h1,h2,h3,h4,b,o',ys,m',t,rfl,g1,g2,g3,g4]:=e
   show#[_::c,KatTups.cons h1 h2 h3 h4 k,by simp[l],λv d=>?_]
   rcases Qsq.mp d with rfl|z
   · have:=show Looks M h (typeOf (.ref b)) o'.cls from(Looks.ld g1).andThen .now
     rw[g2] at this
     show this
   · show m v z
section
variable{prog:X9}{w:Xc}{A:X_}{E:X0}{s:X4}
def JQ{v u:Xd}{i j:Int}{Q:Xf}(m:A.units<cLine)(q:AZ s.heap v i)(l:AZ s.heap u j)(d:i≠j)(h:Q false s):wpAny (model prog w) A (eqBool v u) Q E s:=by
 let#[a,o,C,n,t,rfl,h1,h2,h3,h4]:=q
 let#[b,p,G,x,B,rfl,g1,g2,g3,g4]:=l
 have f:s.TypeIs (.ref a) "tuple":=#[o,h1,h2]
 have g:s.TypeIs (.ref b) "tuple":=#[p,g1,g2]
 have c:¬(Value.ref a==Value.ref b)=true:=λz=>by
  have e:a=b:=by have:=eq_of_beq z;injection this
  subst e
  rw[h1] at g1
  cases g1
  rw[h3] at g3
  cases g3
  rw[h4] at g4
  cases g4
  show d L
 unfold eqBool
 try with_reducible show QLq ?_
 show wpAny _ _ (if (Value.ref a==Value.ref b)=true then _ else _) Q E s
 rw[Quq c]
 show Qaq (wpAny_richCompare_same_room (op:=.Eq) f g F.slot_tuple_eq (wpAny_call_entry F.slot_tuple_eq f F.entry_tuple_eq ?_ (F.args_tuple_eq_2 _ _)) m)
 show wpAny _ _ (isInstance (.ref b) (.type "tuple") >>= _) _ _ s
 show Qaq (wpAny_isInstance g isSubtype_tuple_tuple ?_)
 erw[Bool.not_true,Bool.false_eq_true,if_false]
 show Qaq (wpAny_tupleItemsOf h1 h3 (Qaq (wpAny_tupleItemsOf g1 g3 ?_)))
 let#[r,e]:=lD h4
 let#[y,k]:=lD g4
 rw[e,k,List.zip_cons_cons]
 show Qaq ?_
 rw[List.forIn_cons]
 show Qaq (Qaq (wpAny_eqBool_int ?_))
 rw[show(i==j)=false by simpa using d]
 erw[Bool.not_false,if_true]
 show Qaq (Qgq (Qgq (Qgq (Qgq ⟨_,L,⟨(λz=>by cases z),wpAny_truthy_bool h⟩⟩))))
def Bc{a:X8}{vs:X5}{fs:List Int}{n:Nat}{P:PySem.Fin->Shared->Prop}(Y:A.units<cLine)(B:s.heap.get? a=some (seqObj "list" vs.toArray n))(h3:vs.length<=4)(ht:fY s.heap vs fs)(hd:fs.Pairwise (·<·))
  (q:P (.done (.ret .none)) {s with heap:=sortedHeap s.heap a vs vs.toArray}):wpAny (model prog w) A (Builtin.«list.sort» ⟨[.ref a],[]⟩) P E s:=by
 rw[list_sort_plain]
 have sl:vs.length<=sizeLine:=by rw[sizeLine_eq];omega
 show Qaq (listItems_at B L (Qaq (listUpdate_at B L ?_ (by rw[Qjq];show sl) (Nat.zero_le _))))
 obtain⟨I,u⟩:∃I,(s.heap.update a (Obj.mapSeq λ_=> (List.toArray []))).get? a=some (seqObj "list" (List.toArray []) I):=#[_,get?_update_seq B (λ_=> (List.toArray []))]
 show Qaq (seqEpoch_at u L (Qaq (wpAny_newTuple ?_ (by show vs.length<=_;show sl))))
 show Qaq (wpAny_newList (QLq ?_) (Nat.zero_le _))
 generalize m:((s.heap.update a (Obj.mapSeq λ_=> (List.toArray []))).push (seqObj "tuple" vs.toArray 0)).push (seqObj "list" (List.toArray []) 0)=h1
 have f:h1.get? a=some (seqObj "list" (List.toArray []) I):=by rw[<-m];show Qcq _ (Qcq _ u)
 have l:fY h1 vs fs:=ht.keep λb o e c=>by
  have nb:b≠a:=λz=>by rw[z,B] at e;cases e;simp[seqObj] at c
  rw[<-m]
  show Qcq _ (Qcq _ (by rw[Heap.get?_update_ne _ _ _ _ nb];show e))
 have q:P (.done (.ret .none)) {s with heap:=h1.update a (Obj.mapSeq λ_=>vs.toArray)}:=by rw[<-m];show q
 show(?_:wpAny (model prog w) A _ P E {s with heap:=h1})
 dsimp only
 by_cases t:vs.toArray.size<2
 ·rw[Qhq t,Qhq t]
  show Qaq (Qgq ?_)
  rw[StateT.run_pure]
  show Qaq (Qgq ?_)
  dsimp only
  have U:((vs.toArray.zip vs.toArray).map (·.2))=vs.toArray:=by
   apply Array.toList_inj.mp
   simp
   show List.map_snd_zip (Qmq _)
  show Qaq (seqEpoch_at f L (Qaq (listUpdate_at f L ?_ (hsz2:=QAq (Nat.le_of_eq (congrArg Array.size U)) (by rw[Qjq];omega)))))
  erw[bne_self_eq_false,Bool.false_eq_true,if_false]
  rw[<-U] at q
  show Qgq q
 ·rw[Quq t,Quq t]
  have hn:2<=vs.length:=by simpa using t
  let#[gs,kt,lg,mg]:=l.firsts (M:=model prog w)
  let lf:=ht.len
  show Qaq (kat_kind (T:=.type "tuple") kt (!0) mg L ?_)
  rw[show((Value.type "tuple") !=Value.type "tuple")=false from L]
  let#[ok,rng]:=Ge vs.length h3 hn
  have N:SortSt.mk' (tuples' false) (vs.toArray.zip vs.toArray) (List.toArray []) 7 none=kas_st (tuples' false) (pairsOf vs) (List.toArray (List.range vs.length)):=by
   let e:=kas_range (pairsOf vs)
   rw[pairsOf_size] at e
   show(?_:SortSt.mk' (tuples' false) (pairsOf vs) (List.toArray []) 7 none=SortSt.mk' (tuples' false) ((List.toArray (List.range vs.length)).map (kas_item (pairsOf vs))) (List.toArray []) 7 none)
   rw[e]
  show(?_:wpAny (model prog w) A (StateT.run sortRuns' (SortSt.mk' (tuples' false) (vs.toArray.zip vs.toArray) (List.toArray []) 7 none) >>= _) P E _)
  rw[N]
  let H:=kas_runs (prog:=prog) (w:=w) (A:=A) (E:=E) (κ:=tuples' false) (it:=pairsOf vs) (n:=vs.length) (s:={s with heap:=h1})
   (G:=λp v=>p=sy (λi j=>decide (i<j)) (kas_sort vs.length)/\v={s with heap:=h1})
   (Q:=λ_ d v=>v={s with heap:=h1}/\failedOf d=none/\∃p,p=sy (λi j=>decide (i<j)) (kas_sort vs.length)/\arrOf d=p.map (kas_item (pairsOf vs)))
   hn (!0) (λp' d v a1 a2 a3 X=>#[X.2,a3,p',X.1,a2]) (xx (n:=vs.length) (λi j C hi hj J hC=>?_) _ ok #[L,L])
  ·show Qaq (QRq H ?_ λ_ _ e=>e)
   rintro⟨⟨⟩,d⟩ v ⟨rfl,hf,p,hp,har⟩
   dsimp only
   have g:(arrOf d).map (·.2)=vs.toArray:=by
    apply Array.toList_inj.mp
    rw[har,Array.map_map,Array.toList_map,hp,rng]
    show List.ext_getElem (by simp) λk g1 g2=>?_
    rw[List.getElem_map,List.getElem_range]
    show(kas_item (pairsOf vs) k).2=_
    rw[kas_item_eq]
    have:k<vs.length:=by simpa using g1
    simp[Qlq,this]
   show Qaq (seqEpoch_at f L (Qaq (listUpdate_at f L ?_ (hsz2:=QAq (Nat.le_of_eq (congrArg Array.size g)) (by rw[Qjq];omega)))))
   rw[hf]
   erw[bne_self_eq_false,Bool.false_eq_true,if_false]
   rw[<-g] at q
   show Qgq q
  ·unfold kas_cmp
   rw[kas_item_eq,kas_item_eq]
   let#[x,ox,xs,nx,px,ex,gx,cx,dx,fx,S]:=l.get (i:=i) (!0)
   let#[y,oy,ys,ny,py,ey,gy,cy,dy,fy,Z]:=l.get (i:=j) (!0)
   dsimp only
   rw[ex,ey]
   have h:i<fs.length:=by omega
   have r:j<fs.length:=by omega
   have gi:fs.getD i 0=fs[i]:=by rw[Qlq,gQe h];rfl
   have gj:fs.getD j 0=fs[j]:=by rw[Qlq,gQe r];rfl
   have K:decide (fs.getD i 0<fs.getD j 0)=decide (i<j)/\fs.getD i 0≠fs.getD j 0:=by
    rw[gi,gj]
    rcases Nat.lt_or_gt_of_ne J with c|c
    ·have:=List.pairwise_iff_getElem.mp hd i j h r c
     show#[by simp[this,c],by omega]
    ·have:=List.pairwise_iff_getElem.mp hd j i r h c
     show#[by erw[decide_eq_decide];omega,by omega]
   show kat_lt gx dx gy dy ?_
   let#[xr,R]:=lD fx
   let#[yr,F]:=lD fy
   rw[R,F,List.zip_cons_cons]
   show kat_cons (JQ Y S Z K.2 (kat_no ?_))
   show kat_one _ _ (Cr (Q:=W.BoolBack C) Y S Z K.2 ?_)
   rw[K.1]
   show hC
def Br{l:X8}{vs:X5}{fs:List Int}{Q:X0}(h:A.units+2<cLine)(hl:s.heap.IsList l vs.toArray)(i:vs.length<=4)(ht:fY s.heap vs fs)(g:fs.Pairwise (·<·))
  (q:Q (.ref (s.heap.objs.size+1)) {s with heap:=sortedAll s.heap vs vs.toArray}):wpAny (model prog w) A (call (.builtin "sorted") [.ref l]) Q E s:=by
 have sl:vs.length<=sizeLine:=by rw[sizeLine_eq];omega
 show Calls.call_function_entry kind_sorted plain_sorted entry_sorted (args_sorted1 _) ?_
 unfold Builtin.«sorted»
 show Qaq (m:=checkCount "sorted" 1 1 _) (Qgq (Qaq (collect_list hl (Qaq (wpAny_newList ?_ sl)) sl)))
 generalize a:(s.heap.push (seqObj "list" (List.toArray []) 0)).update s.heap.objs.size (Obj.mapSeq (·++vs.toArray))=h0
 have f:h0.objs.size=s.heap.objs.size+1:=by rw[<-a,Heap.size_update,size_push']
 have d:(h0.push (seqObj "list" vs.toArray 0)).get? (s.heap.objs.size+1)=some (seqObj "list" vs.toArray 0):=by
  rw[<-f]
  show Qrq _ L
 have c:fY (h0.push (seqObj "list" vs.toArray 0)) vs fs:=ht.keep λb o e _=>by
  show Qcq _ ?_
  rw[<-a,Heap.get?_update_ne _ _ _ _ (Qwq (Qiq e))]
  show Qcq _ e
 show(?_:wpAny _ _ _ _ _ {s with heap:=h0.push (seqObj "list" vs.toArray 0)})
 rw[f]
 show Qaq (QLq (wpAny_call_entry slot_list_sort #[_,d,L] entry_list_sort (Bc (show _<cLine from Nat.lt_of_le_of_lt (Qmq (A.units+2)) h) d i c g #[_,L,?_]) (args_list_sort _)))
 show Qgq #[_,L,?_]
 rw[<-a]
 show q
end
end Zp
namespace L2
open PyProof.Rows
section
variable{X:Cx}
theorem Dv{a:X2}{σ:St}{H:Hp}{s:X4}(I:Inv X a σ H s):∀{rs:X7} {b:List Int},Ad H rs b->Zp.fY s.heap (rs.map Value.ref) b
 |_,_,.nil=>.nil
 | _,_,.cons h g r=>by
   show .cons ?_ (Dv I r)
   let#[c,j,#[o,f,d,n,i],l]:=I.tuple (gh.of h)
   cases j with
   | cons e k=>
     cases e
     show#[_,o,_,n,_,L,f,d,i,by simp,Pj I g]
def xP(k:X.A.units+2<cLine):dB X (.builtin "sorted") (λxs H Q=>∃a rs c,xs= [.ref a]/\ji X.K H a (rs.map V.ref)/\rs.length<=4/\Ad H rs c/\c.Pairwise (·<·)/\∀l:Addr,H l=none->Q (.ref l) (upd H l (.lst (rs.map V.ref)))):=by
 intro d s p H xs t Q I r h
 let#[a,rs,c,rfl,ha,h3,hF,hd,q]:=h
 let#[u,rfl,rx]:=vals1 r
 cases (show u=Value.ref a from rx)
 let#[g,i,j,n]:=I.list ha
 cases oY i
 show Zp.Br k j.isList (by simpa using h3) (Dv I hF) hd ?_
 let#[e,m]:=sortedAll_at s.heap (rs.map Value.ref) (rs.map Value.ref).toArray
 show#[.ref (s.heap.objs.size+1),_,I.laid (a:=s.heap.objs.size+1) (o:=.lst (rs.map V.ref)) (h':=sortedAll s.heap (rs.map Value.ref) (rs.map Value.ref).toArray) (t':=s.toks) (λb o f=>sortedAll_old f) (Nat.le_succ _) #[?_,rs.map Value.ref,e,ui rs,?_],L,q _ (I.hok.fresh (Nat.le_succ _))]
 ·rw[lQm]
  show QAq h3 (!1)
 ·simpa using m
end
end L2
namespace DL
open PyProof.Rows L2
noncomputable def mf:List D->Option (List (Int×Str))
 | []=>some []
 | d::r=>match d with
   |.tup [.int i,.str x]=>(mf r).bind λa=>some ((i,x)::a)
   |_=>none
theorem vB{M:Md}{ρ:X7}{H:Hp}:∀{ds:List D} {vs:List V} {b:List (Int×Str)},aO M ρ H ds vs->mf ds=some b->∃rs:List Addr,vs=rs.map V.ref/\zx H rs b
 | [],_,_,h,e=>by cases h;cases e;show#[[],L,.nil]
 | d::ds,_,_,h,e=>by
   erw[mf] at e
   split at e
   · let#[b,c,e]:=aq e
     cases e
     cases h with
     | cons h k=>
       let#[rs,rfl,f]:=vB k c
       cases h with
       | tup g a=>
         cases a with
         | cons i a=>
           cases i
           cases a with
           | cons j a=>
             cases j
             cases a
             show#[_::rs,L,.cons (x:=(_,_)) g f]
   · cases e
theorem rO:∀l:List (Int×Str),mf (l.map λp=>.tup [.int p.1,.str p.2])=some l
 | []=>rfl
 |p::l=>by erw[QDq,mf];rw[rO l];rfl
noncomputable def mL:List D->Option (List Int)
 | []=>some []
 | d::r=>match d with
   |.tup (.tup (.int i::_)::_)=>(mL r).bind λa=>some (i::a)
   |_=>none
theorem vA{M:Md}{ρ:X7}{H:Hp}:∀{ds:List D} {vs:List V} {a:List Int},aO M ρ H ds vs->mL ds=some a->∃rs:List Addr,vs=rs.map V.ref/\Ad H rs a
 | [],_,_,h,e=>by cases h;cases e;show#[[],L,.nil]
 | d::ds,_,_,h,e=>by
   erw[mL] at e
   split at e
   · let#[a,g,e]:=aq e
     cases e
     cases h with
     | cons h m=>
       let#[rs,rfl,f]:=vA m g
       cases h with
       | tup i c=>
         cases c with
         | cons j c=>
           cases j with
           | tup l b=>
             cases b with
             | cons k b=>
               cases k
               show#[_::rs,L,.cons i l f]
   · cases e
section
variable{X:Cx}{a:Expr}{b:Pos}
open Classical in
noncomputable def Ju(f:dU):aU:=λe S=>(f e S).bind λ(p,d)=>if p.2.isL=true then(mf p.1).bind λc=>if (∀p∈c,∀q∈c,p.1=q.1->p.2=q.2)/\0<c.length then some (p.1.getD (dS c) .non,d) else none else none
def M6{f:dU}{p:Pos}{k:Nat}(G:dX k X.A)(W:X.calm=true)(w:Gl X "min")(K:X.mg "min"=none)(P:PE X a (tQ (md X) f))(n:autoParam (starEach [a] X.env= [(false,eval a X.env)]) db._auto_1):
  PE X (.Call (.Name "min" p) [a] [] b) (tD (md X) (Ju f)):=
 jl (eV (Ea W (by have:=G.units;omega)) w K (by rfl) (bJ P de n) (he:=n)) λZ H Q C=>by
  let#[F,I,S,d,S',ok,e,q]:=C
  let#[#[#[j,t],R],M,e]:=aq e
  dsimp only at e
  split at e
  ·rename_i c
   let#[g,y,e]:=aq e
   split at e
   ·rename_i B
    let#[rfl,rfl]:=bN e
    show#[F,I,S,j,t,R,ok,M,λu a Y H' x J h r=>?_]
    let#[l,rfl,hF]:=vB r y
    let hl:=hF.len
    have m:dS g<l.length:=by
     have:=nz (Om g) (g.length-1)
     unfold dS
     omega
    show#[a,l,g,L,h.sqL c,hF,B.1,by omega,?_]
    have o:dS g<j.length:=by have:=r.length;rw[lQm] at this;omega
    let#[v,s,z]:=r.get (i:=dS g) (gQe o)
    rw[gQm,gQe m] at s
    cases s
    have N:j.getD (dS g) .non=j[dS g]:=by rw[Qlq,gQe o];rfl
    have U:l.getD (dS g) 0=l[dS g]:=by rw[Qlq,gQe m];rfl
    rw[U]
    show q _ _ _ x J ?_
    rw[N]
    show z
   ·cases e
  ·cases e
def LD{e:cf}{S:az}{f:dU}{Q:D->az->Prop}(h:E f e S λp d=>p.2.isL=true/\∃c:List (Int×Str),mf p.1=some c/\((∀p∈c,∀q∈c,p.1=q.1->p.2=q.2)/\0<c.length)/\Q (p.1.getD (dS c) .non) d):E (Ju f) e S Q:=by
 let#[p,d,g,l,c,j,i,q]:=h
 show#[_,d,by unfold Ju;rw[g];erw[Qbq];rw[Qhq l,j];erw[Qbq];rw[Qhq i],q]
noncomputable def Iq(f:dU):fI:=λe S=>(f e S).bind λ(p,d)=>if p.2.isL=true then(mL p.1).bind λc=>if c.length<=4/\c.Pairwise (·<·) then some (p.1,d) else none else none
def EY{f:dU}{p:Pos}{k:Nat}(y:dX k X.A)(m:Gl X "sorted")(C:X.mg "sorted"=none)(G:PE X a (tQ (md X) f))(g:autoParam (starEach [a] X.env= [(false,eval a X.env)]) db._auto_1):
  PE X (.Call (.Name "sorted" p) [a] [] b) (tL (md X) (Iq f)):=
 jl (eV (xP (by have:=y.units;omega)) m C PyProof.Rows.boot_sorted (bJ G de g) (he:=g)) λK H Q v=>by
  let#[w,z,S,d,M,ok,e,q]:=v
  let#[#[#[n,t],I],F,e]:=aq e
  dsimp only at e
  split at e
  ·rename_i c
   let#[B,o,e]:=aq e
   split at e
   ·rename_i s
    let#[rfl,rfl]:=bN e
    show#[w,z,S,n,t,I,ok,F,λj a J N x i h r=>?_]
    let#[u,rfl,hF]:=vA r o
    show#[a,u,B,L,h.sqL c,by have:=hF.len;omega,hF,s.2,λl hl=>?_]
    show q _ _ _ _ (x.trans (bB.laid hl)) (i.lay hl) (x.grow _ hl) (cD x i hl) aR (r.ext (bB.laid hl))
   ·cases e
  ·cases e
def LU{e:cf}{S:az}{f:dU}{Q:List D->az->Prop}(h:E f e S λp d=>p.2.isL=true/\∃c:List Int,mL p.1=some c/\(c.length<=4/\c.Pairwise (·<·))/\Q p.1 d):E (Iq f) e S Q:=by
 let#[p,d,g,l,c,j,i,q]:=h
 show#[_,d,by unfold Iq;rw[g];erw[Qbq];rw[Qhq l,j];erw[Qbq];rw[Qhq i],q]
end
end DL
namespace PySem
section
variable{prog:X9}{w:Xc}{A:X_}{E:X0}{s:X4}{r:X8}{a b c:Int}{t u v:Tok}{n:Nat}
def code_iadd_rng{R:Result->Shared->Prop}(j:A.handled=none)(k:IsRange s.heap r a b c t u v)(d:Builtin.Range.small a b c=true)(l:Builtin.Range.rangeSize a b c=n)(f:n<=2^24){S:X8}(m:s.heap.get? S=some {cls:=.type "list",data:=.seq (List.toArray [])})
  (p:∀h' h e g,(∀b o,b≠S->s.heap.get? b=some o->h'.get? b=some o)->h'.get? S=some {cls:=.type "list",dict:=none,data:=.seq e g,slots:= (List.toArray [])}->
   ItemsOf (λi v=>∃t,v=.int (a+i*c) t) e n->R (.ok (.ret (.ref S))) {s with heap:=h',toks:=h}):codeAny (model prog w) A (.builtin "list.__iadd__" #[[.ref S,.ref r],[]]) R s:=by
 show codeAny_builtin F.entry_list_iadd ?_
 rw[Around.under_plainId F.plain_list_iadd _]
 show wpAny_extend_range j k d l f S (.ref S) 0 m p
def wpAny_collect_rng{Q:List Value->Shared->Prop}(q:A.handled=none)(x:IsRange s.heap r a b c t u v)(f:Builtin.Range.small a b c=true)(y:Builtin.Range.rangeSize a b c=n)(g:n<=2^24)
  (m:∀(h':Xe) (j:Nat) (d:Xa),(∀b o,s.heap.get? b=some o->h'.get? b=some o)->ItemsOf (λi v=>∃t,v=.int (a+i*c) t) d n->Q d.toList {s with heap:=h',toks:=j}):wpAny (model prog w) A (collect (.ref r)) Q E s:=by
 unfold collect
 show Qaq (wpAny_runValue (codeAny_builtin F.entry_proto_collect ?_))
 rw[Around.under_plainId F.plain_proto_collect _]
 show wpAny _ A.in1 (newList [] >>= λl=>again (.builtin "list.__iadd__" #[[l,.ref r],[]])) _ _ s
 show Qaq (QhQ ?_)
 show Qgq #[plainId_quiet F.plain_list_iadd _,code_iadd_rng q (Qcq _ x) f y g (Qrq _ L) λh' j d z p k h=>?_]
 show wpAny _ A (load s.heap.objs.size >>= _) _ _ _
 show Qaq (wpAny_load k ?_)
 show Qgq (m h' j d (λb o e=>p b o (Qwq (Qiq e)) (Qcq _ e)) h)
def code_tuple_new_rng{Q₁:X0}(x:A.handled=none)(p:IsRange s.heap r a b c t u v)(f:Builtin.Range.small a b c=true)(y:Builtin.Range.rangeSize a b c=n)(j:n<=2^24)
  (h:∀(h':Xe) (l:Nat) (d:Xa),(∀b o,s.heap.get? b=some o->h'.get? b=some o)->ItemsOf (λi v=>∃t,v=.int (a+i*c) t) d n->Q₁ (.ref h'.objs.size) {s with heap:=h'.push {cls:=.type "tuple",data:=.seq d},toks:=l}):
  codeAny (model prog w) A (.call (.builtin "tuple.__new__") #[[.type "tuple",.ref r],[]]) (wants Q₁ E) s:=by
 show codeAny_of_tree ?_
 show wpAny _ A.in1 (do checkBuiltinCall "tuple.__new__" #[[.type "tuple",.ref r],[]];again (.builtin "tuple.__new__" #[[.type "tuple",.ref r],[]])) _ _ s
 show Qaq (wpAny_of_eq (F.newCall_tuple_1 _) (Qgq #[plainId_quiet F.plain_tuple_new _,codeAny_builtin F.entry_tuple_new ?_]))
 rw[Around.under_plainId F.plain_tuple_new _]
 let q:=sub_tuple_self
 let m:=init_tuple_lookup
 let B:=madeHere_tuple
 have k:s.TypeIs (.ref r) "range":=#[_,p,L]
 wp_walk using wpAny_typeOf k,wpAny_collect_rng (A:=A.in1) (show A.in1.handled=none from x) p f y j
 intro h' l d z g
 show wpAny _ _ (Builtin.Tuple.tupleExact d.toList.toArray >>= λv=>ret v) _ _ _
 unfold Builtin.Tuple.tupleExact
 show Qaq (QhQ ?_ (by show d.toList.toArray.size<=sizeLine;erw[Array.toArray_toList];rw[g.1,sizeLine_eq];omega))
 show Qgq ?_
 have e:d.toList.toArray=d:=by simp
 rw[e]
 show h h' l d z g
def call_tuple_rng{Q:X0}(p:A.handled=none)(q:IsRange s.heap r a b c t u v)(f:Builtin.Range.small a b c=true)(x:Builtin.Range.rangeSize a b c=n)(j:n<=2^24)
  (m:∀(h':Xe) (l:Nat) (g:Xa),(∀b o,s.heap.get? b=some o->h'.get? b=some o)->ItemsOf (λi v=>∃t,v=.int (a+i*c) t) g n->Q (.ref h'.objs.size) {s with heap:=h'.push {cls:=.type "tuple",data:=.seq g},toks:=l}):
  wpAny (model prog w) A (call (.type "tuple") [.ref r]) Q E s:=by
 show callType_codes (Q₁:=λh d=>d.TypeIs h "tuple" /\Q h d) F.called_tuple (F.typeCall_tuple_1 _) F.entry_object_init
  (code_tuple_new_rng p q f x j λh' l g y k=>#[#[_,Qrq _ L,L],m h' l g y k]) λh d e=>?_
 show#[e.1,F.args_object_init_2 h _,object_init_meets F.called_tuple.init.lookup F.called_tuple.made (!1) prog w A.in1 _ d #[e.1,L,e.2]]
end
end PySem
namespace L2
open PyProof.Rows
def xo{X:Cx}(z:X.calm=true):dB X (.type "tuple") (λxs H Q=>∃p n,xs= [.ref p]/\H p=some (.rng 0 ((n:Nat):Int))/\n<=1000/\∀l,H l=none->Q (.ref l) (upd H l (.tup (upTo 0 n)))):=by
 intro i s A H xs B Q I r h
 let#[p,n,rfl,hp,hl,q]:=h
 let#[u,rfl,rx]:=vals1 r
 cases (show u=Value.ref p from rx)
 let#[t,u,v,e]:=(show bR X.prog X.w H s.heap p (.rng 0 n) from I.hok p _ hp)
 show call_tuple_rng (n:=n) (I.ok.hd z) (show IsRange s.heap p 0 n 1 t u v from e) (small_one (!0) (!0) (!0) (!0)) (by rw[rangeSize_one];split <;>omega) (!0) λh' f c m a=>?_
 have y:bo (upTo 0 n) c.toList:=DN (by simpa using a.1) λj w x=>by
  let#[t,k]:=a.2 j w (by simpa using x)
  show#[t,by rw[k];simp]
 let g:=I.kept (t':=f) m
 let d:=g.hok.fresh (Qmq h'.objs.size)
 show#[.ref h'.objs.size,_,g.laid (o:=.tup (upTo 0 n)) (h':=h'.push {cls:=.type "tuple",data:=.seq c}) (t':=f) (λb o e=>Qcq _ e) (Qmq _) #[by unfold upTo;rw[lQm,QVq];show QAq hl (!1),c.toList,y,by simpa using tF.new _ _],L,q _ d]
end L2
namespace DL
open PyProof.Rows L2
section
variable{X:Cx}{a:Expr}{p h g b:Pos}
noncomputable def zy(f:aU):aU:=λe S=>(f e S).bind λ(d,c)=>match d with
 |.int j=>if 0<=j/\j<=1000 then some (.tup (iY 0 j),c) else none
 |_=>none
def OW{f:aU}(N:X.calm=true)(w:Gl X "tuple")(F:X.mg "tuple"=none)(s:Gl X "range")(m:X.mg "range"=none)(I:PE X a (tD (md X) f))(u:autoParam (starEach [a] X.env= [(false,eval a X.env)]) db._auto_1)
  (k:autoParam (starEach [Expr.Call (.Name "range" h) [a] [] b] X.env= [(false,eval (Expr.Call (.Name "range" h) [a] [] b) X.env)]) db._auto_1):
  PE X (.Call (.Name "tuple" p) [.Call (.Name "range" h) [a] [] b] [] g) (tD (md X) (zy f)):=
 jl (oN (xo N) w F (by rfl) (bJ (oN Fg s m PyProof.Rows.boot_range (bJ I de u) (he:=u)) de k) (he:=k)) λP H Q y=>by
  let#[ρ,A,S,d,R,ok,e,q]:=y
  let#[#[z,J],G,e]:=aq e
  cases z with
  | int j=>
    dsimp only at e
    split at e
    · rename_i c
      let#[rfl,rfl]:=bN e
      show⟨ρ,A,S,.int j,J,ok,G,λi v K x C r=>?_⟩
      cases r
      obtain⟨n,rfl⟩:∃n:Nat,j=n:=#[j.toNat,by omega]
      show#[(n:Int),L,λp t=>#[p,n,L,aR,by omega,λl hl=>?_]]
      let B:=x.trans ((bB.laid (ρ:=i) (o:=.rng 0 (n:Int)) t).trans (bB.laid (o:=.tup (L2.upTo 0 n)) hl))
      show q _ _ _ B ((C.lay t).lay hl) (.tup aR ?_)
      have:=EM (M:=md X) (ρ:=i) (H:=upd (upd K p (.rng 0 (n:Int))) l (.tup (L2.upTo 0 n))) (lo:=0) (hi:=(n:Int))
      rwa [show(((n:Int)-0).toNat)=n by omega] at this
    · cases e
  |_=>cases e
end
end DL
namespace W28
open L2 DL
abbrev c7:=bf qT
abbrev eh(v:Nat)(k:Int):=bf qT (ar v) (cF<|.int k)
abbrev gS(v:Nat)(k:Int):=aw (bf qT (ar v)<|cF<|.int k)
abbrev FO(x:Str):=aw (cF<|.str x)
abbrev cb(k:Int):=cF (.int k)
abbrev aH(k:Nat):=aw (ar k)
abbrev oJ(k:Int):=aw (cF<|.int k)
def p7:cH:=
 (aC (a_ 2 (cb 0))
 (aC (h_ (aS (bf Nl (ar 1) (hZ (bL (ar 0))))) (a_ 2 (c7 (ar 0) (ar 1))) iP)
 (JK (ft (aw (bf lJ (Dm Gk (aH 2 ax)) (Dm intOfD (aw (bf Ro (Dm Gk (aH 2 ax)) (bf Ke (cb 10) (cb 18))) ax))) (aw (bf nk (bf lJ (bf bW (bf bW (bf nk (ar 2) (cb 2147483629)) (bf lJ (bf lJ (cb 7919) (ar 1)) (ar 1))) (cb 11)) (cb 48271)) (cb 2147483647)) (oJ 0 ax)))))))
def lE:dr:=ff 3 p7
def mG:cH:=
 (aC (h_ (aS (bf OU (eh 0 0) (cb 0))) (aC (a_ 2 (bf nk (eh 0 0) (ar 1)))
 (aC (oO (bf Ag (eh 0 0) (ar 1)) (MA (ar 0) (cb 0)))
 (cQ (ar 2)))) iP)
 (aC (oO (bf bW (eh 0 2) (cb 1)) (MA (ar 0) (cb 2)))
 (aC (oO (bf nk (bf bW (bf bW (bf lJ (eh 0 1) (cb 69621)) (bf lJ (cb 7919) (eh 0 2))) (cb 1)) (cb 2147483629)) (MA (ar 0) (cb 1)))
 (cQ (bf nk (bf Ag (bf nk (bf lJ (eh 0 1) (bf bW (bf nk (eh 0 1) (cb 40009)) (cb 3))) (cb 2147483587)) (cb 11)) (ar 1))))))
def bV:dr:=ff 3 mG
def kL:cH:=
 (aC (a_ 2 (cF (.str "abcdefghijklmnopqrstuvwxyz")))
 (aC (oO (bc (aw (aB bV (aH 0 (oJ 26 ax))) (aw (c7 (eR (ft (oJ 1 (oJ 3 (oJ 5 (oJ 7 (oJ 9 (oJ 11 ax)))))))) (aB bV (aH 0 (oJ 6 ax)))) ax))) (jS (nG 2 (aG (bS 3) (aG (bS 4) dG)))))
 (aC (a_ 5 (eR (cM [none,some 2,some 3,some 4] (qH (ar 1)) (bS 0) dZ (bf bW (c7 (ar 1) (bf nk (bf bW (ar 2) (bf lJ (ar 3) (ar 0))) (cb 26))) (c7 (eR (ft (FO "" (FO "zz" (FO "x" (FO "qqqqqqq" ax)))))) (bf nk (bf bW (ar 2) (ar 0)) (cb 4)))))))
 (JK (Dq (bL (ar 5)))))))
def fO:dr:=ff 6 kL
def jB:cH:=
 (aC (a_ 2 (bf bW (cb 1) (aB bV (aH 0 (aH 1 ax)))))
 (aC (a_ 3 (eR (cM [none,some 2] (qH (ar 2)) (bS 0) dZ (bf nk (bf bW (ar 0) (cb 1)) (ar 1)))))
 (JK (GK (bL (ar 3)) (lI (cM [none,some 1,some 2] (qH (bf E7 (ar 1) (ar 2))) (bS 0) dZ (bf bW (ar 2) (bf nk (bf bW (ar 0) (cb 1)) (Dm maxD (oJ 1 (aw (bf E7 (ar 1) (ar 2)) ax)))))))))))
def gH:dr:=ff 4 jB
def mh:cH:=
 (cQ<|tupQ<|lI<|cM [none,none] (rG<|bL<|ar 0) (jS<|nG 2<|aG (bS 0)<|aG (bS 1) dG) dZ<|ar 1)
def fD:dr:=ff 1 mh
def kF:cH:=
 (aC (oO (ar 0) (jS (nG 5 (aG (bS 1) (aG (bS 2) (aG (bS 3) (aG (bS 4) (aG (bS 5) dG))))))))
 (cQ (bc (aw (aB fD (aH 3 ax)) (aw (cF (.int (-1))) (aw (bc ax) (aw (bc ax) (aw (tupQ (lI (cM [none] (rG (bL (ar 4))) (bS 0) dZ (bc ax)))) ax))))))))
def iD:dr:=ff 6 kF
def BH:cH:=
 (aC (oO (ar 0) (jS (nG 4 (aG (bS 1) (aG (bS 2) (aG (bS 3) (aG (bS 4) dG)))))))
 (aC (a_ 5 (bc (aw (cF (.int (-1))) (aw (cF (.int (-1))) (oJ 0 (oJ 0 (oJ 0 ax)))))))
 (cQ (bc (aw (tupQ (lI (cM [none] (rG (bL (ar 1))) (bS 0) dZ (aB iD (aH 0 ax))))) (aw (tupQ (lI (cM [none,none] (rG (bL (ar 2))) (jS (nG 2 (aG (bS 0) (aG (bS 1) dG)))) dZ (bc (aH 1 (aw (bc ax) ax)))))) (aw (aB fD (aH 3 ax)) (aw (tupQ (lI (cM [none,none,some 5] (rG (bL (ar 4))) (jS (nG 2 (aG (bS 0) (aG (bS 1) dG)))) dZ (bc (aw (aB fD (aH 0 ax)) (aw (bc (aH 2 ax)) ax)))))) ax))))))))
def wV:dr:=ff 6 BH
def kB:cH:=
 (cQ<|c7 (c7 (c7 (eh 0 3)<|ar 1)<|cb 1)<|tN<|cb 1)
def cB:dr:=ff 2 kB
def kH:cH:=
 (aC (yp 3 4 (gS 2 0 (gS 2 1 ax)))
 (aC (h_ (aS (bf (gJ false) (ar 3) (cF (.int (-1))))) (cQ (c7 (c7 (eh 0 3) (ar 1)) (cb 1))) iP)
 (cQ (c7 (c7 (c7 (c7 (eh 0 0) (ar 3)) (cb 4)) (ar 4)) (cb 1)))))
def eN:dr:=ff 5 kH
def o7:cH:=
 (JK<|cM [none] (rG<|bL<|ar 0) (bS 0) dZ<|eh 0 0)
def dD:dr:=ff 1 o7
def oX:cH:=
 (cQ<|Lv (lI<|dR dD<|aH 0 ax)<|ar 1)
def cP:dr:=ff 2 oX
def mH:cH:=
 (cQ<|bf bW (bf bW (sF (ar 0) uQ<|ub<|ar 1)<|bc<|aH 2 ax)<|sF (ar 0) (ub<|bf bW (ar 1)<|cb 1) uQ)
def cY:dr:=ff 3 mH
def my:cH:=
 (cQ<|bf bW (sF (ar 0) uQ<|ub<|cb 3)<|bc<|aw (aB cY<|gS 0 3<|aH 1<|aw (bc<|aH 2<|aH 3 ax) ax) ax)
def eK:dr:=ff 4 my
def mF:cH:=
 (cQ<|bf bW (bc<|aw (aB cY<|gS 0 0<|aH 1<|aH 2 ax) ax)<|sF (ar 0) (ub<|cb 1) uQ)
def cE:dr:=ff 3 mF
def jv:cH:=
 (aC (a_ 5 (c7 (aB cB (aH 1 (aH 2 ax))) (cb 0)))
 (aC (h_ (aS (bf (gJ true) (ar 5) (cF (.int (-1))))) (aC (a_ 6 (aB cP (aw (c7 (c7 (eh 0 0) (ar 5)) (cb 2)) (aH 3 ax))))
 (aC (a_ 7 (aB cY (aw (c7 (c7 (eh 1 0) (ar 5)) (cb 0)) (aH 6 (aH 4 ax)))))
 (cQ (aB cE (aH 1 (aH 5 (aw (bf bW (bc (aH 7 ax)) (sF (c7 (eh 1 0) (ar 5)) (ub (cb 1)) uQ)) ax))))))) iP)
 (aC (h_ (aS (JA false (ar 3) (lI (dR dD (gS 0 2 ax))))) (aC (a_ 8 (aB cY (gS 1 2 (aw (aB cP (gS 0 2 (aH 3 ax))) (aH 4 ax)))))
 (cQ (bc (gS 1 0 (gS 1 1 (aH 8 (gS 1 3 ax))))))) iP)
 (aC (oO (c7 (eh 1 3) (ar 2)) (jS (nG 2 (aG (bS 7) (aG (bS 9) dG)))))
 (aC (a_ 6 (aB cP (aw (c7 (c7 (eh 0 3) (ar 2)) (cb 0)) (aH 3 ax))))
 (cQ (aB eK (aH 1 (aH 2 (aw (aB cY (aH 7 (aH 6 (aH 4 ax)))) (aH 9 ax)))))))))))
def eJ:dr:=ff 10 jv
def iL:cH:=
 (aC (h_ (aS (bf (gJ false) (ar 0) (cF (.str "plus")))) (cQ (Dm minD (aw (bf bW (ar 1) (ar 2)) (aw (cF (.int (9))) ax)))) iP)
 (aC (h_ (aS (bf (gJ false) (ar 0) (cF (.str "minus")))) (cQ (Dm maxD (aw (bf E7 (ar 1) (ar 2)) (oJ 0 ax)))) iP)
 (aC (h_ (aS (bf (gJ false) (ar 0) (cF (.str "less")))) (cQ (tf (aS (bf Nl (ar 1) (ar 2))) (cb 1) (cb 0))) iP)
 (aC (h_ (aS (bf (gJ false) (ar 0) (cF (.str "same")))) (cQ (tf (aS (bf (gJ false) (ar 1) (ar 2))) (cb 1) (cb 0))) iP)
 (cQ (tf (r8 (aS (bf (gJ true) (ar 1) (cb 0))) (aS (bf (gJ true) (ar 2) (cb 0)))) (cb 1) (cb 0)))))))
def fK:dr:=ff 3 iL
def oQ(a:dr):cH:=
 (aC (h_ (kG (nQ "int" (ar 0))) (cQ (ar 0)) iP)
 (aC (h_ (kG (nQ "str" (ar 0))) (cQ (Ky (ar 1) (ar 0))) iP)
 (aC (h_ (aS (bf (gJ false) (eh 0 0) (cF (.str "waits")))) (cQ (tf (aS (bf OU (Ky (ar 2) (eh 0 1)) (cb 0))) (cb 1) (cb 0))) iP)
 (aC (a_ 3 (aB a (gS 0 1 (aH 1 (aH 2 ax)))))
 (aC (h_ (aS (bf (gJ false) (eh 0 0) (cF (.str "not")))) (cQ (tf (aS (bf (gJ false) (ar 3) (cb 0))) (cb 1) (cb 0))) iP)
 (cQ (aB fK (gS 0 0 (aH 3 (aw (aB a (gS 0 2 (aH 1 (aH 2 ax)))) ax))))))))))
def fB:Nat->dr
 |0=>λ_ _=>none
 |n+1=>ff 4 (oQ<|fB n)
def kZ:cH:=
 (aC (a_ 4 (aB cB (aH 1 (aH 2 ax))))
 (aC (a_ 5 (eh 4 0))
 (aC (h_ (aS (bf (gJ false) (ar 5) (cF (.int (-1))))) (aC (a_ 6 (Nw (lI (dR dD (gS 0 2 ax))) (bL (eh 1 2))))
 (aC (AG (J5 (ar 6) (Nw (lI (dR dD (aw (c7 (c7 (eh 0 3) (ar 2)) (cb 0)) ax))) (bL (c7 (c7 (eh 1 3) (ar 2)) (cb 0))))))
 (cQ (aB (fB 6) (aH 3 (aH 6 (aw PQ ax))))))) iP)
 (aC (a_ 6 (Nw (lI (dR dD (aw (c7 (c7 (eh 0 0) (ar 5)) (cb 2)) ax))) (bL (c7 (c7 (eh 1 0) (ar 5)) (cb 0)))))
 (aC (MO (ar 6) (cF (.str "given")) (eh 4 3))
 (aC (NL 7 (o9 [none,none] (Bx (lI (dR dD (aw (c7 (c7 (eh 0 0) (ar 5)) (cb 3)) ax))) (bL (c7 (c7 (eh 1 0) (ar 5)) (cb 4)))) (jS (nG 2 (aG (bS 0) (aG (bS 1) dG)))) dZ (ar 0) (hZ (bL (ar 1)))))
 (cQ (aB (fB 6) (aH 3 (aH 6 (aH 7 ax)))))))))))
def dh:dr:=ff 8 kZ
def xZ:cH:=
 (cQ<|aB eJ<|aH 0<|aH 1<|aH 2<|gS 3 1<|aw (aB dh<|aH 0<|aH 1<|aH 2<|gS 3 2 ax) ax)
def rE:dr:=ff 4 xZ
def fH:cH:=
 (aC (oO (c7 (eh 0 3) (ar 1)) (jS (nG 2 (aG (bS 3) (aG (bS 4) dG)))))
 (cQ (aB eK (aH 0 (aH 1 (aH 3 (aw (bf bW (sF (ar 4) uQ (ub (tN (cb 1)))) (bc (aH 2 ax))) ax)))))))
def dg:dr:=ff 5 fH
def xV:cH:=
 (aC (a_ 3 (aB cB (aH 0 (aH 1 ax))))
 (cQ (aB dg (aH 0 (aH 1 (aw (bf bW (bf bW (sF (ar 3) uQ (ub (cb 2))) (bc (aH 2 ax))) (sF (ar 3) (ub (cb 3)) uQ)) ax))))))
def jr:dr:=ff 4 xV
def mJ:cH:=
 (aC (h_ (aS (bf (gJ false) (aB dh (aH 0 (aH 1 (aH 2 (gS 3 1 ax))))) (cb 0))) (cQ (aB jr (aH 1 (aH 2 (gS 3 2 ax))))) iP)
 (cQ (ar 1)))
def jD:dr:=ff 4 mJ
def Bt:cH:=
 (cQ<|aB jr<|aH 1<|aH 2<|gS 3 1 ax)
def xa:dr:=ff 4 Bt
def uv:cH:=
 (aC (oO (c7 (eh 0 0) (ar 1)) (jS (nG 5 (aG (bS 3) (aG (bS 4) (aG (bS 5) (aG (bS 6) (aG (bS 7) dG))))))))
 (aC (h_ (aS (bf (gJ false) (ar 4) (cF (.int (-1))))) (cQ (aB cE (aH 0 (aH 1 (aw (bc (aH 3 (aH 2 (aH 5 (aH 6 (aH 7 ax)))))) ax))))) iP)
 (cQ (aB cE (aH 0 (aH 1 (aw (bc (aH 3 (aH 4 (aw (bf bW (ar 5) (bc (aH 2 ax))) (aH 6 (aH 7 ax)))))) ax)))))))
def kb:dr:=ff 8 uv
def A2:cH:=
 (aC (a_ 4 (aB cP (gS 0 0 (gS 3 2 ax))))
 (aC (a_ 5 (aB cP (aw (c7 (c7 (eh 0 0) (ar 4)) (cb 4)) (gS 3 3 ax))))
 (aC (a_ 6 (bc (aH 4 (aH 5 (oJ 0 (aw (aB dh (aH 0 (aH 1 (aH 2 (gS 3 4 ax))))) (oJ 0 ax)))))))
 (aC (oO (c7 (eh 1 3) (ar 2)) (jS (nG 2 (aG (bS 7) (aG (bS 8) dG)))))
 (cQ (aB kb (aw (aB eK (aH 1 (aH 2 (aH 7 (aw (bf bW (ar 8) (bc (aH 6 ax))) ax))))) (aH 4 (aH 2 ax)))))))))
def wI:dr:=ff 9 A2
def ue:cH:=
 (aC (a_ 4 (c7 (aB cB (aH 1 (aH 2 ax))) (cb 0)))
 (cQ (bc (aH 4 (aw (aB cP (aw (c7 (c7 (eh 0 0) (ar 4)) (cb 3)) (aH 3 ax))) ax)))))
def jf:dr:=ff 5 ue
def mz:cH:=
 (aC (a_ 4 (c7 (eh 0 0) (ar 1)))
 (cQ (aB cE (aH 0 (aH 1 (aw (bf bW (sF (ar 4) uQ (ub (cb 4))) (bc (aw (aB cY (gS 4 4 (aH 2 (aH 3 ax)))) ax))) ax))))))
def eF:dr:=ff 5 mz
def Bq:cH:=
 (aC (oO (c7 (eh 0 0) (ar 1)) (jS (nG 5 (aG (bS 2) (aG (bS 3) (aG (bS 4) (aG (bS 5) (aG (bS 6) dG))))))))
 (aC (h_ (kG (ar 5)) (cQ (aB cE (aH 0 (aH 1 (aw (bc (aH 2 (gS 5 0 (aH 4 (aw (sF (ar 5) (ub (cb 1)) uQ) (aH 6 ax)))))) ax))))) iP)
 (aC (h_ (kG (ar 4)) (cQ (aB cE (aH 0 (aH 1 (aw (bc (aH 2 (gS 4 0 (aw (sF (ar 4) (ub (cb 1)) uQ) (aH 5 (aH 6 ax)))))) ax))))) iP)
 (cQ (aB cE (aH 0 (aH 1 (aw (bc (aH 2 (aw (cF (.int (-1))) (aH 4 (aH 5 (aH 6 ax)))))) ax))))))))
def pV:dr:=ff 7 Bq
def sg:cH:=
 (aC (oO (aB jf (aH 0 (aH 1 (aH 2 (gS 3 1 ax))))) (jS (nG 2 (aG (bS 4) (aG (bS 5) dG)))))
 (aC (a_ 6 (cb 0))
 (aC (h_ (aS (bf (gJ false) (c7 (c7 (c7 (c7 (eh 0 0) (ar 4)) (cb 3)) (ar 5)) (cb 1)) (cF (.str "turns")))) (a_ 6 (aB dh (aH 0 (aH 1 (aH 2 (gS 3 2 ax)))))) iP)
 (aC (a_ 7 (c7 (c7 (c7 (eh 1 0) (ar 4)) (cb 4)) (ar 5)))
 (aC (a_ 8 (hZ (lI (cM [none,none,some 6] (rG (bL (ar 7))) (jS (nG 2 (aG (bS 0) (aG (bS 1) dG)))) (aS (bf Nn (ar 0) (ar 2))) (ar 0)))))
 (aC (a_ 9 (aB eF (aH 1 (aH 4 (aH 5 (aw (bf bW (bf bW (sF (ar 7) uQ (ub (ar 8))) (bc (aw (bc (aH 6 (aH 2 ax))) ax))) (sF (ar 7) (ub (ar 8)) uQ)) ax))))))
 (cQ (aB pV (aH 9 (aH 4 ax))))))))))
def nj:dr:=ff 10 sg
def uK:cH:=
 (aC (oO (aB jf (aH 0 (aH 1 (aH 2 (gS 3 1 ax))))) (jS (nG 2 (aG (bS 4) (aG (bS 5) dG)))))
 (aC (a_ 6 (c7 (c7 (c7 (eh 1 0) (ar 4)) (cb 4)) (ar 5)))
 (aC (h_ (zB (kG (ar 6))) (cQ (ar 1)) iP)
 (aC (a_ 7 (aB eF (aH 1 (aH 4 (aH 5 (aw (sF (ar 6) (ub (cb 1)) uQ) ax))))))
 (aC (h_ (aS (bf (gJ false) (c7 (c7 (eh 0 0) (ar 4)) (cb 1)) (cF (.str "when free")))) (cQ (ar 7)) iP)
 (aC (oO (c7 (eh 7 0) (ar 4)) (jS (nG 5 (aG (bS 8) (aG (bS 9) (aG (bS 10) (aG (bS 11) (aG (bS 12) dG))))))))
 (cQ (aB cE (aH 7 (aH 4 (aw (bc (aH 8 (aw (c7 (eh 6 0) (cb 1)) (aH 10 (aw (bf bW (ar 11) (bc (aH 2 ax))) (aH 12 ax)))))) ax)))))))))))
def nL:dr:=ff 13 uK
def xv:cH:=
 (aC (oO (aB jf (aH 0 (aH 1 (aH 2 (gS 3 1 ax))))) (jS (nG 2 (aG (bS 4) (aG (bS 5) dG)))))
 (cQ (aB eF (aH 1 (aH 4 (aH 5 (aw (bc ax) ax)))))))
def rC:dr:=ff 6 xv
def rT:cH:=
 (aC (a_ 4 (aB dh (aH 0 (aH 1 (aH 2 (gS 3 1 ax))))))
 (cQ (aB dg (aH 1 (aH 2 (aw (bf bW (sF (aB cB (aH 1 (aH 2 ax))) uQ (ub (cb 4))) (bc (aH 4 ax))) ax))))))
def nU:dr:=ff 5 rT
def mT:cH:=
 (cQ<|bf bW (bc<|gS 0 0<|aw (aB cY<|gS 0 1<|aH 1<|aH 2 ax) ax)<|sF (ar 0) (ub<|cb 2) uQ)
def eE:dr:=ff 3 mT
def Bd:cH:=
 (aC (a_ 4 (aB cP (gS 0 1 (aH 3 ax))))
 (aC (oO (c7 (eh 1 1) (ar 4)) (jS (nG 2 (aG (bS 5) (aG (bS 6) dG)))))
 (aC (h_ (aS (bf OU (ar 5) (cb 0))) (cQ (aB eE (aH 1 (aH 4 (aw (bc (aw (bf E7 (ar 5) (cb 1)) (aH 6 ax))) ax))))) iP)
 (cQ (aB eE (aH 1 (aH 4 (aw (bc (aH 5 (aw (bf bW (ar 6) (bc (aH 2 ax))) ax))) ax))))))))
def uq:dr:=ff 7 Bd
def rK:cH:=
 (cQ<|aB uq<|aH 0<|aH 1<|aH 2<|gS 3 1 ax)
def oh:dr:=ff 4 rK
def kd:cH:=
 (aC (a_ 3 (aB cP (gS 0 1 (aH 2 ax))))
 (aC (oO (c7 (eh 1 1) (ar 3)) (jS (nG 2 (aG (bS 4) (aG (bS 5) dG)))))
 (aC (h_ (kG (ar 5)) (cQ (aB eE (aH 1 (aH 3 (aw (bc (aH 4 (aw (sF (ar 5) (ub (cb 1)) uQ) ax))) ax))))) iP)
 (cQ (aB eE (aH 1 (aH 3 (aw (bc (aw (Dm minD (aw (bf bW (ar 4) (cb 1)) (aw (cF (.int (9))) ax))) (aH 5 ax))) ax))))))))
def fX:dr:=ff 6 kd
def uc:cH:=
 (cQ<|aB fX<|aH 0<|aH 1<|gS 3 1 ax)
def oG:dr:=ff 4 uc
def sR:cH:=
 (cQ<|aB uq<|aH 0<|aw (aB fX<|aH 0<|aH 1<|gS 3 1 ax)<|aH 2<|gS 3 2 ax)
def m5:dr:=ff 4 sR
def xU:cH:=
 (cQ<|ar 1)
def rD:dr:=ff 4 xU
noncomputable def kW:List (Str×Str):= [("put","by_put"),("unless","by_unless"),("go","by_go"),("do","by_do"),("wait","by_wait"),("call","by_call"),("all","by_all"),("tell","by_tell"),("take","by_take"),("give","by_give"),("pass","by_pass"),("say","by_say")]
def uB:List (Str×dr):= [("by_put",rE),("by_unless",jD),("by_go",xa),("by_do",wI),("by_wait",nj),("by_call",nL),("by_all",rC),("by_tell",nU),("by_take",oh),("by_give",oG),("by_pass",m5),("by_say",rD)]
def vW:cH:=
 (aC (a_ 4 (P8 kW (eh 3 0)))
 (cQ (tw 4 uB (aH 0 (aH 1 (aH 2 (aH 3 ax)))))))
def iX:dr:=ff 5 vW
def oK:cH:=
 (aC (oO (c7 (eh 1 3) (ar 2)) (jS (nG 2 (aG (bS 3) (aG (bS 4) dG)))))
 (aC (oO (c7 (ar 4) (tN (cb 1))) (jS (nG 5 (aG (bS 5) (aG (bS 6) (aG (bS 7) (aG (bS 8) (aG (bS 9) dG))))))))
 (aC (a_ 10 (aB eK (aw (aB pV (aH 1 (aH 5 ax))) (aH 2 (aH 3 (aw (sF (ar 4) uQ (ub (tN (cb 1)))) ax))))))
 (aC (a_ 11 (c7 (aB eN (aH 0 (aH 2 (aw (c7 (ar 4) (tN (cb 2))) ax)))) (bf E7 (c7 (c7 (ar 4) (tN (cb 2))) (cb 2)) (cb 1))))
 (aC (h_ (aS (bf (s_ false) (eh 11 1) (cF .non))) (cQ (ar 10)) iP)
 (cQ (aB eJ (aH 0 (aH 10 (aH 2 (gS 11 1 (aH 9 ax))))))))))))
def jq:dr:=ff 12 oK
def kP:cH:=
 (aC (a_ 3 (aB cB (aH 1 (aH 2 ax))))
 (aC (a_ 4 (eh 3 0))
 (aC (h_ (r8 (aS (bf (gJ true) (ar 4) (cF (.int (-1))))) (aS (bf (gJ true) (c7 (c7 (eh 1 0) (ar 4)) (cb 1)) (ar 2)))) (cQ (bc (aw (aB kb (aH 1 (aH 4 (aH 2 ax)))) (aw (cF .non) ax)))) iP)
 (aC (a_ 5 (aB eN (aH 0 (aH 2 (aH 3 ax)))))
 (aC (h_ (aS (bf (gJ false) (eh 3 2) (hZ (bL (ar 5))))) (cQ (bc (aw (aB jq (aH 0 (aH 1 (aH 2 ax)))) (aw (cF .non) ax)))) iP)
 (aC (a_ 6 (c7 (ar 5) (eh 3 2)))
 (aC (a_ 7 (cF .non))
 (aC (h_ (aS (bf (gJ false) (eh 6 0) (cF (.str "say")))) (a_ 7 (bc (aH 2 (aw (aB dh (aH 0 (aH 1 (aH 2 (gS 6 1 ax))))) ax)))) iP)
 (cQ (bc (aw (aB iX (aH 0 (aw (aB jr (aH 1 (aH 2 (aw (bf bW (eh 3 2) (cb 1)) ax)))) (aH 2 (aH 6 ax))))) (aH 7 ax))))))))))))
def kg:dr:=ff 8 kP
def p0:cH:=
 (JK<|cM [none,none] (rG<|bL<|ar 0) (jS<|nG 2<|aG (bS 0)<|aG (bS 1) dG) dZ<|ar 1)
def kY:dr:=ff 1 p0
def hU:cH:=
 (aC (a_ 1 (eR (ft ax)))
 (aC (nK (rG (bL (eh 0 1))) (jS (nG 2 (aG (bS 2) (aG (bS 3) dG)))) (AG (vI (ar 1) (bL (ar 3)))))
 (aC (nK (rG (bL (eh 0 0))) (jS (nG 5 (aG (bS 4) (aG (bS 5) (aG (bS 3) (aG (bS 6) (aG (bS 7) dG))))))) (aC (AG (vI (ar 1) (bL (bf bW (ar 3) (ar 6)))))
 (nK (rG (bL (ar 7))) (bS 8) (AG (G3 (ar 1) (lI (dR kY (aH 8 ax))))))))
 (cQ (ar 1)))))
def bZ:dr:=ff 9 hU
def gX:cH:=
 (aC (a_ 3 (aB cB (aH 1 (aH 2 ax))))
 (cQ (sQ (bf (gJ false) (eh 3 0) (cF (.int (-1)))) (bf (gJ false) (eh 3 2) (hZ (bL (aB eN (aH 0 (aH 2 (aH 3 ax))))))))))
def eU:dr:=ff 4 gX
def oM:cH:=
 (aC (a_ 2 (eR (dR bZ (aH 1 ax))))
 (JK (cM [none,some 0,some 1,some 2] (qH (hZ (bL (eh 1 3)))) (bS 0) (r8 (aS (JA true (ar 0) (bL (ar 3)))) (zB (kG (aB eU (aH 1 (aH 2 (aH 0 ax))))))) (ar 0))))
def gR:dr:=ff 3 oM
def xw:cH:=
 (aC (a_ 2 (aB wV (aH 0 ax)))
 (aC (a_ 3 (eR (ft ax)))
 (aC (nK (Cp (bL (ar 1))) (jS (nG 2 (aG (bS 4) (aG (bS 5) dG)))) (aC (h_ (aS (JA true (ar 5) (lI (dR gR (aH 0 (aH 2 ax)))))) never iP)
 (aC (oO (aB kg (aH 0 (aH 2 (aH 5 ax)))) (jS (nG 2 (aG (bS 2) (aG (bS 6) dG)))))
 (h_ (aS (bf (s_ true) (ar 6) (cF .non))) (AG (Fj pO (ar 3) (aH 6 ax))) iP))))
 (cQ (bc (aH 2 (aw (tupQ (fM (bL (ar 3)))) ax)))))))
def q0:dr:=ff 7 xw
def fw(a:dr):cH:=
 (aC (h_ (kG (zJ "list" "tuple" (ar 1))) (aC (h_ (N2 (aS (bf (gJ true) (nQ "list" (ar 0)) (nQ "list" (ar 1)))) (aS (bf (gJ true) (nQ "tuple" (ar 0)) (nQ "tuple" (ar 1))))) (cQ (cF (.bl false))) iP)
 (cQ (sQ (bf (gJ false) (hZ (bL (ar 0))) (hZ (bL (ar 1)))) (He (lI (cM [none,none] (Bx (bL (ar 0)) (bL (ar 1))) (jS (nG 2 (aG (bS 0) (aG (bS 1) dG)))) dZ (aB a (aH 0 (aH 1 ax))))))))) iP)
 (aC (h_ (aS (bf (s_ false) (ar 1) (cF .non))) (cQ (bf (s_ false) (ar 0) (cF .non))) iP)
 (aC (h_ (kG (nQ "str" (ar 1))) (cQ (sQ (nQ "str" (ar 0)) (bf (gJ false) (ar 0) (ar 1)))) iP)
 (cQ (sQ (nQ "int" (ar 0)) (sQ (Iy (nQ "bool" (ar 0))) (bf (gJ false) (ar 0) (ar 1))))))))
def dP:Nat->dr
 |0=>λ_ _=>none
 |n+1=>ff 2 (fw<|dP n)
def jJ:cH:=
 (aC (a_ 2 PQ)
 (aC (nK (Bx (bL (eh 0 0)) (bL (eh 1 0))) (jS (nG 2 (aG (bS 3) (aG (jS (nG 5 (aG (bS 4) (aG (bS 5) (aG (bS 6) (aG (bS 7) (aG (bS 8) dG))))))) dG)))) (nK (rG (bL (ar 6))) (bS 9) (MO (ar 2) (ar 9) (bc (gS 3 0 (aH 5 ax))))))
 (cQ (ar 2))))
def gB:dr:=M8 10 jJ
def uf:cH:=
 (aC (a_ 2 (eR (ft ax)))
 (aC (a_ 3 (ar 1))
 (aC (AH (r8 (aS (GO (ar 3) (ar 0))) (r8 (aS (bf Ro (ar 3) (ar 1))) (aS (bf Nl (hZ (bL (ar 2))) (IT (ar 0)))))) (aC (oO (Ky (ar 0) (ar 3)) (jS (nG 2 (aG (bS 4) (aG (bS 5) dG)))))
 (aC (AG (Fj pO (ar 2) (aw (bc (aH 3 (aH 4 ax))) ax)))
 (aC (h_ (aS (bf (gJ false) (ar 5) (ar 1))) (cQ (tupQ (fM (bL (ar 2))))) iP)
 (a_ 3 (ar 5))))) 5)
 (cQ (cF .non)))))
def jN:dr:=ff 6 uf
def Bg:cH:=
 (aC (a_ 2 (aB gB (aH 0 (aH 1 ax))))
 (aC (a_ 3 (eR (cM [none,some 2] (qH (hZ (bL (eh 1 3)))) (bS 0) dZ (aB jN (aH 1 (aH 0 ax))))))
 (cQ (tupQ (lI (cM [none] (rG (bL (ar 3))) (bS 0) (aS (bf (s_ true) (ar 0) (cF .non))) (ar 0)))))))
def wR:dr:=ff 4 Bg
def y9:cH:=
 (aC (a_ 3 Qk)
 (aC (AG (HC (ar 3) (ar 1)))
 (aC (a_ 4 (eR (ft (aw (bc (aH 1 (aw (tN (cb 1)) (aw (tN (cb 1)) ax)))) ax))))
 (aC (a_ 5 (cb 0))
 (aC (AH (r8 (aS (bf Nl (ar 5) (hZ (bL (ar 4))))) (aS (bf Nn (hZ (bL (ar 4))) (ar 2)))) (aC (a_ 6 (c7 (c7 (ar 4) (ar 5)) (cb 0)))
 (aC (nK (rG (lI (dR gR (aH 0 (aH 6 ax))))) (bS 7) (aC (oO (aB kg (aH 0 (aH 6 (aH 7 ax)))) (jS (nG 2 (aG (bS 8) (aG (bS 9) dG)))))
 (h_ (aS (Fi (ar 8) (ar 3))) (aC (AG (HC (ar 3) (ar 8)))
 (AG (Fj pO (ar 4) (aw (bc (aH 8 (aH 5 (aH 7 ax)))) ax)))) iP)))
 (Oa 5 (cb 1)))) 500)
 (cQ (tf (aS (bf Nn (hZ (bL (ar 4))) (ar 2))) (ar 4) (cF .non))))))))
def nq:dr:=M8 10 y9
def Hl:cH:=
 (aC (a_ 3 (aB nq (aH 0 (aH 1 (aH 2 ax)))))
 (aC (h_ (aS (bf (s_ false) (ar 3) (cF .non))) (cQ (cF .non)) iP)
 (aC (a_ 4 (eR (IZ (lI (dR bZ (aH 1 ax))))))
 (aC (nK (rG (bL (ar 3))) (jS (nG 3 (aG (bS 5) (aG (bS 6) (aG (bS 7) dG))))) (aC (a_ 8 (eR (dR bZ (aH 5 ax))))
 (a_ 4 (eR (cM [none,some 8] (rG (bL (ar 4))) (bS 0) (aS (JA false (ar 0) (bL (ar 1)))) (ar 0))))))
 (cQ (tupQ (fM (bL (ar 4)))))))))
def zD:dr:=ff 9 Hl
def Bh:cH:=
 (cQ<|tupQ<|lI<|cM [none,none,some 2] (Bx (bL<|eh 0 0)<|bL<|eh 1 0) (jS<|nG 2<|aG (bS 0)<|aG (bS 1) dG) (aS<|bf (gJ false) (eh 1 1)<|ar 2)<|eh 0 0)
def xb:dr:=ff 3 Bh
def Nb:cH:=
 (aC (nK (qH (bf bW (cb 1) (Dm minD (oJ 4 (aw (hZ (bL (ar 0))) ax))))) (bS 1) (aC (a_ 2 (eR (dR lE (aH 0 (aH 1 ax)))))
 (aC (a_ 3 (eR (dR fO (aH 2 (oJ 10 ax)))))
 (aC (a_ 4 (bf bW (cb 1) (aB bV (aH 2 (oJ 4 ax)))))
 (aC (a_ 5 (eR (dR gH (aH 2 (aH 4 ax)))))
 (aC (yp 6 7 (aw (eR (ft ax)) (aw (eR (ft ax)) ax)))
 (aC (nK (qH (ar 4)) (bS 8) (aC (a_ 9 (bc (aw (bc (FO "do" (aw (cF .non) (aw (c7 (ar 3) (c7 (ar 5) (ar 8))) (gS 3 9 (oJ 0 ax)))))) (aw (bc (FO "tell" (oJ 3 ax))) ax))))
 (aC (a_ 10 (c7 (eR (ft (FO "at once" (FO "when free" ax)))) (aB bV (aH 2 (oJ 2 ax)))))
 (aC (AG (Fj pO (ar 6) (aw (bc (aw (c7 (ar 3) (ar 8)) (aH 10 (aw (bc ax) (aw (bc ax) (aw (bc (aw (bc (gS 3 8 (aH 9 ax))) (aw (bc (gS 3 9 (aw (bc (aw (bc (FO "tell" (oJ 2 ax))) ax)) ax))) ax))) ax)))))) ax)))
 (AG (Fj pO (ar 7) (aw (bc (aw (bc ax) (aw (bc (aw (bc (FO "do" (aw (cF .non) (aw (c7 (ar 3) (ar 8)) (gS 3 8 (oJ 0 ax)))))) ax)) ax))) ax)))))))
 (aC (a_ 11 (bf lJ (Dm intOfD (aw (bf Nl (ar 4) (cb 4)) ax)) (aB bV (aH 2 (oJ 2 ax)))))
 (aC (a_ 7 (eR (GK (bL (ar 7)) (lI (FY (lI (ft (aw (bc (aw (bc ax) (aw (bc (aw (bc (FO "do" (aw (cF .non) (aw (c7 (ar 3) (aB bV (aH 2 (aH 4 ax)))) (gS 3 9 (oJ 0 ax)))))) ax)) ax))) ax))) (ar 11))))))
 (aC (a_ 12 (bc (aw (tupQ (fM (bL (ar 6)))) (aw (bc ax) (aw (bc ax) (aw (tupQ (fM (bL (ar 7)))) ax))))))
 (aC (a_ 13 (bf bW (bf wM (zy (ar 4)) (cb 2)) (bf wM (bc (aH 4 ax)) (bf lJ (ar 11) (aB bV (aH 2 (oJ 2 ax)))))))
 (aC (a_ 14 (c7 (aB q0 (aH 12 (aH 13 ax))) (cb 0)))
 (aC (a_ 15 (eR (ft ax)))
 (aC (nK (qH (ar 4)) (bS 8) (aC (yp 16 17 (aw (eR (ft (aw (bc (aH 8 (aw (c7 (ar 3) (c7 (ar 5) (ar 8))) ax))) ax))) (aw (c7 (ar 5) (ar 8)) ax)))
 (aC (AH (aS (bf (gJ true) (ar 17) (ar 8))) (aC (AG (Fj pO (ar 16) (aw (bc (aH 17 (aw (c7 (ar 3) (c7 (ar 5) (ar 17))) ax))) ax)))
 (a_ 17 (c7 (ar 5) (ar 17)))) 5)
 (h_ (aS (bf (gJ false) (c7 (Ju (bL (ar 16))) (cb 0)) (ar 8))) (AG (Fj pO (ar 15) (aw (tupQ (fM (bL (ar 16)))) ax))) iP))))
 (aC (h_ (zB (kG (aB (dP 10) (aw (aB wR (aH 12 (aH 14 ax))) (aw (tupQ (lI (Iq (bL (ar 15))))) ax))))) (cQ (cF (.bl false))) iP)
 (aC (h_ (zB (kG (He (lI (cM [none,some 3,some 12,some 14] (qH (ar 4)) (bS 0) dZ (aB (dP 10) (aw (aB xb (aH 2 (aH 3 (aH 0 ax)))) (aw (bc (aw (c7 (ar 1) (ar 0)) ax)) ax)))))))) (cQ (cF (.bl false))) iP)
 (aC (h_ (aS (eqQ true (lI (dR gR (aH 12 (aH 14 ax)))) (lI (FY (lI (ft (aH 4 ax))) (Dm intOfD (aw (sQ (bf (gJ false) (hZ (bL (ar 13))) (bf lJ (cb 2) (ar 4))) (bf (gJ false) (ar 11) (cb 1))) ax)))))) (cQ (cF (.bl false))) iP)
 (h_ (zB (kG (aB (dP 10) (aw (aB zD (aH 12 (aH 14 (oJ 9 ax)))) (aw (zy (bf bW (ar 4) (Dm intOfD (aw (bf OU (hZ (bL (ar 13))) (bf lJ (cb 2) (ar 4))) ax)))) ax))))) (cQ (cF (.bl false))) iP))))))))))))))))))
 (cQ (cF (.bl true))))
def JL:dr:=ff 18 Nb
noncomputable def top(i:Nat):Stmt:=PySem.Challenge.pw_calledroom_k42_rings_known_by_hand.main.body.getD i (.Pass #[0,0,0,0])
noncomputable abbrev mM:Stmt:=top 65
noncomputable abbrev kz:Stmt:=top 66
noncomputable abbrev jQ:Stmt:=top 67
noncomputable abbrev iI:Stmt:=top 69
noncomputable abbrev kJ:Stmt:=top 12
noncomputable abbrev jy:Stmt:=top 14
noncomputable abbrev wA:Stmt:=top 13
noncomputable abbrev jx:Stmt:=top 15
noncomputable abbrev jG:Stmt:=top 16
noncomputable abbrev mB:Stmt:=top 28
noncomputable abbrev mD:Stmt:=top 30
noncomputable abbrev kO:Stmt:=top 17
noncomputable abbrev ki:Stmt:=top 20
noncomputable abbrev kA:Stmt:=top 18
noncomputable abbrev kQ:Stmt:=top 32
noncomputable abbrev gV:Stmt:=top 3
noncomputable abbrev mW:Stmt:=top 2
noncomputable abbrev mE:Stmt:=top 31
noncomputable abbrev sD:Stmt:=top 36
noncomputable abbrev eW:Stmt:=top 21
noncomputable abbrev tT:Stmt:=top 22
noncomputable abbrev kD:Stmt:=top 37
noncomputable abbrev xp:Stmt:=top 38
noncomputable abbrev pz:Stmt:=top 33
noncomputable abbrev yk:Stmt:=top 39
noncomputable abbrev pD:Stmt:=top 40
noncomputable abbrev kh:Stmt:=top 41
noncomputable abbrev xH:Stmt:=top 34
noncomputable abbrev pF:Stmt:=top 42
noncomputable abbrev pZ:Stmt:=top 43
noncomputable abbrev sJ:Stmt:=top 44
noncomputable abbrev pW:Stmt:=top 45
noncomputable abbrev j3:Stmt:=top 19
noncomputable abbrev xf:Stmt:=top 47
noncomputable abbrev pK:Stmt:=top 46
noncomputable abbrev jA:Stmt:=top 49
noncomputable abbrev oS:Stmt:=top 48
noncomputable abbrev pE:Stmt:=top 50
noncomputable abbrev tq:Stmt:=top 51
noncomputable abbrev mR:Stmt:=top 53
noncomputable abbrev mI:Stmt:=top 35
noncomputable abbrev oW:Stmt:=top 59
noncomputable abbrev mj:Stmt:=top 23
noncomputable abbrev gc:Stmt:=top 56
noncomputable abbrev gq:Stmt:=top 57
noncomputable abbrev mU:Stmt:=top 55
noncomputable abbrev uC:Stmt:=top 58
noncomputable abbrev kS:Stmt:=top 68
noncomputable abbrev iR:Stmt:=top 7
noncomputable abbrev kc:Stmt:=top 8
noncomputable abbrev yc:Stmt:=top 6
noncomputable abbrev oV:Stmt:=top 61
noncomputable abbrev AY:Stmt:=top 63
noncomputable abbrev ye:Stmt:=top 5
noncomputable abbrev m_:Stmt:=top 70
end W28
namespace W28
open L2 DL PyProof.Rows
noncomputable abbrev BD:List Str:= ["_law_found","_law_due"]
noncomputable abbrev qN:List Str:= ["_law_left","_law_many"]
noncomputable abbrev Co:List Str:= ["_law_script","_law_k"]
noncomputable abbrev GG:List Str:= ["_law_script"]
noncomputable abbrev Dj:List Str:= ["ahead","first"]
noncomputable abbrev zV:List Str:= ["form","first","second"]
noncomputable abbrev z_:List Str:= ["line"]
noncomputable abbrev zZ:List Str:= ["parts","at","part"]
noncomputable abbrev yV:List Str:= ["roll","name"]
noncomputable abbrev y4:List Str:= ["roll"]
noncomputable abbrev Ak:List Str:= ["room"]
noncomputable abbrev zw:List Str:= ["scene","at","room"]
noncomputable abbrev As:List Str:= ["scene","at","turnstile"]
noncomputable abbrev C5:List Str:= ["scene","hand","frame"]
noncomputable abbrev Cc:List Str:= ["scene","hand","row"]
noncomputable abbrev yx:List Str:= ["scene","hand","values","frames"]
noncomputable abbrev yZ:List Str:= ["scene","hand"]
noncomputable abbrev Dd:List Str:= ["scene","room","bell","line"]
noncomputable abbrev CA:List Str:= ["scene","room","hand"]
noncomputable abbrev B6:List Str:= ["scene","room"]
noncomputable abbrev C0:List Str:= ["scene"]
noncomputable abbrev zj:List Str:= ["things"]
noncomputable abbrev vR:List Str:= ["tree","things","waiting"]
noncomputable abbrev B7:List Str:= ["world","hand","frame"]
noncomputable abbrev CG:List Str:= ["world","scene","hand","name"]
noncomputable abbrev bx:List Str:= ["world","scene","hand","row"]
noncomputable abbrev B4:List Str:= ["world","scene","hand","tree"]
noncomputable abbrev DE:List Str:= ["world","scene","hand","word","value"]
noncomputable abbrev C8:List Str:= ["world","scene","hand","word"]
noncomputable abbrev fU:List Str:= ["world","scene","hand"]
noncomputable abbrev Dp:List Str:= ["world","scene","most"]
noncomputable abbrev DA:List Str:= ["world","scene","name"]
noncomputable abbrev jX:List Str:= ["world","scene"]
noncomputable abbrev DH:List Str:= ["world","start","most"]
noncomputable abbrev Cq:List Str:= ["world","weaving"]
noncomputable abbrev Ck:List Str:= ["world"]
section
variable(P:X9)(w:Xc)(K:X1)(b:X3)(a:Xe)
abbrev BN:Prop:=fm P w K b a 1 "_law_pot" Co lE
abbrev ku:Prop:=fm P w K b a 1 "_law_pick" qN bV
abbrev yn:Prop:=fm P w K b a 2 "_law_words" qN fO
abbrev uW:Prop:=fm P w K b a 2 "_law_rounds" qN gH
abbrev qg:Prop:=fm P w K b a 1 "values_of" zj fD
abbrev xO:Prop:=fm P w K b a 2 "begun_room" Ak iD
abbrev J8:Prop:=fm P w K b a 3 "begun" Ck wV
abbrev dv:Prop:=fm P w K b a 1 "last_frame" yZ cB
abbrev jM:Prop:=fm P w K b a 1 "program_of" B7 eN
abbrev mr:Prop:=fm P w K b a 1 "names_of" y4 dD
abbrev g9:Prop:=fm P w K b a 2 "place_of" yV cP
abbrev fV:Prop:=fm P w K b a 1 "with_part" zZ cY
abbrev iy:Prop:=fm P w K b a 2 "with_hand" yx eK
abbrev f_:Prop:=fm P w K b a 2 "with_room" zw cE
abbrev qo:Prop:=fm P w K b a 3 "put_thing" DE eJ
abbrev su:Prop:=fm P w K b a 1 "value_of_two" zV fK
abbrev BZ:Prop:=fm P w K b a 8 "value_of" vR (fB 6)
abbrev fJ:Prop:=fm P w K b a 9 "reckoned" B4 dh
abbrev iA:Prop:=fm P w K b a 3 "with_last_frame" C5 dg
abbrev uE:Prop:=fm P w K b a 4 "at_row" Cc jr
abbrev vm:Prop:=fm P w K b a 3 "come_in" CA kb
abbrev pk:Prop:=fm P w K b a 3 "bell_of" C8 jf
abbrev j_:Prop:=fm P w K b a 3 "with_line" Dd eF
abbrev B9:Prop:=fm P w K b a 3 "leave" B6 pV
abbrev qz:Prop:=fm P w K b a 2 "with_pass" As eE
abbrev Cg:Prop:=fm P w K b a 3 "taken" CG uq
abbrev om:Prop:=fm P w K b a 3 "given_back" DA fX
abbrev BW:Prop:=fm P w K b a 11 "row_done" bx iX
abbrev Bv:Prop:=fm P w K b a 4 "end_deed" fU jq
abbrev vU:Prop:=fm P w K b a 12 "step_of" fU kg
abbrev AK:Prop:=fm P w K b a 1 "hands_at" z_ kY
abbrev jT:Prop:=fm P w K b a 2 "hands_in_rows" C0 bZ
abbrev qP:Prop:=fm P w K b a 2 "is_behind_all" fU eU
abbrev mP:Prop:=fm P w K b a 3 "may_step" jX gR
abbrev FH:Prop:=fm P w K b a 13 "walked" Cq q0
abbrev yQ:Prop:=fm P w K b a 11 "_law_same" BD (dP 10)
abbrev uX:Prop:=fm P w K b a 1 "hands_ahead" jX gB
abbrev zi:Prop:=fm P w K b a 1 "ring_from" Dj jN
abbrev Ks:Prop:=fm P w K b a 2 "rings" jX wR
abbrev EF:Prop:=fm P w K b a 13 "come_to" DH nq
abbrev Lk:Prop:=fm P w K b a 14 "lost" Dp zD
abbrev IU:Prop:=fm P w K b a 1 "holds" fU xb
end
def QY(g:Gl X "len")(c:X.mg "len"=none)(d:PE X a (tQ (md X) f))(e:starEach [a] X.env= [(false,eval a X.env)]):PE X (.Call (.Name "len" p) [a] [] b) (tD (md X)<|hZ f):=rH g c d e
def dM(S:aL X N js a c)(m:X.calm=true)(hi:PI X h b (tI (md X) i))(k:∀C s H fp,PG (aF X N a c C s H fp) h<|tG (md<|aF X N a c C s H fp) g)(ht:∀C s H fp,mK (aF X N a c C s H fp) e<|tB (md<|aF X N a c C s H fp) t)(he:∀C s H fp,PE (aF X N a c C s H fp) d<|tD (md<|aF X N a c C s H fp) f)(l:autoParam (∀x,foldedSetIterable b X.env x=pure x) dl._auto_1):PE X (.ListComp d [⟨h,b,e,0⟩] a j) (tL (md X)<|cM js i g t f):=Lr S m hi k ht he l
def rB{d:Pos}(S:aL X N js a h)(u:X.calm=true)(hi:PI X l b (tI (md X) i))(p:∀C s H fp,PG (aF X N a h C s H fp) l<|tG (md<|aF X N a h C s H fp) g)(ht:∀C s H fp,mK (aF X N a h C s H fp) j<|tB (md<|aF X N a h C s H fp) t)(he:∀C s H fp,PE (aF X N a h C s H fp) e<|tD (md<|aF X N a h C s H fp) f)(m:PG X c (ni n))(r:autoParam (∀x,foldedSetIterable b X.env x=pure x) dl._auto_1)(o:autoParam (swapsWithSole [c] (.ListComp e [⟨l,b,j,0⟩] a k) d.line X.env=pure true) db._auto_1)(q:autoParam ((assignEach [c] X.env).map (·.2)= [assign c X.env]) db._auto_1):PS X (.Assign [c] (.ListComp e [#[l,b,j,0]] a k) d) (tS (md X)<|a_ n<|eR<|cM js i g t f):=L6 S u hi p ht he m r o q
def F2{e:Pos}(S:aL X N js a d)(z:X.calm=true)(hi:PI X j b (tI (md X) i))(r:∀C s H fp,PG (aF X N a d C s H fp) j<|tG (md<|aF X N a d C s H fp) g)(ht:∀C s H fp,mK (aF X N a d C s H fp) f<|tB (md<|aF X N a d C s H fp) t)(u:∀C s H fp,PE (aF X N a d C s H fp) k<|tD (md<|aF X N a d C s H fp) p)(y:∀C s H fp,PE (aF X N a d C s H fp) l<|tD (md<|aF X N a d C s H fp) q)(m:PG X c (ni n))(w:autoParam (∀x,foldedSetIterable b X.env x=pure x) dl._auto_1)(o:autoParam (swapsWithSole [c] (.DictComp k l [⟨j,b,f,0⟩] a h) e.line X.env=pure true) db._auto_1)(v:autoParam ((assignEach [c] X.env).map (·.2)= [assign c X.env]) db._auto_1):PS X (.Assign [c] (.DictComp k l [#[j,b,f,0]] a h) e) (tS (md X)<|NL n<|o9 js i g t p q):=Jy S z hi r ht u y m w o v
local macro_rules|`(tactic|specialize $n:num)=>do
 let k:=n.getNat
 if k<13 then `(tactic|specialize $(Lean.Syntax.mkNumLit<|toString (k+1))) else Lean.Macro.throwError ""
def ac(s:String):Lean.Syntax:=((s.splitOn " ").foldl (λ(st:List Lean.Syntax) t=>
 let n (k:Lean.Name) (a:List Lean.Syntax):Lean.Syntax:=.node .none k a.toArray
 let S (x:Lean.Syntax):=n `Lean.Parser.Tactic.tacticSeq [n `Lean.Parser.Tactic.tacticSeq1Indented [n `null [x]]]
 let c:=t.front
 let r:=(t.drop 1).toString
 if c='\'' then Lean.mkAtom r::st else if c='$' then (Lean.mkIdent r.toName).raw::st else if c='S' then S st.head!::st.tail! else if c='G' then n `group [Lean.mkAtom "|",S st.head!]::st.tail! else
 if c='H' then n `Lean.Parser.Term.hole [Lean.mkAtom "_"]::st else if c='Y' then n `Lean.Parser.Term.syntheticHole [Lean.mkAtom "?",Lean.mkAtom "_"]::st else
 let p:=r.splitOn ","
 let m:=p.head!.toNat!
 n (((",".intercalate p.tail!).splitOn ".").foldl .str (if c='T' then `Lean.Parser.Tactic else if c='E' then `Lean.Parser.Term else .anonymous)) (st.take m).reverse::st.drop m) []).head!
abbrev ad:=ac "'with_reducible 'change $PE H H A2,null E2,app '<| $tD H H A2,null E2,app A3,term_<|_ A0,null T3,change S T2,withReducible S"
abbrev al:=ac "'first '( '( 'with_reducible 'refine' $PK '? $cc E2,syntheticHole '? $hh E2,syntheticHole Y '? $hk E2,syntheticHole Y '? $hn E2,syntheticHole Y Y Y A9,null E2,app T2,refine' S T2,withReducible S ') T3,paren '; '( 'case $cc A1,Lean.binderIdent A0,null T2,caseArg A1,null '=> 'assumption T1,assumption S T4,case S ') T3,paren '; '( 'case $hh A1,Lean.binderIdent A0,null T2,caseArg A1,null '=> 'assumption T1,assumption S T4,case S ') T3,paren '; '( 'case $hk A1,Lean.binderIdent A0,null T2,caseArg A1,null '=> 'first 'decide A0,null T1,optConfig T2,decide G 'omega A0,null T1,optConfig T2,omega G A2,null T2,first S T4,case S ') T3,paren '; '( 'case $hn A1,Lean.binderIdent A0,null T2,caseArg A1,null '=> 'repeat '( 'first 'exact $BS T2,exact G 'refine $lq Y A1,null E2,app T2,refine G A2,null T2,first S ') T3,paren S T2,tacticRepeat_ S T4,case S ') T3,paren A9,null T1,tacticSeq1Indented T1,tacticSeq ') T3,paren G '( '( 'with_reducible 'refine' $lG '? $pg E2,syntheticHole '? $ff E2,syntheticHole A2,null E2,app T2,refine' S T2,withReducible S ') T3,paren '; '( 'case $pg A1,Lean.binderIdent A0,null T2,caseArg A1,null '=> '( 'refine' $Dw '( $v ':= '. $int E2,dotIdent '( $[a A1,hygieneInfo E2,hygienicLParen '- '1 A1,num A2,term-_ ') E3,paren A1,null E2,app ') E5,namedArgument '? $a0 E2,syntheticHole '? $m0 E2,syntheticHole '? $r0 E2,syntheticHole '? $d0 E2,syntheticHole A5,null E2,app T2,refine' '; '( 'case $a0 A1,Lean.binderIdent A0,null T2,caseArg A1,null '=> 'exact $rfl T2,exact S T4,case S ') T3,paren '; '( 'case $m0 A1,Lean.binderIdent A0,null T2,caseArg A1,null '=> 'assumption T1,assumption S T4,case S ') T3,paren '; '( 'case $r0 A1,Lean.binderIdent A0,null T2,caseArg A1,null '=> 'exact '#[ H ', $rfl A3,null '] A3,term#[_,] T2,exact S T4,case S ') T3,paren '; '( 'case $d0 A1,Lean.binderIdent A0,null T2,caseArg A1,null '=> 'decide A0,null T1,optConfig T2,decide S T4,case S ') T3,paren A9,null T1,tacticSeq1Indented T1,tacticSeq ') T3,paren S T4,case S ') T3,paren '; '( 'case $ff A1,Lean.binderIdent A0,null T2,caseArg A1,null '=> 'exact 'λ H H A2,null A0,null '=> '. $int E2,dotIdent '( $[a A1,hygieneInfo E2,hygienicLParen '- '1 A1,num A2,term-_ ') E3,paren A1,null E2,app E4,basicFun E2,fun T2,exact S T4,case S ') T3,paren A5,null T1,tacticSeq1Indented T1,tacticSeq ') T3,paren G '( '( 'with_reducible 'refine' $lG '? $pg E2,syntheticHole '? $ff E2,syntheticHole A2,null E2,app T2,refine' S T2,withReducible S ') T3,paren '; '( 'case $pg A1,Lean.binderIdent A0,null T2,caseArg A1,null '=> '( 'refine' $Dw '( $v ':= '. $int E2,dotIdent '( $[a A1,hygieneInfo E2,hygienicLParen '9 A1,num ') E3,paren A1,null E2,app ') E5,namedArgument '? $a0 E2,syntheticHole '? $m0 E2,syntheticHole '? $r0 E2,syntheticHole '? $d0 E2,syntheticHole A5,null E2,app T2,refine' '; '( 'case $a0 A1,Lean.binderIdent A0,null T2,caseArg A1,null '=> 'exact $rfl T2,exact S T4,case S ') T3,paren '; '( 'case $m0 A1,Lean.binderIdent A0,null T2,caseArg A1,null '=> 'assumption T1,assumption S T4,case S ') T3,paren '; '( 'case $r0 A1,Lean.binderIdent A0,null T2,caseArg A1,null '=> 'exact '#[ H ', $rfl A3,null '] A3,term#[_,] T2,exact S T4,case S ') T3,paren '; '( 'case $d0 A1,Lean.binderIdent A0,null T2,caseArg A1,null '=> 'decide A0,null T1,optConfig T2,decide S T4,case S ') T3,paren A9,null T1,tacticSeq1Indented T1,tacticSeq ') T3,paren S T4,case S ') T3,paren '; '( 'case $ff A1,Lean.binderIdent A0,null T2,caseArg A1,null '=> 'exact 'λ H H A2,null A0,null '=> '. $int E2,dotIdent '( $[a A1,hygieneInfo E2,hygienicLParen '9 A1,num ') E3,paren A1,null E2,app E4,basicFun E2,fun T2,exact S T4,case S ') T3,paren A5,null T1,tacticSeq1Indented T1,tacticSeq ') T3,paren G 'refine $M6 '( $[a A1,hygieneInfo E2,hygienicLParen 'by 'assumption T1,assumption S E2,byTactic ') E3,paren $rfl $rfl '( $[a A1,hygieneInfo E2,hygienicLParen $Bl.min '( $[a A1,hygieneInfo E2,hygienicLParen 'by 'assumption T1,assumption S E2,byTactic ') E3,paren A1,null E2,app ') E3,paren Y A5,null E2,app T2,refine G A4,null T2,first S"
abbrev am:=ac "'with_reducible 'change $PA H H A2,null E2,app '<| $y2 H H A2,null E2,app A3,term_<|_ A0,null T3,change S T2,withReducible S"
abbrev ap:=ac "'fail A0,null T2,fail S"
abbrev aT:=ac "'with_reducible 'change $PG H H A2,null E2,app '<| $tG H H A2,null E2,app A3,term_<|_ A0,null T3,change S T2,withReducible S"
abbrev ba:=ac "'with_reducible 'change $HV H H A2,null E2,app '<| $PU H H A2,null E2,app A3,term_<|_ A0,null T3,change S T2,withReducible S"
abbrev bd:=ac "'with_reducible 'change $PS H H A2,null E2,app '<| $tS H H A2,null E2,app A3,term_<|_ A0,null T3,change S T2,withReducible S"
abbrev bi:=ac "'first '( '( 'with_reducible 'refine $wK Y Y Y Y Y '? $hsz E2,syntheticHole Y A7,null E2,app T2,refine S T2,withReducible S ') T3,paren '; '( 'case $hsz A1,Lean.binderIdent A0,null T2,caseArg A1,null '=> 'exact $rfl T2,exact S T4,case S ') T3,paren A3,null T1,tacticSeq1Indented T1,tacticSeq ') T3,paren G A1,null T2,first S"
abbrev bm:=ac "'with_reducible 'change $qR H H A2,null E2,app '<| $tS H H A2,null E2,app A3,term_<|_ A0,null T3,change S T2,withReducible S"
abbrev bn:=ac "'first 'refine $d0 Y Y A2,null E2,app T2,refine G 'refine $qf Y A1,null E2,app T2,refine G A2,null T2,first S"
abbrev bu:=ac "'with_reducible 'change $PI H H H A3,null E2,app '<| $tI H H A2,null E2,app A3,term_<|_ A0,null T3,change S T2,withReducible S"
abbrev bw:=ac "'with_reducible 'change $PE H H A2,null E2,app '<| $tQ H H A2,null E2,app A3,term_<|_ A0,null T3,change S T2,withReducible S"
abbrev bY:=ac "'with_reducible 'change $PE H H A2,null E2,app '<| $tL H H A2,null E2,app A3,term_<|_ A0,null T3,change S T2,withReducible S"
abbrev ca:=ac "'first '( '( 'with_reducible 'refine' $OG '? $cc E2,syntheticHole '? $hh E2,syntheticHole Y '? $hk E2,syntheticHole Y '? $hn E2,syntheticHole Y Y Y A9,null E2,app T2,refine' S T2,withReducible S ') T3,paren '; '( 'case $cc A1,Lean.binderIdent A0,null T2,caseArg A1,null '=> 'assumption T1,assumption S T4,case S ') T3,paren '; '( 'case $hh A1,Lean.binderIdent A0,null T2,caseArg A1,null '=> 'assumption T1,assumption S T4,case S ') T3,paren '; '( 'case $hk A1,Lean.binderIdent A0,null T2,caseArg A1,null '=> 'first 'decide A0,null T1,optConfig T2,decide G 'omega A0,null T1,optConfig T2,omega G A2,null T2,first S T4,case S ') T3,paren '; '( 'case $hn A1,Lean.binderIdent A0,null T2,caseArg A1,null '=> 'repeat '( 'first 'exact $BS T2,exact G 'refine $lq Y A1,null E2,app T2,refine G A2,null T2,first S ') T3,paren S T2,tacticRepeat_ S T4,case S ') T3,paren A9,null T1,tacticSeq1Indented T1,tacticSeq ') T3,paren G 'refine $EY '( $[a A1,hygieneInfo E2,hygienicLParen 'by 'assumption T1,assumption S E2,byTactic ') E3,paren $rfl '( $[a A1,hygieneInfo E2,hygienicLParen $Bl.sorted '( $[a A1,hygieneInfo E2,hygienicLParen 'by 'assumption T1,assumption S E2,byTactic ') E3,paren A1,null E2,app ') E3,paren Y A4,null E2,app T2,refine G A2,null T2,first S"
abbrev cg:=ac "'with_reducible 'change $PT H H A2,null E2,app '<| $tB H H A2,null E2,app A3,term_<|_ A0,null T3,change S T2,withReducible S"
abbrev cm:=ac "'first '( '( 'with_reducible 'change H '= H A3,term_=_ A0,null T3,change S T2,withReducible S ') T3,paren '; 'exact $rfl T2,exact A3,null T1,tacticSeq1Indented T1,tacticSeq ') T3,paren G '( '( 'with_reducible 'change H '\\/ H A3,term_∨_ A0,null T3,change S T2,withReducible S ') T3,paren '; 'first 'exact $Or.inl $rfl A1,null E2,app T2,exact G 'exact $Or.inr $rfl A1,null E2,app T2,exact G 'exact $Or.inr '( $[a A1,hygieneInfo E2,hygienicLParen $Or.inl $rfl A1,null E2,app ') E3,paren A1,null E2,app T2,exact G 'exact $Or.inr '( $[a A1,hygieneInfo E2,hygienicLParen $Or.inr $rfl A1,null E2,app ') E3,paren A1,null E2,app T2,exact G A4,null T2,first A3,null T1,tacticSeq1Indented T1,tacticSeq ') T3,paren G '( '( 'with_reducible 'change $Gl H H A2,null E2,app A0,null T3,change S T2,withReducible S ') T3,paren '; 'exact $rfl T2,exact A3,null T1,tacticSeq1Indented T1,tacticSeq ') T3,paren G '( '( 'with_reducible 'change $L2.Loc H H A2,null E2,app A0,null T3,change S T2,withReducible S ') T3,paren '; 'first 'exact $Or.inl $rfl A1,null E2,app T2,exact G 'exact $Or.inr $rfl A1,null E2,app T2,exact G A2,null T2,first A3,null T1,tacticSeq1Indented T1,tacticSeq ') T3,paren G '( '( 'with_reducible 'change $IA H H A2,null E2,app A0,null T3,change S T2,withReducible S ') T3,paren '; 'first 'exact $Or.inl $rfl A1,null E2,app T2,exact G 'exact $Or.inr '( $[a A1,hygieneInfo E2,hygienicLParen $Or.inl $rfl A1,null E2,app ') E3,paren A1,null E2,app T2,exact G 'exact $Or.inr '( $[a A1,hygieneInfo E2,hygienicLParen $Or.inr $rfl A1,null E2,app ') E3,paren A1,null E2,app T2,exact G A3,null T2,first A3,null T1,tacticSeq1Indented T1,tacticSeq ') T3,paren G '( '( 'with_reducible 'change '( $[a A1,hygieneInfo E2,hygienicLParen H ': $Nat A1,null ') E5,typeAscription '<= H A3,term_≤_ A0,null T3,change S T2,withReducible S ') T3,paren '; 'omega A0,null T1,optConfig T2,omega A3,null T1,tacticSeq1Indented T1,tacticSeq ') T3,paren G '( '( 'with_reducible 'intro H H A2,null T2,intro S T2,withReducible S ') T3,paren '; 'rfl T1,tacticRfl A3,null T1,tacticSeq1Indented T1,tacticSeq ') T3,paren G 'with_reducible 'assumption T1,assumption S T2,withReducible G A8,null T2,first S"
abbrev cs:=ac "'first 'exact $rfl T2,exact G 'exact $Or.inl $rfl A1,null E2,app T2,exact G '( 'with_reducible 'first 'refine $PW.pt '( $[a A1,hygieneInfo E2,hygienicLParen $w_and Y Y A2,null E2,app ') E3,paren A1,null E2,app T2,refine G 'refine $PW.pt '( $[a A1,hygieneInfo E2,hygienicLParen $w_or Y Y A2,null E2,app ') E3,paren A1,null E2,app T2,refine G A2,null T2,first S T2,withReducible S ') T3,paren G 'assumption T1,assumption G 'exact $Or.inr $rfl A1,null E2,app T2,exact G 'exact $Or.inr '( $[a A1,hygieneInfo E2,hygienicLParen $Or.inl $rfl A1,null E2,app ') E3,paren A1,null E2,app T2,exact G 'exact $Or.inr '( $[a A1,hygieneInfo E2,hygienicLParen $Or.inr $rfl A1,null E2,app ') E3,paren A1,null E2,app T2,exact G 'decide A0,null T1,optConfig T2,decide G 'omega A0,null T1,optConfig T2,omega G '( 'intro H H A2,null T2,intro '; 'rfl T1,tacticRfl A3,null T1,tacticSeq1Indented T1,tacticSeq ') T3,paren G '( 'intro H A1,null T2,intro '; 'rfl T1,tacticRfl A3,null T1,tacticSeq1Indented T1,tacticSeq ') T3,paren G '( 'intro H H H A3,null T2,intro '; 'rfl T1,tacticRfl A3,null T1,tacticSeq1Indented T1,tacticSeq ') T3,paren G 'exact '#[ $rfl ', $rfl ', $rfl ', $rfl ', $rfl ', $rfl ', $rfl A13,null '] A3,term#[_,] T2,exact G 'exact 'λ H H A2,null A0,null '=> '. $int E2,dotIdent H A1,null E2,app E4,basicFun E2,fun T2,exact G A14,null T2,first S"
set_option hygiene false
local macro_rules|`(tactic|specialize $n:num)=>do
 let k:=n.getNat
 let g (l:List String):Lean.MacroM (Array (Lean.TSyntax `Lean.Parser.Tactic.tacticSeq)):=l.toArray.mapM λz=>do
  let u:=z.splitOn " "
  let k:=u.getLast!.toNat!
  let ws:=(u.dropLast.map λn=>Lean.mkIdent n.toName).toArray
  let h←`(?_)
  let e:=Lean.Syntax.mkApp #[ws[0]!.raw] ((ws.toList.tail!.map λw=>#[w.raw]).toArray++Array.replicate k h)
  `(tacticSeq|refine $e)
 let A (i j:Nat):=g ((("v_ 5|vV 0|Le 3|Gv 1|RH 2|RY 0|Qg 3|K1 1|KD 0|QY 4|Sh 2|RU 2|I0 5|Sf Pf NM 3|K8 1|R6 2|Sk 0|RG 2|Ow 3|yB 6|RZ 7|Nv 10|QW 2|MC 4|Qz 0|Nt 6|R9 5|QK 2|OW 8|Sf Oh ON 3|RJ 2|P6 6|Pt 6|OY 6|QB 11|Sf QF Q_ 3|R1 1|Sf KF KE 3|Sf RE RB 3|RT 1|cN 3|jV 0|So 5|F0 5|KR 4|R7 3|rp 3|HQ 0|C9 1|OV 3|KM 5|Oo 6|yf 2|Ry 1|QS 5|PY 0|d0 2|Kx 0|qf 1|Pr 1|QA 4|RN 6|Rq 4|Nz 1|Ss 1|OQ 1|K4 1|RS 2|RO 2|Ol 4|Np 4|vc Pf NM 3|vc R5 R3 3|R8 1|vc RE RB 3|vc QF Q_ 3|vc KF KE 3|Sw 3|Qi 3|vc Qa P4 3|vc KC K3 3|RC 3|Sb 2|Qx 0|Rv 1|R_ 0|Si 5|RK 1|HK 1|Se 1".splitOn "|").drop i).take j)
 let C (_:Unit):Lean.MacroM (Array (Lean.TSyntax `Lean.Parser.Tactic.tacticSeq)):=("PJ oN Nu Bl.int 0|Rl eV Nq Bl.min 1|Q8 eV NI Bl.abs 0|QP eV Nm Bl.max 1|str 2|int 2|list 2|tuple 2|bool 2".splitOn "|":List String).toArray.mapM λz=>do
  let u:=z.splitOn " "
  let k:=u.getLast!.toNat!
  let s:=u.head!
  let ws:Array Lean.Ident:=(u.map λn=>Lean.mkIdent n.toName).toArray
  if k=2 then
   `(tacticSeq|refine Io (v:=.ty $(Lean.quote s)) rfl ($(Lean.mkIdent<|.str (.str .anonymous "Bl") s) (by assumption)) $(Lean.mkIdent (.str `PyProof.Rows ("boot_" ++s))) rfl)
  else
   let e←if k=1 then `($(ws[2]!) rfl) else pure #[ws[2]!.raw]
   `(tacticSeq|((with_reducible refine Qn $(ws[0]!) ?_);refine $(ws[1]!) $e rfl ($(ws[3]!) (by assumption)) (by rfl) ?_))
 let z:=([(0,0),(0,40),(40,2),(42,4),(46,2),(48,8),(56,3),(59,4),(63,3),(66,5),(71,12),(0,90)]:List (Nat×Nat)).getD k (0,0)
 let a←A z.1 z.2
 if k=0 then `(tactic|($(⟨cm⟩))) else
 if k<11 then
  let c←if k=1 then C () else pure [←`(tacticSeq|fail)].toArray
  let u:=[ad,am,aT,ba,bd,bm,bu,bw,bY,cg][k-1]!
  let v:=[al,ap,ap,ap,bi,bn,ap,ap,ca,ap][k-1]!
  `(tactic|(($(⟨u⟩));first|(with_reducible first $[| $a]*)|($(⟨v⟩))|(first $[| $c]*))) else
 if k=11 then `(tactic|with_reducible first $[| $a]*) else
 if k=12 then `(tactic|($(⟨cs⟩))) else
 let b←g ("mQ 1|PassesOwn.never 0|yD 0|P9 0|Bl.abs 1|Bl.all 1|Bl.bool 1|Bl.dict 1|Bl.enum 1|Bl.int 1|Bl.isi 1|Bl.len 1|Bl.list 1|Bl.max 1|Bl.min 1|Bl.range 1|Bl.sorted 1|Bl.str 1|Bl.tuple 1|Bl.zip 1|d0 2|qf 1".splitOn "|")
 let c←C ()
 `(tactic|first $[| $c]* $[| $b]*)
set_option hygiene true
local macro_rules|`(tactic|ac_rfl)=>`(tactic|repeat specialize 0)
local macro_rules|`(tactic|exists $a,$b)=>`(tactic|(refine dM (N:=$a) (js:=$b) (aL.gen rfl rfl rfl rfl rfl rfl) rfl ?_ (fun _ _ _ _=>?_) (fun _ _ _ _=>?_) (fun _ _ _ _=>?_);ac_rfl))
local macro_rules|`(tactic|injections $a:ident $b:ident)=>`(tactic|(have h:=aD.nd $a;refine bh (by assumption) $a (fun e A b s H E g=>?_);delta $b;ac_rfl))
section
variable{P:X9}{w:Xc}{K:X1}{b:X3}{a:Xe}{f:X8}{c:FuncData}
def qv:aD ["_law_script","_law_k","_law_cell"] Co (ay mM):=fG
def zC(F:et K "_law_pot" "_law_pot" mM f c)(B:Bl b):bp P w K b a dN 1 f c Co (eg #[K,b] 2 lE):=by
 injections qv p7
def ng:aD ["_law_left","_law_many","_law_digit"] qN (ay kz):=fG
def w6(F:et K "_law_pick" "_law_pick" kz f c)(B:Bl b):bp P w K b a dN 1 f c qN (eg #[K,b] 2 bV):=by
 injections ng mG
def lU:aD ["_law_left","_law_many","_law_letters","_law_first","_law_turn","_law_some"] qN (ay jQ):=fG
def u6(F:et K "_law_words" "_law_words" jQ f c)(B:Bl b)(i:ku P w K b a):bp P w K b a dN 2 f c qN (eg #[K,b] 2 fO):=by
 injections lU kL
 show rB (n:=5) (N:= ["_law_k","_law_letters","_law_first","_law_turn"]) (js:= [none,some 2,some 3,some 4]) (aL.gen L L L L L L) L ?_ (λ_ _ _ _=>?_) (λ_ _ _ _=>?_) (λ_ _ _ _=>?_) ?_
 ac_rfl
def kK:aD ["_law_left","_law_many","_law_first","_law_later"] qN (ay iI):=fG
def rX(F:et K "_law_rounds" "_law_rounds" iI f c)(B:Bl b)(i:ku P w K b a):bp P w K b a dN 2 f c qN (eg #[K,b] 2 gH):=by
 injections kK jB
 show rB (n:=3) (N:= ["_law_k","_law_first"]) (js:= [none,some 2]) (aL.gen L L L L L L) L ?_ (λ_ _ _ _=>?_) (λ_ _ _ _=>?_) (λ_ _ _ _=>?_) ?_
 ac_rfl
 exists ["_law_k","_law_many","_law_first"],[none,some 1,some 2]
def w5:aD zj zj (ay kJ):=fG
def x8(F:et K "values_of" "values_of" kJ f c)(B:Bl b):bp P w K b a dN 1 f c zj (eg #[K,b] 1 fD):=by
 injections w5 mh
 exists ["word","value"],[none,none]
def l9:aD ["room","name","manner","things","bells","deeds"] Ak (ay jy):=fG
def u5(F:et K "begun_room" "begun_room" jy f c)(B:Bl b)(i:qg P w K b a)(j:b "NOBODY"=some (.int (-1) g)):bp P w K b a dN 2 f c Ak (eg #[K,b] 1 iD):=by
 injections l9 kF
 exists ["bell"],[none]
def yP:aD ["world","rooms","passes","shared","hands","own"] Ck (ay wA):=fG
def Ht(F:et K "begun" "begun" wA f c)(B:Bl b)(i:qg P w K b a)(j:xO P w K b a)(k:b "OWN"=some (.int (-1) g)):bp P w K b a dN 3 f c Ck (eg #[K,b] 1 wV):=by
 injections yP BH
 exists Ak,[none]
 exists ["name","value"],[none,none]
 exists ["things","program","own"],[none,none,some 5]
def uU:aD yZ yZ (ay jx):=fG
def vb(F:et K "last_frame" "last_frame" jx f c)(B:Bl b):bp P w K b a dN 1 f c yZ (eg #[K,b] 2 cB):=by
 injections uU kB
def lW:aD ["world","hand","frame","room","deed"] B7 (ay jG):=fG
def u3(F:et K "program_of" "program_of" jG f c)(B:Bl b)(k:b "OWN"=some (.int (-1) g)):bp P w K b a dN 1 f c B7 (eg #[K,b] 3 eN):=by
 injections lW kH
 show F5<|AM (i:=3) (j:=4) L (by assumption) L L (!1) L L ?_ L
 ac_rfl
def yE:aD y4 y4 (ay mB):=fG
def zP(F:et K "names_of" "names_of" mB f c)(B:Bl b):bp P w K b a dN 1 f c y4 (eg #[K,b] 1 dD):=by
 injections yE o7
 exists ["row"],[none]
def Ai:aD yV yV (ay mD):=fG
def zr(F:et K "place_of" "place_of" mD f c)(B:Bl b)(g:mr P w K b a):bp P w K b a dN 2 f c yV (eg #[K,b] 2 cP):=by
 injections Ai oX
def yl:aD zZ zZ (ay kO):=fG
def wg(F:et K "with_part" "with_part" kO f c)(B:Bl b):bp P w K b a dN 1 f c zZ (eg #[K,b] 3 cY):=by
 injections yl mH
end
section
variable{P:X9}{w:Xc}{K:X1}{c:X3}{a:Xe}{f:X8}{d:FuncData}
def wL:aD yx yx (ay ki):=fG
def xX(F:et K "with_hand" "with_hand" ki f d)(B:Bl c)(h:fV P w K c a):bp P w K c a dN 2 f d yx (eg #[K,c] 4 eK):=by
 injections wL my
def wz:aD zw zw (ay kA):=fG
def xk(F:et K "with_room" "with_room" kA f d)(B:Bl c)(h:fV P w K c a):bp P w K c a dN 2 f d zw (eg #[K,c] 3 cE):=by
 injections wz mF
def nM:aD ["world","scene","hand","word","value","room","place","values","shared","frames"] DE (ay kQ):=fG
def w9(F:et K "put_thing" "put_thing" kQ f d)(B:Bl c)(n:dv P w K c a)(o:g9 P w K c a)(m:fV P w K c a)(k:f_ P w K c a)(i:mr P w K c a)(p:iy P w K c a)(j:c "OWN"=some (.int (-1) g)):bp P w K c a dN 3 f d DE (eg #[K,c] 5 eJ):=by
 injections nM jv
def qD:aD zV zV (ay gV):=fG
def qG(F:et K "value_of_two" "value_of_two" gV f d)(B:Bl c)(i:c "HIGHEST"=some (.int (9) g)):bp P w K c a dN 1 f d zV (eg #[K,c] 3 fK):=by
 injections qD iL
def qC:aD ["tree","things","waiting","first"] vR (ay mW):=fG
theorem qj(F:et K "value_of" "value_of" mW f d)(B:Bl c)(i:su P w K c a)(b:Binds K d vR [])(g:PySem.W.keepIn K (.ref f)=true)(m:c "value_of"=some (.ref f)):∀n,bp P w K c a dN (2+n) f d vR (eg #[K,c] 3<|fB n)
 |0=>Di
 | n+1=>by
   have p:fm P w K c a (2+n) "value_of" vR (fB n):=#[f,d,qj F B i b g m n,b,g,m]
   let o:=qC.nd
   show bh (k:=2+n) F qC λh A e s H E j=>?_
   let l:=CH j
   delta oQ
   ac_rfl
def qt:aD ["world","scene","hand","tree","frame","room","things","waiting"] B4 (ay mE):=fG
def zd(F:et K "reckoned" "reckoned" mE f d)(B:Bl c)(o:dv P w K c a)(k:mr P w K c a)(m:BZ P w K c a)(l:c "OWN"=some (.int (-1) h)):bp P w K c a dN 9 f d B4 (eg #[K,c] 4 dh):=by
 let j:=qt.nd
 show bh F qt λe A b s H E g=>?_
 let i:=CH g
 delta kZ
 ac_rfl
 show F2 (n:=7) (N:= ["bell","line"]) (js:= [none,none]) (aL.gen L L L L L L) L ?_ (λ_ _ _ _=>?_) (λ_ _ _ _=>?_) (λ_ _ _ _=>?_) (λ_ _ _ _=>?_) ?_
 ac_rfl
def Ei:aD bx bx (ay sD):=fG
def ET(F:et K "by_put" "by_put" sD f d)(B:Bl c)(i:qo P w K c a)(g:fJ P w K c a):bp P w K c a dN 10 f d bx (eg #[K,c] 4 rE):=by
 injections Ei xZ
def g_:aD ["scene","hand","frame","values","frames"] C5 (ay eW):=fG
def mv(F:et K "with_last_frame" "with_last_frame" eW f d)(B:Bl c)(i:iy P w K c a):bp P w K c a dN 3 f d C5 (eg #[K,c] 3 dg):=by
 injections g_ fH
def v5:aD ["scene","hand","row","frame"] Cc (ay tT):=fG
def ES(F:et K "at_row" "at_row" tT f d)(B:Bl c)(j:dv P w K c a)(h:iA P w K c a):bp P w K c a dN 4 f d Cc (eg #[K,c] 3 jr):=by
 injections v5 xV
end
section
variable{P:X9}{w:Xc}{K:X1}{b:X3}{a:Xe}{f:X8}{c:FuncData}
def x_:aD bx bx (ay kD):=fG
def we(F:et K "by_unless" "by_unless" kD f c)(B:Bl b)(i:fJ P w K b a)(h:uE P w K b a):bp P w K b a dN 10 f c bx (eg #[K,b] 4 jD):=by
 injections x_ mJ
def Hm:aD bx bx (ay xp):=fG
def Gp(F:et K "by_go" "by_go" xp f c)(B:Bl b)(h:uE P w K b a):bp P w K b a dN 5 f c bx (eg #[K,b] 4 xa):=by
 injections Hm Bt
def um:aD ["scene","room","hand","values","within","row","late","bells"] CA (ay pz):=fG
def BO(F:et K "come_in" "come_in" pz f c)(B:Bl b)(j:f_ P w K b a)(i:b "NOBODY"=some (.int (-1) g)):bp P w K b a dN 3 f c CA (eg #[K,b] 3 kb):=by
 injections um uv
def Aq:aD ["world","scene","hand","row","room","deed","frame","values","frames"] bx (ay yk):=fG
def Hy(F:et K "by_do" "by_do" yk f c)(B:Bl b)(j:g9 P w K b a)(l:fJ P w K b a)(i:vm P w K b a)(k:iy P w K b a):bp P w K b a dN 10 f c bx (eg #[K,b] 4 wI):=by
 injections Aq A2
def sC:aD ["world","scene","hand","word","room"] C8 (ay pD):=fG
def AL(F:et K "bell_of" "bell_of" pD f c)(B:Bl b)(i:dv P w K b a)(j:g9 P w K b a):bp P w K b a dN 3 f c C8 (eg #[K,b] 4 jf):=by
 injections sC ue
def nV:aD ["scene","room","bell","line","state"] Dd (ay kh):=fG
def wu(F:et K "with_line" "with_line" kh f c)(B:Bl b)(h:f_ P w K b a)(j:fV P w K b a):bp P w K b a dN 3 f c Dd (eg #[K,b] 4 eF):=by
 injections nV mz
def zk:aD ["scene","room","values","within","row","late","bells"] B6 (ay xH):=fG
def GB(F:et K "leave" "leave" xH f c)(B:Bl b)(j:f_ P w K b a)(i:b "NOBODY"=some (.int (-1) g)):bp P w K b a dN 3 f c B6 (eg #[K,b] 2 pV):=by
 injections zk Bq
def r9:aD ["world","scene","hand","row","room","bell","turn","line","ahead","waiting"] bx (ay pF):=fG
def AU(F:et K "by_wait" "by_wait" pF f c)(B:Bl b)(i:pk P w K b a)(l:fJ P w K b a)(k:j_ P w K b a)(h:B9 P w K b a):bp P w K b a dN 10 f c bx (eg #[K,b] 4 nj):=by
 injections r9 sg
 exists ["other","waiter","turn"],[none,none,some 6]
def sX:aD ["world","scene","hand","row","room","bell","line","called","values","within","queue","late","bells"] bx (ay pZ):=fG
def BJ(F:et K "by_call" "by_call" pZ f c)(B:Bl b)(h:pk P w K b a)(j:j_ P w K b a)(i:f_ P w K b a):bp P w K b a dN 4 f c bx (eg #[K,b] 4 nL):=by
 injections sX uK
def vG:aD ["world","scene","hand","row","room","bell"] bx (ay sJ):=fG
def ED(F:et K "by_all" "by_all" sJ f c)(B:Bl b)(h:pk P w K b a)(j:j_ P w K b a):bp P w K b a dN 4 f c bx (eg #[K,b] 4 rC):=by
 injections vG xv
end
section
variable{P:X9}{w:Xc}{K:X1}{b:X3}{a:Xe}{f:X8}{c:FuncData}
def tY:aD ["world","scene","hand","row","told"] bx (ay pW):=fG
def BC(F:et K "by_tell" "by_tell" pW f c)(B:Bl b)(k:fJ P w K b a)(h:iA P w K b a)(j:dv P w K b a):bp P w K b a dN 10 f c bx (eg #[K,b] 4 nU):=by
 injections tY rT
def xg:aD As As (ay j3):=fG
def xY(F:et K "with_pass" "with_pass" j3 f c)(B:Bl b)(h:fV P w K b a):bp P w K b a dN 2 f c As (eg #[K,b] 3 eE):=by
 injections xg mT
def zS:aD ["world","scene","hand","name","place","value","row"] CG (ay xf):=fG
def FV(F:et K "taken" "taken" xf f c)(B:Bl b)(j:g9 P w K b a)(i:qz P w K b a):bp P w K b a dN 3 f c CG (eg #[K,b] 4 uq):=by
 injections zS Bd
def Bi:aD bx bx (ay pK):=fG
def A7(F:et K "by_take" "by_take" pK f c)(B:Bl b)(g:Cg P w K b a):bp P w K b a dN 4 f c bx (eg #[K,b] 4 oh):=by
 injections Bi rK
def lX:aD ["world","scene","name","place","value","row"] DA (ay jA):=fG
def uZ(F:et K "given_back" "given_back" jA f c)(B:Bl b)(l:g9 P w K b a)(k:qz P w K b a)(j:b "HIGHEST"=some (.int (9) g)):bp P w K b a dN 3 f c DA (eg #[K,b] 3 fX):=by
 injections lX kd
def Bz:aD bx bx (ay oS):=fG
def Bu(F:et K "by_give" "by_give" oS f c)(B:Bl b)(h:om P w K b a):bp P w K b a dN 4 f c bx (eg #[K,b] 4 oG):=by
 injections Bz uc
def AO:aD bx bx (ay pE):=fG
def BM(F:et K "by_pass" "by_pass" pE f c)(B:Bl b)(g:Cg P w K b a)(i:om P w K b a):bp P w K b a dN 4 f c bx (eg #[K,b] 4 m5):=by
 injections AO sR
def EX:aD bx bx (ay tq):=fG
def Ef(F:et K "by_say" "by_say" tq f c)(B:Bl b):bp P w K b a dN 1 f c bx (eg #[K,b] 4 rD):=by
 injections EX xU
def qB:aD ["world","scene","hand","row","deed"] bx (ay mR):=fG
def Ah(F:et K "row_done" "row_done" mR f c)(B:Bl b)(i:∀x F,uB.lookup x=some F->fm P w K b a 10 x bx F)(j:CJ P w K b "DONE_BY" kW):bp P w K b a dN 11 f c bx (eg #[K,b] 4 iX):=by
 let g:=qB.nd
 show bh F qB λe A d s H E h=>?_
 show(d0 (wK 4 g (Im j L (Le (v_ 3) vV) (λ_ _=>rfl)))
  (qf (C9 (Jx i (h.mono (!1)) L (by first|show Or.inl L|show Or.inr (Or.inl L)) (cN (v_ 0) (cN (v_ 1) (cN (v_ 2) (cN (v_ 3) jV)))) (lq (lq (lq (lq BS))))))))
def qk:aD ["world","scene","hand","values","frames","room","deed","row","given","told","outside","came_by"] fU (ay mI):=fG
def zu(F:et K "end_deed" "end_deed" mI f c)(B:Bl b)(k:iy P w K b a)(h:B9 P w K b a)(i:jM P w K b a)(l:qo P w K b a):bp P w K b a dN 4 f c fU (eg #[K,b] 3 jq):=by
 injections qk oK
def tK:aD ["world","scene","hand","frame","room","program","row","event"] fU (ay oW):=fG
def AJ(F:et K "step_of" "step_of" oW f c)(B:Bl b)(l:dv P w K b a)(i:vm P w K b a)(p:jM P w K b a)(n:Bv P w K b a)(o:fJ P w K b a)(k:BW P w K b a)(j:uE P w K b a)(h:b "OWN"=some (.int (-1) e)):bp P w K b a dN 12 f c fU (eg #[K,b] 3 kg):=by
 injections tK kP
def yR:aD z_ z_ (ay mj):=fG
def ze(F:et K "hands_at" "hands_at" mj f c)(B:Bl b):bp P w K b a dN 1 f c z_ (eg #[K,b] 1 kY):=by
 injections yR p0
 exists ["turn","hand"],[none,none]
end
section
variable{P:X9}{w:Xc}{K:X1}{c:X3}{a:Xe}{f:X8}{d:FuncData}
def iV:aD ["scene","hands","value","row","values","within","late","bells","line"] C0 (ay gc):=fG
def p6(F:et K "hands_in_rows" "hands_in_rows" gc f d)(B:Bl c)(i:AK P w K c a):bp P w K c a dN 2 f d C0 (eg #[K,c] 1 bZ):=by
 injections iV hU
def i9:aD ["world","scene","hand","frame"] fU (ay gq):=fG
def p5(F:et K "is_behind_all" "is_behind_all" gq f d)(B:Bl c)(l:dv P w K c a)(j:jM P w K c a)(i:c "OWN"=some (.int (-1) g)):bp P w K c a dN 2 f d fU (eg #[K,c] 3 eU):=by
 injections i9 gX
def qx:aD ["world","scene","held_up"] jX (ay mU):=fG
def zK(F:et K "may_step" "may_step" mU f d)(B:Bl c)(j:jT P w K c a)(h:qP P w K c a):bp P w K c a dN 3 f d jX (eg #[K,c] 2 gR):=by
 injections qx oM
 exists ["hand","world","scene","held_up"],[none,some 0,some 1,some 2]
def vg:aD ["world","weaving","scene","events","place","hand","event"] Cq (ay uC):=fG
def EC(F:et K "walked" "walked" uC f d)(B:Bl c)(k:J8 P w K c a)(h:mP P w K c a)(i:vU P w K c a):bp P w K c a dN 13 f d Cq (eg #[K,c] 2 q0):=by
 injections vg xw
def xJ:aD BD BD (ay kS):=fG
theorem nI(F:et K "_law_same" "_law_same" kS f d)(B:Bl c)(b:Binds K d BD [])(g:PySem.W.keepIn K (.ref f)=true)(m:c "_law_same"=some (.ref f)):∀n,bp P w K c a dN (1+n) f d BD (eg #[K,c] 2<|dP n)
 |0=>Di
 | n+1=>by
   have j:fm P w K c a (1+n) "_law_same" BD (dP n):=#[f,d,nI F B b g m n,b,g,m]
   show bh (k:=1+n) F xJ λh A e s H E i=>?_
   delta fw
   ac_rfl
   exists ["_law_one","_law_other"],[none,none]
def kM:aD ["world","scene","ahead","room","values","within","row","late","bells","hand"] jX (ay iR):=fG
def ur(F:et K "hands_ahead" "hands_ahead" iR f d)(B:Bl c):bp P w K c a dN 1 f d jX (eg #[K,c] 2 gB):=by
 let i:=kM.nd
 show Gf F kM λe A b s H E g=>?_
 let h:=CH g
 delta jJ
 ac_rfl
def m7:aD ["ahead","first","ring","hand","name","within"] Dj (ay kc):=fG
def wo(F:et K "ring_from" "ring_from" kc f d)(B:Bl c):bp P w K c a dN 1 f d Dj (eg #[K,c] 2 jN):=by
 let b:=m7.nd
 show bh F m7 λh A g s H E i=>?_
 let e:=CH i
 show(d0 (wK 2 b (K1 (K4 jV)))
  (d0 (wK 3 b (v_ 1))
  (d0 (xT 5 PassesOwn.never (PW.pt (w_and (N7 e (v_ 3) (v_ 0)) (w_and (vc Oh ON (v_ 3) (v_ 1) (mQ _)) (HK (vc KF KE (rH L B.len (Nz (v_ 2))) (My L B.len (v_ 0)) (mQ _)))))) (d0 (KM (MC e (v_ 0) (v_ 3) (λ_ _=>rfl)) (KR L (rp (F0 4 b) (rp (F0 5 b) HQ))))
  (d0 (yf (yB (v_ 2) (Gv (cN (v_ 3) (cN (v_ 4) jV)))))
  (d0 (OV (vc Pf NM (v_ 5) (v_ 1) (mQ _)) (qf (C9 (I0 L B.tuple (OQ (Nz (v_ 2))) (ht:=yD)))) Kx)
  (qf (wK 3 b (v_ 5)))))))
  (qf (C9 KD)))))
def yU:aD ["world","scene","ahead","found"] jX (ay yc):=fG
def Hv(F:et K "rings" "rings" yc f d)(B:Bl c)(j:uX P w K c a)(g:zi P w K c a):bp P w K c a dN 2 f d jX (eg #[K,c] 2 wR):=by
 injections yU Bg
 show rB (n:=3) (N:= ["hand","ahead"]) (js:= [none,some 2]) (aL.gen L L L L L L) L ?_ (λ_ _ _ _=>?_) (λ_ _ _ _=>?_) (λ_ _ _ _=>?_) ?_
 ac_rfl
 exists ["ring"],[none]
def rR:aD ["world","start","most","seen","found","at","scene","hand","reached","event"] DH (ay oV):=fG
def BV(F:et K "come_to" "come_to" oV f d)(B:Bl c)(i:mP P w K c a)(j:vU P w K c a):bp P w K c a dN 13 f d DH (eg #[K,c] 3 nq):=by
 let b:=rR.nd
 show Gf F rR λh A g s H E e=>?_
 show(d0 (wK 3 b (MK L B.set))
  (d0 (yf (FN e (v_ 3) (v_ 1)))
  (d0 (wK 4 b (K1 (K4 (cN (Gv (cN (v_ 1) (cN (K8 vV) (cN (K8 vV) jV)))) jV))))
  (d0 (wK 5 b vV)
  (d0 (xT 500 PassesOwn.never (PW.pt (w_and (vc KF KE (v_ 5) (rH L B.len (Nz (v_ 4))) (mQ _)) (HK (vc KC K3 (rH L B.len (Nz (v_ 4))) (v_ 2) (mQ _))))) (d0 (wK 6 b (Le (Le (v_ 4) (v_ 5)) vV))
  (d0 (Oo PassesOwn.never L (Pr (Ss (OG i e (cN (v_ 0) (cN (v_ 6) jV))))) (F0 7 b) (d0 (KM (PK j e (cN (v_ 0) (cN (v_ 6) (cN (v_ 7) jV)))) (KR L (rp (F0 8 b) (rp (F0 9 b) HQ))))
  (qf (OV (O_ e (v_ 8) (v_ 3)) (d0 (yf (FN e (v_ 3) (v_ 8)))
  (qf (yf (yB (v_ 4) (Gv (cN (v_ 8) (cN (v_ 5) (cN (v_ 7) jV)))))))) Kx))))
  (qf (QE 5 b vV)))))
  (qf (C9 (Ow (vc KC K3 (rH L B.len (Nz (v_ 4))) (v_ 2) (mQ _)) (v_ 4) KD))))))))
end
section
variable{P:X9}{w:Xc}{K:X1}{b:X3}{a:Xe}{f:X8}{c:FuncData}
def Dg:aD ["world","scene","most","found","left","later","origin","stepper","held_up"] Dp (ay AY):=fG
def JI(F:et K "lost" "lost" AY f c)(B:Bl b)(j:EF P w K b a)(i:jT P w K b a):bp P w K b a dN 14 f c Dp (eg #[K,b] 3 zD):=by
 injections Dg Hl
 show rB (n:=4) (N:= ["hand","held_up"]) (js:= [none,some 8]) (aL.gen L L L L L L) L ?_ (λ_ _ _ _=>?_) (λ_ _ _ _=>?_) (λ_ _ _ _=>?_) ?_
 ac_rfl
def GY:aD fU fU (ay ye):=fG
def HN(F:et K "holds" "holds" ye f c)(B:Bl b):bp P w K b a dN 1 f c fU (eg #[K,b] 3 xb):=by
 injections GY Bh
 exists ["room","state","hand"],[none,none,some 2]
def Fv:aD ["_law_script","_law_k","_law_left","_law_words_here","_law_many","_law_later","_law_rooms","_law_hands","_law_at","_law_first","_law_manner","_law_more","_law_world","_law_weaving","_law_scene","_law_due","_law_ring","_law_here"] GG (ay m_):=fG
def Mx(F:et K "law" "law" m_ f c)(B:Bl b)(m:BN P w K b a)(h:yn P w K b a)(r:ku P w K b a)(v:uW P w K b a)(k:FH P w K b a)(o:yQ P w K b a)(p:Ks P w K b a)(q:IU P w K b a)(n:mP P w K b a)(u:Lk P w K b a):bp P w K b a dN 15 f c GG (eg #[K,b] 1 JL):=by
 let l:=Fv.nd
 show bh F Fv λe A d s H E g=>?_
 let t:=g.units0
 delta Nb
 ac_rfl
 show F5<|AM (i:=6) (j:=7) L (by assumption) L L (!1) L L ?_ L
 ac_rfl
 show F5<|AM (i:=16) (j:=17) L (by assumption) L L (!1) L L ?_ L
 ac_rfl
 show xT 5 PassesOwn.never ?_ ?_
 ac_rfl
 exists ["_law_at","_law_words_here","_law_world","_law_scene"],[none,some 3,some 12,some 14]
end
def all_mk{l:PySem.W.OpenLaw}{w:Xc}{K:X1}(X:K.In h)(G:h.Ns mainGlobals g)(a5:g "law"=some (.ref fa))
  (d1:aV K "_law_pot" mM f1)
  (d2:aV K "_law_pick" kz f2)
  (d3:aV K "_law_words" jQ f3)
  (d4:aV K "_law_rounds" iI f4)
  (d5:aV K "values_of" kJ f5)
  (d6:aV K "begun_room" jy f6)
  (d7:aV K "begun" wA f7)
  (d8:aV K "last_frame" jx f8)
  (d9:aV K "program_of" jG f9)
  (s2:aV K "names_of" mB o3)
  (b6:aV K "place_of" mD e0)
  (o4:aV K "with_part" kO b7)
  (a8:aV K "with_hand" ki s1)
  (i2:aV K "with_room" kA k0)
  (s3:aV K "put_thing" kQ g3)
  (c8:aV K "value_of_two" gV b0)
  (r3:aV K "value_of" mW c4)
  (a9:aV K "reckoned" mE m0)
  (b1:aV K "by_put" sD Y)
  (n8:aV K "with_last_frame" eW q8)
  (e6:aV K "at_row" tT a6)
  (i5:aV K "by_unless" kD M)
  (h0:aV K "by_go" xp y)
  (m2:aV K "come_in" pz e2)
  (q1:aV K "by_do" yk J)
  (h2:aV K "bell_of" pD k7)
  (g4:aV K "with_line" kh b8)
  (p2:aV K "leave" xH l5)
  (r7:aV K "by_wait" pF u)
  (e9:aV K "by_call" pZ H)
  (k3:aV K "by_all" sJ a1)
  (e4:aV K "by_tell" pW a0)
  (n1:aV K "with_pass" j3 r2)
  (k4:aV K "taken" xf h8)
  (c1:aV K "by_take" pK R)
  (b2:aV K "given_back" jA h5)
  (h9:aV K "by_give" oS q)
  (j5:aV K "by_pass" pE N)
  (b4:aV K "by_say" tq r)
  (i0:aV K "row_done" mR o1)
  (j4:aV K "end_deed" mI l4)
  (e1:aV K "step_of" oW h3)
  (p1:aV K "hands_at" mj r5)
  (o2:aV K "hands_in_rows" gc l0)
  (k5:aV K "is_behind_all" gq q4)
  (e7:aV K "may_step" mU m1)
  (e8:aV K "walked" uC h4)
  (q9:aV K "_law_same" kS n4)
  (c9:aV K "hands_ahead" iR b9)
  (n7:aV K "ring_from" kc q6)
  (l1:aV K "rings" yc c0)
  (i1:aV K "come_to" oV e5)
  (a7:aV K "lost" AY n5)
  (k1:aV K "holds" ye o5)
  {oc kV dc pm cd ct:Xd}  {sl:Array (Option Value)} (e3:PySem.W.nsIn K mainGlobals "law"=some (some<|.ref c)) (k6:K.lookup c=some #[oc,od,.func (PySem.W.fnOf "law" "law" (gD m_) (eA m_) (ay m_) .none kV dc pm an cd ct),sl]) (n6:PySem.W.codeIn K cd "law"=true) (l3:PySem.W.keepIn K (.ref c)=true)
   (HM:PySem.W.nsIn K mainGlobals "NOBODY"=some (some<|.int (-1) g6))
   (Oi:PySem.W.nsIn K mainGlobals "OWN"=some (some<|.int (-1) iW))
   (D2:PySem.W.nsIn K mainGlobals "HIGHEST"=some (some<|.int (9) jo))
    (Ez:PySem.W.nsIn K mainGlobals "DONE_BY"=some (some<|.ref v8)) (Bs:K.lookup v8=some #[.type "dict",none,.dict (List.toArray [#[PyData.keyHash w.params "put",.str "put" wD,.ref Y],#[PyData.keyHash w.params "unless",.str "unless" wH,.ref M],#[PyData.keyHash w.params "go",.str "go" wW,.ref y],#[PyData.keyHash w.params "do",.str "do" wB,.ref J],#[PyData.keyHash w.params "wait",.str "wait" wU,.ref u],#[PyData.keyHash w.params "call",.str "call" wJ,.ref H],#[PyData.keyHash w.params "all",.str "all" wy,.ref a1],#[PyData.keyHash w.params "tell",.str "tell" wN,.ref a0],#[PyData.keyHash w.params "take",.str "take" wq,.ref R],#[PyData.keyHash w.params "give",.str "give" xS,.ref q],#[PyData.keyHash w.params "pass",.str "pass" u4,.ref N],#[PyData.keyHash w.params "say",.str "say" va,.ref r]]) Bo,(List.toArray [])])
  (OD:PySem.W.nsIn K mainGlobals "len"=some none) (IJ:PySem.W.nsIn K mainGlobals "tuple"=some none) (MX:PySem.W.nsIn K mainGlobals "list"=some none) (L0:PySem.W.nsIn K mainGlobals "dict"=some none) (Pa:PySem.W.nsIn K mainGlobals "set"=some none) (Oz:PySem.W.nsIn K mainGlobals "int"=some none) (NF:PySem.W.nsIn K mainGlobals "str"=some none) (LK:PySem.W.nsIn K mainGlobals "bool"=some none) (NA:PySem.W.nsIn K mainGlobals "all"=some none) (Px:PySem.W.nsIn K mainGlobals "any"=some none) (Kw:PySem.W.nsIn K mainGlobals "range"=some none) (NO:PySem.W.nsIn K mainGlobals "zip"=some none) (Gq:PySem.W.nsIn K mainGlobals "sorted"=some none) (xt:PySem.W.nsIn K mainGlobals "isinstance"=some none) (Pg:PySem.W.nsIn K mainGlobals "min"=some none) (NR:PySem.W.nsIn K mainGlobals "max"=some none) (Ot:PySem.W.nsIn K mainGlobals "abs"=some none) (y0:PySem.W.nsIn K mainGlobals "enumerate"=some none) (AQ:PySem.W.nsIn K mainGlobals "reversed"=some none)
  (T:∀ns:List Int,ns.length<=63->∃S',JL [.ref 0] [.frz (ns.map D.int)]=some (.d (.bl true),S')):
  ∃fd:FuncData,(∀(s:X4) (v:Xd),BindsTo s fd #[[v],[]] [("_law_script",v)])/\∀a:Heap,K.In a->a.Ns mainGlobals g->bp l.prog w K g a dN 15 fa fd GG Ab:=by
 let e:=a5.symm.trans (PySem.W.mg_of X G e3)
 cases e
 let n0:=A0 (st:=m_) k6 n6 l3
 let O1:=d1.ok1 (ps:=Co) X G
 let O2:=d2.ok1 (ps:=qN) X G
 let O3:=d3.ok1 (ps:=qN) X G
 let O4:=d4.ok1 (ps:=qN) X G
 let O5:=d5.ok1 (ps:=zj) X G
 let O6:=d6.ok1 (ps:=Ak) X G
 let O7:=d7.ok1 (ps:=Ck) X G
 let O8:=d8.ok1 (ps:=yZ) X G
 let O9:=d9.ok1 (ps:=B7) X G
 let c6:=s2.ok1 (ps:=y4) X G
 let g1:=b6.ok1 (ps:=yV) X G
 let b3:=o4.ok1 (ps:=zZ) X G
 let n2:=a8.ok1 (ps:=yx) X G
 let p4:=i2.ok1 (ps:=zw) X G
 let q2:=s3.ok1 (ps:=DE) X G
 let r4:=c8.ok1 (ps:=zV) X G
 let l6:=r3.ok1 (ps:=vR) X G
 let c2:=a9.ok1 (ps:=B4) X G
 let n:=b1.ok1 (ps:=bx) X G
 let k2:=n8.ok1 (ps:=C5) X G
 let b5:=e6.ok1 (ps:=Cc) X G
 let a4:=i5.ok1 (ps:=bx) X G
 let z:=h0.ok1 (ps:=bx) X G
 let g2:=m2.ok1 (ps:=CA) X G
 let C:=q1.ok1 (ps:=bx) X G
 let g5:=h2.ok1 (ps:=C8) X G
 let s0:=g4.ok1 (ps:=Dd) X G
 let h1:=p2.ok1 (ps:=B6) X G
 let a3:=r7.ok1 (ps:=bx) X G
 let A:=e9.ok1 (ps:=bx) X G
 let S:=k3.ok1 (ps:=bx) X G
 let o:=e4.ok1 (ps:=bx) X G
 let h6:=n1.ok1 (ps:=As) X G
 let n9:=k4.ok1 (ps:=CG) X G
 let P:=c1.ok1 (ps:=bx) X G
 let r1:=b2.ok1 (ps:=DA) X G
 let a2:=h9.ok1 (ps:=bx) X G
 let t:=j5.ok1 (ps:=bx) X G
 let I:=b4.ok1 (ps:=bx) X G
 let l7:=i0.ok1 (ps:=bx) X G
 let p3:=j4.ok1 (ps:=fU) X G
 let q7:=e1.ok1 (ps:=fU) X G
 let h7:=p1.ok1 (ps:=z_) X G
 let o0:=o2.ok1 (ps:=C0) X G
 let c5:=k5.ok1 (ps:=fU) X G
 let q3:=e7.ok1 (ps:=jX) X G
 let g0:=e8.ok1 (ps:=Cq) X G
 let f0:=q9.ok1 (ps:=BD) X G
 let j1:=c9.ok1 (ps:=jX) X G
 let l2:=n7.ok1 (ps:=Dj) X G
 let r0:=l1.ok1 (ps:=jX) X G
 let n3:=i1.ok1 (ps:=DH) X G
 let c3:=a7.ok1 (ps:=Dp) X G
 let r6:=k1.ok1 (ps:=fU) X G
 let iU:=PySem.W.mg_of X G HM
 let i:=PySem.W.mg_of X G Oi
 let lF:=PySem.W.mg_of X G D2
 have pS:CJ l.prog w K g "DONE_BY" kW:=Gi (PySem.W.mg_of X G Ez) Bs (.cons n.m (.cons a4.m (.cons z.m (.cons C.m (.cons a3.m (.cons A.m (.cons S.m (.cons o.m (.cons P.m (.cons a2.m (.cons t.m (.cons I.m .nil)))))))))))) (by decide +kernel)
 have B:Bl g:=#[QFq X G OD,QFq X G IJ,QFq X G MX,QFq X G L0,QFq X G Pa,QFq X G Oz,QFq X G NF,QFq X G LK,QFq X G NA,QFq X G Px,QFq X G Kw,QFq X G NO,QFq X G Gq,QFq X G xt,QFq X G Pg,QFq X G NR,QFq X G Ot,QFq X G y0,QFq X G AQ]
 show#[PySem.W.fnOf "law" "law" (gD m_) (eA m_) (ay m_) .none kV dc pm an cd ct,λs v=>.of_eq L,λa _ _=>?_]
 have Z:Pk l.prog w a:=#[]
 let sL:=O1.cal Z λ_ F _ _ _=>zC F B
 let eM:=O2.cal Z λ_ F _ _ _=>w6 F B
 let nY:=O3.cal Z λ_ F _ _ _=>u6 F B eM
 let lV:=O4.cal Z λ_ F _ _ _=>rX F B eM
 let iB:=O5.cal Z λ_ F _ _ _=>x8 F B
 let og:=O6.cal Z λ_ F _ _ _=>u5 F B iB iU
 let Cb:=O7.cal Z λ_ F _ _ _=>Ht F B iB og i
 let f:=O8.cal Z λ_ F _ _ _=>vb F B
 let dW:=O9.cal Z λ_ F _ _ _=>u3 F B i
 let fE:=c6.cal Z λ_ F _ _ _=>zP F B
 let cX:=g1.cal Z λ_ F _ _ _=>zr F B fE
 let Q:=b3.cal Z λ_ F _ _ _=>wg F B
 let dq:=n2.cal Z λ_ F _ _ _=>xX F B Q
 let U:=p4.cal Z λ_ F _ _ _=>xk F B Q
 let ic:=q2.cal Z λ_ F _ _ _=>w9 F B f cX Q U fE dq i
 let gY:=r4.cal Z λ_ F _ _ _=>qG F B lF
 let l_:=l6.cal Z λ_ F b k m=>qj F B gY b k m 6
 let j:=c2.cal Z λ_ F _ _ _=>zd F B f fE l_ i
 let Ft:=n.cal Z λ_ F _ _ _=>ET F B ic j
 let dI:=k2.cal Z λ_ F _ _ _=>mv F B dq
 let i8:=b5.cal Z λ_ F _ _ _=>ES F B f dI
 let yy:=a4.cal Z λ_ F _ _ _=>we F B j i8
 let Ie:=z.cal Z λ_ F _ _ _=>Gp F B i8
 let lC:=g2.cal Z λ_ F _ _ _=>BO F B U iU
 let HX:=C.cal Z λ_ F _ _ _=>Hy F B cX j lC dq
 let gN:=g5.cal Z λ_ F _ _ _=>AL F B f cX
 let eP:=s0.cal Z λ_ F _ _ _=>wu F B U Q
 let qU:=h1.cal Z λ_ F _ _ _=>GB F B U iU
 let D0:=a3.cal Z λ_ F _ _ _=>AU F B gN j eP qU
 let DP:=A.cal Z λ_ F _ _ _=>BJ F B gN eP U
 let F6:=S.cal Z λ_ F _ _ _=>ED F B gN eP
 let Ey:=o.cal Z λ_ F _ _ _=>BC F B j dI f
 let ia:=h6.cal Z λ_ F _ _ _=>xY F B Q
 let qZ:=n9.cal Z λ_ F _ _ _=>FV F B cX ia
 let EH:=P.cal Z λ_ F _ _ _=>A7 F B qZ
 let gG:=r1.cal Z λ_ F _ _ _=>uZ F B cX ia lF
 let E4:=a2.cal Z λ_ F _ _ _=>Bu F B gG
 let D4:=t.cal Z λ_ F _ _ _=>BM F B qZ gG
 let F_:=I.cal Z λ_ F _ _ _=>Ef F B
 have sY:∀x F,uB.lookup x=some F->fm l.prog w K g a 10 x bx F:=by
  show Hz λp hp=>?_
  erw[uB,Qsq,QXq,or_false] at hp
  rcases hp with rfl|rfl|rfl|rfl|rfl|rfl|rfl|rfl|rfl|rfl|rfl|rfl
  ·show Ft.mono (!1)
  ·show yy.mono (!1)
  ·show Ie.mono (!1)
  ·show HX.mono (!1)
  ·show D0.mono (!1)
  ·show DP.mono (!1)
  ·show F6.mono (!1)
  ·show Ey.mono (!1)
  ·show EH.mono (!1)
  ·show E4.mono (!1)
  ·show D4.mono (!1)
  ·show F_.mono (!1)
 let t7:=l7.cal Z λ_ F _ _ _=>Ah F B sY pS
 let sA:=p3.cal Z λ_ F _ _ _=>zu F B dq qU dW ic
 let je:=q7.cal Z λ_ F _ _ _=>AJ F B f lC dW sA j t7 i8 i
 let uJ:=h7.cal Z λ_ F _ _ _=>ze F B
 let eB:=o0.cal Z λ_ F _ _ _=>p6 F B uJ
 let jZ:=c5.cal Z λ_ F _ _ _=>p5 F B f dW i
 let eI:=q3.cal Z λ_ F _ _ _=>zK F B eB jZ
 let yX:=g0.cal Z λ_ F _ _ _=>EC F B Cb eI je
 let ko:=f0.cal Z λ_ F b k m=>nI F B b k m 10
 let lP:=j1.cal Z λ_ F _ _ _=>ur F B
 let qu:=l2.cal Z λ_ F _ _ _=>wo F B
 let C4:=r0.cal Z λ_ F _ _ _=>Hv F B lP qu
 let wa:=n3.cal Z λ_ F _ _ _=>BV F B eI je
 let GC:=c3.cal Z λ_ F _ _ _=>JI F B wa eB
 let Dy:=r6.cal Z λ_ F _ _ _=>HN F B
 show Jt (Mx n0 B sL nY eM lV yX ko C4 Dy eI GC) T
end W28
namespace DL
open L2
def ke{a:cf}{S:az}{Q:Bool->az->Prop}(q:Q true S):E dZ a S Q:=#[_,_,L,q]
section
variable{S:az}
def yC{i j:Int}{Q:D->Prop}(q:Q (.int (i+j))):Op (bW S (.int i) (.int j)) Q:=#[_,L,q]
def L4{i j:Str}{Q:D->Prop}(h:i.length+j.length<=sizeLine)(q:Q (.str (i++j))):Op (bW S (.str i) (.str j)) Q:=#[_,by erw[bW];rw[Qhq h],q]
def dA{i j:List D}{Q:D->Prop}(h:i.length+j.length<=sizeLine)(q:Q (.tup (i++j))):Op (bW S (.tup i) (.tup j)) Q:=#[_,by erw[bW];rw[Qhq h],q]
def ua{k:Int->Int->D}{i j:Int}{Q:D->Prop}(q:Q (k i j)):Op (intD (λ_ _=>True) k S (.int i) (.int j)) Q:=#[_,by erw[intD,if_true],q]
def j6{i j:Int}{Q:D->Prop}(h:0<j)(q:Q (.int (i%j))):Op (nk S (.int i) (.int j)) Q:=#[_,by erw[nk,intD];rw[Qhq h],q]
def GT{i j:Int}{Q:D->Prop}(h:HU i j)(q:Q (.int (i/j))):Op (Ag S (.int i) (.int j)) Q:=#[_,by erw[Ag,intD];rw[Qhq h],q]
def jR{i j:Int}{Q:D->Prop}(h:HY i j)(q:Q (.int (i*j))):Op (lJ S (.int i) (.int j)) Q:=#[_,by erw[lJ,intD];rw[Qhq h.ok],q]
def av{ds:List D}{i:Int}{d:D}{Q:D->Prop}(h:nT ds i=some d)(q:Q d):Op (qT S (.tup ds) (.int i)) Q:=#[_,h,q]
def ie{k:Nat}{ds:List D}{i:Int}{d:D}{Q:D->Prop}(a:S[k]?=some (.lst ds))(h:nT ds i=some d)(q:Q d):Op (qT S (.ref k) (.int i)) Q:=#[_,by erw[qT,a];exact h,q]
def du{ds:List D}{Q:List D×Tag->Prop}(q:Q (ds,.tu)):Op (t_ S (.tup ds)) Q:=#[_,L,q]
def dj{k:Nat}{ds:List D}{Q:List D×Tag->Prop}(a:S[k]?=some (.lst ds))(q:Q (ds,.st k)):Op (t_ S (.ref k)) Q:=#[_,by erw[t_,a],q]
end
def aY{b:Bool}{p q:Prop}(c:b=true->p)(a:b=false->q):if b=true then p else q:=by
 cases b with
 |true=>exact c L
 |false=>exact a L
end DL
local macro_rules|`(tactic|injection $n:num)=>do
 let k:=n.getNat
 if k<6 then `(tactic|injection $(Lean.Syntax.mkNumLit (toString (k+1)))) else Lean.Macro.throwError ""
local macro_rules|`(tactic|injection $n:num)=>do
 let k:=n.getNat
 if k=6 then `(tactic|first|((with_reducible refine DL.Sj ?_); intro _)|((with_reducible refine DL.aA (d := ?_) ?_ ?_); rotate_left; rfl)|dsimp only [DL.bF, DL.aW, DL.bH, DL.cO, DL.c_, DL.iO]) else
 let mut a:Array (Lean.TSyntax `Lean.Parser.Tactic.tacticSeq):= (List.toArray [])
 for s in ((["aK","Sn","uT","Sz","ed","gA","QL","eZ","L_","si","cq","t_auS","fh","uO","aQ","cG","vX","k_","l8","Qs","fP","sO","tM","oP","oZ","e_neNil","gn","q_","cu","yM","BE","wc","OE","PB","ke","aN","SA","qe","uA","yC","ua","du"]:List String).drop (7*k)).take 7 do a:=a.push (←`(tacticSeq|refine $(Lean.mkIdent (.str (.str .anonymous "DL") s)) ?_))
 `(tactic|with_reducible first $[| $a]*)
local macro_rules|`(tactic|symm)=>`(tactic|repeat injection 0)
local macro_rules|`(tactic|apply $e)=>`(tactic|(refine $e;symm))
namespace W28
open L2 DL
noncomputable def p8(a b c:Int):O:=.lst [.int a,.int b,.int c]
def EN{S:az}{k:Nat}{a b l m:Int}{Q:Res->az->Prop}(e:S[k]?=some (p8 a b l))(g:0<m)(w:m<1000000)
  (h:∀(d t r q:Int),0<=d->d<m->Q (.d (.int d)) (S.set k (p8 t r q))):Fn bV [.ref k,.int m] S Q:=by
 have s:k<S.length:=(gQs.mp e).1
 have n:∀(o:O),(S.set k o).take S.length=S.set k o:=λo=>by rw[List.take_of_length_le];simp
 refine bP ?_
 unfold mG
 symm
 refine ie e L ?_
 symm
 refine aY (λc=>?_) (λc=>?_)
 ·symm
  refine ie e L ?_
  symm
  refine j6 g ?_
  symm
  refine ie e L ?_
  symm
  refine GT #[g,by omega] ?_
  symm
  refine#[_,_,_,_,L,L,e,L,?_]
  symm
  refine i7 (vo (by rfl)) (n _) (λ_ z=>by cases z) L ?_
  exact h _ _ _ _ (Int.emod_nonneg _ (!0)) (Int.emod_lt_of_pos _ g)
 ·refine cq ?_
  symm
  refine ie e (d:=.int l) L ?_
  symm
  refine#[_,_,_,_,L,L,e,L,?_]
  have i:∀o:O,(S.set k o)[k]?=some o:=λo=>by rw[Qyq s]
  symm
  refine ie (i _) (d:=.int b) L ?_
  symm
  refine jR (.inr #[by decide,by decide]) ?_
  symm
  refine ie (i _) (d:=.int (l+1)) L ?_
  refine jR (.inl #[by decide,by decide]) ?_
  symm
  refine j6 (!1) ?_
  generalize f:(b*69621+7919*_+1)%2147483629=mx
  have v:0<=mx:=by rw[<-f];exact Int.emod_nonneg _ (!1)
  have u:mx<2147483629:=by rw[<-f];exact Int.emod_lt_of_pos _ (!1)
  symm
  refine#[_,_,_,_,L,L,i _,L,?_]
  have p:∀o j:O,((S.set k o).set k j)[k]?=some j:=λo j=>by rw[List.set_set];exact i _
  symm
  refine ie (p _ _) (d:=.int mx) L ?_
  symm
  refine ie (p _ _) (d:=.int mx) L ?_
  symm
  refine j6 (!1) ?_
  symm
  refine jR (.inl #[by omega,by omega]) ?_
  symm
  refine j6 (!1) ?_
  symm
  refine GT #[by decide,by decide] ?_
  symm
  refine j6 g ?_
  symm
  rw[List.set_set]
  refine i7 (vo (by rfl)) (n _) (λ_ z=>by cases z) L ?_
  exact h _ _ _ _ (Int.emod_nonneg _ (!0)) (Int.emod_lt_of_pos _ g)
structure Ex(k:Nat)(S S':az):Prop where
 len:S.length<=S'.length
 keep:∀(j:Nat) (o:O),j≠k->S[j]?=some o->S'[j]?=some o
 pot:∃a b c,S'[k]?=some (p8 a b c)
def Ex.refl{k:Nat}{S:az}{a b c:Int}(h:S[k]?=some (p8 a b c)):Ex k S S:=#[Qmq _,λ_ _ _ h=>h,_,_,_,h]
def Ex.trans{k:Nat}{S a S2:az}(x:Ex k S a)(y:Ex k a S2):Ex k S S2:=#[QAq x.len y.len,λj o n h=>y.keep j o n (x.keep j o n h),y.pot]
def Ex.set{k:Nat}{S d:az}{a b c:Int}(x:Ex k S d):Ex k S (d.set k (p8 a b c)):=by
 let#[_,_,_,h]:=x.pot
 show#[by simpa using x.len,λj o n h=>?_,a,b,c,Qyq (gQs.mp h).1]
 rw[QKq (Ne.symm n)]
 show x.keep j o n h
def Ex.app{k:Nat}{S d G:az}(x:Ex k S d):Ex k S (d++G):=by
 let#[a,b,c,h]:=x.pot
 show#[by rw[lQa];have:=x.len;omega,λj o n h=>?_,a,b,c,?_]
 ·have:=x.keep j o n h
  rw[QHq (gQs.mp this).1]
  show this
 ·rw[QHq (gQs.mp h).1]
  show h
def Ex.put{k r:Nat}{S d:az}{o:O}(x:Ex k S d)(i:S.length<=r)(f:k<S.length):Ex k S (d.set r o):=by
 let#[a,b,c,h]:=x.pot
 show#[by simpa using x.len,λj e n h=>?_,a,b,c,?_]
 ·let g:=(gQs.mp h).1
  rw[QKq (!0)]
  show x.keep j e n h
 ·rw[QKq (!0)]
  show h
def Ex.lt{k:Nat}{S d:az}(x:Ex k S d):k<d.length:=by
 let#[a,b,c,h]:=x.pot
 show(gQs.mp h).1
def di{S G:az}{j:Nat}{o:O}(h:S[j]?=some o):(S++G)[j]?=some o:=by
 rw[QHq (gQs.mp h).1]
 show h
def aX{S:az}{o:O}:(S++ [o])[S.length]?=some o:=by simp
def mq{S:az}{k j:Nat}{o o':O}(n:j≠k)(h:S[j]?=some o):(S.set k o')[j]?=some o:=by
 rw[QKq (Ne.symm n)]
 show h
def jK{S:az}{j:Nat}{o o':O}(h:S[j]?=some o):(S.set j o')[j]?=some o':=Qyq (gQs.mp h).1
def Ex.clean{k:Nat}{S f:az}(x:Ex k S f)(l:k<S.length):n_ S f/\∃a b c,f.take S.length=S.set k (p8 a b c):=by
 let#[a,b,c,h]:=x.pot
 have g:∀j,j<S.length->f[j]?=(S.set k (p8 a b c))[j]? :=λj d=>by
  by_cases e:j=k
  ·subst e
   rw[h,Qyq d]
  ·rw[QKq (Ne.symm e),x.keep j _ e (gQe d),gQe d]
 show#[#[x.len,λj o d e=>?_],a,b,c,?_]
 ·by_cases i:j=k
  ·subst i
   rw[h] at e
   cases e
   show .inr L
  ·rw[x.keep j _ i (gQe d)] at e
   rw[gQe d]
   show .inl e
 ·apply List.ext_getElem?
  intro j
  by_cases d:j<S.length
  ·rw[List.getElem?_take_of_lt d]
   show g j d
  ·rw[List.getElem?_eq_none (by rw[Qxq];omega),List.getElem?_eq_none (by simp;omega)]
def K_{k:Nat}{S d:az}{ds:List D}{Q:Res->az->Prop}(x:Ex k S d)(e:k<S.length)(hl:bK S.length ds=true)(q:∀a b c,Q (.l ds) (S.set k (p8 a b c))):Op (eT S ds d) λp=>Q p.1 p.2:=by
 let#[g,a,b,c,f]:=x.clean e
 show mO g f hl (q a b c)
def iz{S f:az}{k:Nat}{m:Int}{Q:Res->az->Prop}(x:Ex k f S)(j:0<m)(l:m<1000000)
  (h:∀(d:Nat) (e:az),(d:Int)<m->Ex k f e->Ex k S e->e.length=S.length->Q (.d (.int d)) e):Fn bV [.ref k,.int m] S Q:=by
 let#[a,b,c,g]:=x.pot
 show EN g j l λd r p o q i=>?_
 obtain⟨n,rfl⟩:∃n:Nat,d=n:=#[d.toNat,by omega]
 show h n _ i x.set (Ex.refl g).set (by simp)
def aP{α:Type}{xs:List α}{j:Nat}{x:α}(h:xs[j]?=some x):nT xs (j:Int)=some x:=by
 let a:=(gQs.mp h).1
 unfold nT HW
 rw[Qhq (!0),Qhq (!0)]
 simpa using h
def Ib{m:cf}{S p:az}{k n:Nat}{xs:List D}{f:fI}{Q:D->az->Prop}(q:m[0]?=some (some (.ref k)))(x:Ex k p S)(v:0<n)(z:n<1000)(hl:xs.length=n)
  (r:E f m S λds j=>ds=xs/\j=S)
  (h:∀(d:D) (e:az),d∈xs->Ex k p e->Ex k S e->e.length=S.length+1->Q d e):E (bf qT (eR (ft f)) (aB bV (aw (ar 0) (aw (cF (.int n)) ax)))) m S Q:=by
 show fh (l8 (k_ (r.mono λds j t=>?_)))
 let#[o,i]:=t
 subst o i
 show#[nQl (bj (!0)),?_]
 show gn (aQ (aA q (aQ (uO (cG ?_)))))
 let w:=x.lt
 show iz (x.app (G:= [O.lst ds])) (!0) (!0) λd e u o i l=>?_
 have g:d<ds.length:=by omega
 show ie (i.keep _ _ (!0) aX) (aP (gQe g)) ?_
 have y:Ex k j j:=by let#[a,b,c,s]:=x.pot;show Ex.refl s
 show h _ _ (List.getElem_mem g) o (y.app.trans i) (by rw[l];simp)
end W28
namespace DL
open L2
mutual
theorem sU{m:Nat}:∀{d:D},cc 0 d=true->cc m d=true
 |.non,_=>rfl
 |.bl _,_=>rfl
 |.int _,_=>rfl
 |.str _,_=>rfl
 |.tup ds,h=>by erw[cc] at h|-;show jd h
 |.ref k,h=>by simp[cc] at h
 |.fn _,_=>rfl
theorem jd{m:Nat}:∀{ds:List D},bK 0 ds=true->bK m ds=true
 | [],_=>rfl
 | d::ds,h=>by
   erw[bK,QCq] at h|-
   show#[sU h.1,jd h.2]
end
theorem wC{m:Nat}:∀{ds:List D},(∀d∈ds,cc m d=true)->bK m ds=true
 | [],_=>rfl
 | d::ds,h=>by
   erw[bK,QCq]
   show#[h d (QBq ..),wC λe a=>h e (Qpq _ a)]
def bg{α:Type}{m:Nat}{f:α->D}{l:List α}(h:∀a∈l,cc m (f a)=true):bK m (l.map f)=true:=wC λd b=>by
 let#[a,c,rfl]:=Qkq.mp b
 show h a c
theorem vM:∀a:List Str,vp (a.map D.str)=some a
 | []=>rfl
 |s::a=>by erw[QDq,vp];rw[vM a];rfl
def Mh{c:cf}{S:az}{f:dU}{Q:List D->az->Prop}(h:E f c S λp b=>p.2.isL=true/\∃a:List Str,p.1=a.map D.str/\a.length<64/\Q ((pB a).map D.str) b):E (Dq f) c S Q:=by
 let#[p,b,d,l,a,g,e,q]:=h
 show#[_,b,by unfold Dq;rw[d];erw[Qbq];rw[Qhq l,g,vM];erw[Qbq];rw[Qhq e],q]
def oT{ds:List D}{y:D}{Q:List D×D->Prop}(h:ds.length<sizeLine)(q:Q (ds++ [y],.non)):Op (pO ds [y]) Q:=#[_,by erw[pO];rw[Qhq h],q]
def d_{b:cf}{S:az}{n:Nat}{g:qE}{ds:List D}{Q:cf->az->Prop}(d:ds.length=n)(h:Qc g ds b S Q):Tg (jS (nG n g)) (.tup ds) b S Q:=by
 let#[a,c,e,q]:=h
 show#[a,c,by show nG n g ds b S=_;unfold nG;rw[Qhq d];show e,q]
def aZ{a:cf}{S:az}{Q:cf->az->Prop}(q:Q a S):Qc dG [] a S Q:=#[_,_,L,q]
def au{b:cf}{S:az}{f:lO}{g:qE}{d:D}{ds:List D}{Q:cf->az->Prop}(h:Tg f d b S λa e=>Qc g ds a e Q):Qc (aG f g) (d::ds) b S Q:=by
 let#[a,e,j,c,i,k,q]:=h
 show#[c,i,by show(f d b S).bind _=_;rw[j];show k,q]
end DL
namespace W28
open L2 DL
def K6{c:cf}{S:az}{i j:Nat}{f:fI}{Q:Out->Prop}(h:E f c S λds d=>∃a b,ds= [a,b]/\Q (.nx ((c.set i (some a)).set j (some b)) d)):T (yp i j f) c S Q:=by
 let#[ds,d,e,a,b,rfl,q]:=h
 show#[_,by unfold yp;rw[e];rfl,q]
def LY{c:cf}{S:az}{i j:Nat}{f:fI}{Q:Out->Prop}(h:E f c S λds d=>∃a b,ds= [a,b]/\Q (.nx ((c.set i (some a)).set j (some b)) d)):T (oO (bc f) (jS (nG 2 (aG (bS i) (aG (bS j) dG))))) c S Q:=by
 show L_ (vX (h.mono λds d g=>?_))
 let#[a,b,e,q]:=g
 subst e
 show#[by show 2<=_;decide,d_ L (au (aN (au (aN (aZ q)))))]
noncomputable def lets:Str:="abcdefghijklmnopqrstuvwxyz"
noncomputable def let1(i:Nat):Str:=#[(List.toArray [lets.cps.toList.getD i 0])]
noncomputable def Mo:List Str:= ["","zz","x","qqqqqqq"]
noncomputable def Qf(j:Nat):Str:=Mo.getD j ""
noncomputable def nm(i j:Nat):Str:=let1 i++Qf j
def Hu(x:Str):Prop:=∃i j,i<26/\j<4/\x=nm i j
noncomputable def HL(f s a:Nat):List Str:=(List.range a).map λk=>nm ((f+s*k)%26) ((f+k)%4)
def zU:∀i,i<26->∀j,j<4->PyData.strOk (nm i j)=true/\(nm i j).length<=8/\(let1 i).length=1:=by decide +kernel
def Kr:∀i,i<26->∀a,a<26->∀j,j<4->∀b,b<4->nm i j=nm a b->i=a:=by decide +kernel
def Hr:∀f,f<26->∀s∈([1,3,5,7,9,11]:List Nat),((List.range 24).map λk=>(f+s*k)%26).Nodup:=by decide +kernel
def Fh{f s m:Nat}(e:f<26)(g:s∈([1,3,5,7,9,11]:List Nat))(d:m<=24):(HL f s m).Nodup:=by
 let h:=Hr f e s g
 rw[List.nodup_iff_pairwise_ne,List.pairwise_map] at h
 unfold HL
 rw[List.nodup_iff_pairwise_ne,List.pairwise_map]
 have c:(List.range m).Sublist (List.range 24):=List.range_sublist.mpr d
 show(h.sublist c).imp λ{a b} hne z=>hne ?_
 show Kr _ (Nat.mod_lt _ (!1)) _ (Nat.mod_lt _ (!1)) _ (Nat.mod_lt _ (!1)) _ (Nat.mod_lt _ (!1)) z
def Na{f s m:Nat}:∀x∈HL f s m,Hu x:=λx a=>by
 let#[k,_,rfl]:=Qkq.mp a
 show#[_,_,Nat.mod_lt _ (!1),Nat.mod_lt _ (!1),L]
def Mf:∀i:Nat,i<26->nT lets.cps.toList (i:Int)=some (lets.cps.toList.getD i 0):=by decide +kernel
def LJ:∀j:Nat,j<4->nT (([.str "",.str "zz",.str "x",.str "qqqqqqq"]:List D)) (j:Int)=some (.str (Qf j)):=by
 intro j a
 rcases j with _|_|_|_|j
 ·rfl
 ·rfl
 ·rfl
 ·rfl
 ·omega
def JX:∀j,(Qf j).length<=7:=by
 intro j
 rcases j with _|_|_|_|j
 ·decide
 ·decide
 ·decide
 ·decide
 ·show(Str.length (Mo.getD (j+4) ""))<=7
  simp[Mo]
  decide
def OJ{S:az}{z:Str}{i:Int}{c:Nat}{Q:D->Prop}(hl:z.length<=sizeLine)(h:nT z.cps.toList i=some c)(q:Q (.str #[(List.toArray [c])])):Op (qT S (.str z) (.int i)) Q:=#[_,by erw[qT];rw[Qhq hl,h];rfl,q]
def LV{d:D}(h:d∈([.int 1,.int 3,.int 5,.int 7,.int 9,.int 11]:List D)):∃s:Nat,s∈([1,3,5,7,9,11]:List Nat)/\d=.int s:=by
 erw[Qsq,QXq,or_false] at h
 rcases h with rfl|rfl|rfl|rfl|rfl|rfl
 ·show#[1,by decide,L]
 ·show#[3,by decide,L]
 ·show#[5,by decide,L]
 ·show#[7,by decide,L]
 ·show#[9,by decide,L]
 ·show#[11,by decide,L]
def G5{S v:az}{k e:Nat}{Q:Res->az->Prop}(x:Ex k v S)(M:e<=24)
  (h:∀(ws:X6) (g:az),ws.Nodup->ws.Pairwise uV->ws.length=e->(∀z∈ws,Hu z)->Ex k v g->Ex k S g->g.length=S.length->Q (.l (ws.map D.str)) g):Fn fO [.ref k,.int e] S Q:=by
 have y:Ex k S S:=by let#[a,b,c,J]:=x.pot;show Ex.refl J
 let R:=x.lt
 show bP ?_
 unfold kL
 show aK (eZ (uO ?_))
 apply aK (LY ?_)
 show iz y (!1) (!1) λf Z X N U Y=>?_
 dsimp only[bF,aW,bH,cO,c_,iO]
 show aQ (Ib (n:=6) (xs:= [.int 1,.int 3,.int 5,.int 7,.int 9,.int 11]) L N (!1) (!1) L (by symm;show#[L,L]) λd W q G A l2=>?_)
 let#[s,w,rfl]:=LV q
 have u:s<12:=by
  erw[Qsq,QXq,or_false] at w
  omega
 apply cG #[_,_,L,?_]
 apply tU (qe ?_)
 show#[(e:Int),L,by omega,?_]
 show#[λi p g m=>(∃o:Option D,p= [o,some (.str "abcdefghijklmnopqrstuvwxyz"),some (.int f),some (.int s)])/\Ex k S g/\m=(HL f s i).map D.str,#[#[none,L],G,L],λ_ _ _ _ _=>trivial,?_,?_]
 ·rintro i d p g m q ⟨⟨o,rfl⟩,e4,rfl⟩
  let K:=(gQs.mp q).1
  erw[iY,lQm,QVq] at K
  obtain rfl:d=.int i:=by
   erw[iY,gQm] at q
   let#[j,P,rfl]:=oQm.mp q
   have:=(gQs.mp P).2
   simp at this
   subst this
   simp
  apply aN ?_
  rw[Qhq L]
  symm
  apply jR (.inl #[by omega,by omega]) ?_
  show j6 (!1) ?_
  have F:((f:Int)+(s:Int)*(i:Int))%26=(((f+s*i)%26:Nat):Int):=by push_cast;rfl
  rw[F]
  have r:(f+s*i)%26<26:=Nat.mod_lt _ (!1)
  apply OJ (!1) (Mf _ r) ?_
  apply#[by decide,?_]
  show j6 (!1) ?_
  have I:((f:Int)+(i:Int))%4=(((f+i)%4:Nat):Int):=by push_cast;rfl
  rw[I]
  have C:(f+i)%4<4:=Nat.mod_lt _ (!1)
  show ie aX (LJ _ C) ?_
  show L4 (QAq (show(let1 ((f+s*i)%26)).length+(Qf ((f+i)%4)).length<=8 by have:=(zU _ r 0 (!1)).2.2;have:=JX ((f+i)%4);omega) (!1)) ?_
  show#[Qqq (show _<64 by erw[HL,lQm,QVq];omega) (!1),#[_,L],e4.app,?_]
  erw[HL,List.range_succ,Qzq,QDq,List.map_nil]
  rfl
 ·rintro p g m ⟨-,e4,rfl⟩
  have B:(iY 0 (e:Int)).length=e:=by erw[iY,lQm,QVq];omega
  show T _ _ (g++ [O.lst ((HL f s (iY 0 (e:Int)).length).map D.str)]) _
  rw[B]
  symm
  apply Mh ?_
  show dj aX ?_
  show#[L,HL f s e,L,by erw[HL,lQm,QVq];omega,?_]
  let t:=kT (HL f s e)
  show K_ e4.app R (bg λ_ _=>rfl) λa b c=>?_
  show h _ _ (t.symm.nodup (Fh (!0) w M)) (iK _) (by rw[t.length_eq];simp[HL]) (λz H=>Na z (t.mem_iff.mp H)) x.set y.set (by simp)
end W28
namespace DL
open L2
def KU{a:cf}{S:az}{f g:dU}{Q:List D->az->Prop}(h:E f a S λp b=>E g a b λr S2=>(p.2.isM=true/\r.2.isM=true/\p.2.stays S2 p.1/\p.1.length+r.1.length<=sizeLine)/\Q (p.1++r.1) S2):E (GK f g) a S Q:=by
 let#[p,b,c,r,S2,d,l,q]:=h
 show#[_,S2,by unfold GK;rw[c];erw[Qbq];rw[d];erw[Qbq];rw[Qhq l],q]
def fq{S:az}{i j:Int}{Q:D->Prop}(q:Q (.bl (decide (i=j)))):Op (gJ false S (.int i) (.int j)) Q:=#[_,by refine((if_pos (c:=A6 (.int i) (.int j)=true) (e:=none) rfl).trans ?_);simp,q]
def ix{S:az}{i j:Str}{Q:D->Prop}(q:Q (.bl (decide (i=j)))):Op (gJ false S (.str i) (.str j)) Q:=#[_,by refine((if_pos (c:=A6 (.str i) (.str j)=true) (e:=none) rfl).trans ?_);simp,q]
section
variable{a:cf}{S:az}
def lY{i j:Int}{Q:D->Prop}(q:Q (.bl (!decide (i=j)))):Op (gJ true S (.int i) (.int j)) Q:=#[_,by refine((if_pos (c:=A6 (.int i) (.int j)=true) (e:=none) rfl).trans ?_);simp,q]
end
end DL
namespace W28
open L2 DL
noncomputable def ops:List Str:= ["plus","minus","less","same","both"]
inductive Tr where
 |num (n:Nat)|word (x:Str)|waits (b:Str)|no (t:Tr)|two (o:Str) (a b:Tr)
noncomputable def Tr.d:Tr->D
 |.num n=>.int n
 |.word x=>.str x
 |.waits b=>.tup [.str "waits",.str b]
 |.no t=>.tup [.str "not",t.d]
 |.two o a b=>.tup [.str o,a.d,b.d]
def Tr.Ok(ws bs:X6):Tr->Prop
 |.num n=>n<=9
 |.word x=>x∈ws
 |.waits b=>b∈bs
 |.no t=>t.Ok ws bs
 |.two o a b=>o∈ops/\a.Ok ws bs/\b.Ok ws bs
noncomputable def Tr.dep:Tr->Nat
 |.num _=>1
 |.word _=>1
 |.waits _=>1
 |.no t=>t.dep+1
 |.two _ a b=>max a.dep b.dep+1
theorem Tr.low:∀t:Tr,cc 0 t.d=true
 |.num _=>rfl
 |.word _=>rfl
 |.waits _=>rfl
 |.no t=>by erw[Tr.d,cc,bK];rw[t.low];rfl
 |.two _ a b=>by erw[Tr.d,cc,bK];rw[a.low,b.low];rfl
inductive Rw where
 |put (x:Str) (t:Tr)|unl (t:Tr) (n:Nat)|go (n:Nat)|do_ (g:Option Str) (r d:Str) (t:Tr)|wait (b:Str) (t:Tr)|call (b:Str)|all (b:Str)|tell (t:Tr)
 |take (p:Str)|give (p:Str)|pass (p q:Str)|say (t:Tr)
noncomputable def MN:Option Str->D
 |none=>.non
 |some x=>.str x
noncomputable def Rw.d:Rw->D
 |.put x t=>.tup [.str "put",.str x,t.d]
 |.unl t n=>.tup [.str "unless",t.d,.int n]
 |.go n=>.tup [.str "go",.int n]
 |.do_ g r d t=>.tup [.str "do",MN g,.str r,.str d,t.d]
 |.wait b t=>.tup [.str "wait",.str b,t.d]
 |.call b=>.tup [.str "call",.str b]
 |.all b=>.tup [.str "all",.str b]
 |.tell t=>.tup [.str "tell",t.d]
 |.take p=>.tup [.str "take",.str p]
 |.give p=>.tup [.str "give",.str p]
 |.pass p q=>.tup [.str "pass",.str p,.str q]
 |.say t=>.tup [.str "say",t.d]
structure Sc where
 own:Bool
 ws:List Str
 ps:List Str
 bs:List Str
 gs:List (Str×Str)
 ts:List Str
def Fe(a:Sc)(t:Tr):Prop:=t.Ok a.ws a.bs/\t.dep<=4
def Rw.Ok(a:Sc)(n:Nat):Rw->Prop
 |.put x t=>x∈a.ps/\Fe a t
 |.unl t m=>Fe a t/\m<=n
 |.go m=>m<=n
 |.do_ g r d t=>(∀x,g=some x->x∈a.ps)/\(r,d)∈a.gs/\Fe a t
 |.wait b t=>a.own=false/\b∈a.bs/\Fe a t
 |.call b=>a.own=false/\b∈a.bs
 |.all b=>a.own=false/\b∈a.bs
 |.tell t=>a.own=false/\Fe a t
 |.take p=>a.own=true/\p∈a.ts
 |.give p=>a.own=true/\p∈a.ts
 |.pass p q=>a.own=true/\p∈a.ts/\q∈a.ts
 |.say t=>a.own=true/\Fe a t
theorem Rw.low(r:Rw):cc 0 r.d=true:=by
 cases r with
 |do_ g r d t=>cases g <;>erw[Rw.d,cc,bK,MN,t.low,Bool.and_true,Bool.true_and]
 |_=>erw[Rw.d,cc,bK,Tr.low,Bool.and_true,Bool.true_and]
def Lf(a:Sc)(rs:List Rw):Prop:=∀r∈rs,r.Ok a rs.length
def NK{d:cf}{S:az}{a:Bool}{f g:dU}{Q:D->az->Prop}(h:E f d S λp e=>E g d e λr S2=>(p.2.isL=true/\r.2.isL=true/\p.2.stays S2 p.1)/\∃b vs,ip p.1=some b/\ip r.1=some vs/\Q (.bl (if a then !Ca b vs else Ca b vs)) S2):E (eqQ a f g) d S Q:=by
 let#[p,e,j,r,S2,i,c,b,vs,k,l,q]:=h
 show#[_,S2,by unfold eqQ;rw[j];erw[Qbq];rw[i];erw[Qbq];rw[Qhq c,k];erw[Qbq];rw[l];rfl,q]
noncomputable def p_:List Str:= ["given"]
end W28
namespace DL
open L2
def Rj{a b:cf}{d:D}(h:a.set 0 none=b.set 0 none):a.set 0 (some d)=b.set 0 (some d):=by
 have:=congrArg (λc:cf=>c.set 0 (some d)) h
 simpa using this
def MZ{g:cf}{S:az}{js:List (Option Nat)}{f:dU}{e:aU}{Q:List D->az->Prop}(F:D->D)(h:E f g S λp c=>p.2.stays c p.1/\p.1.length<=1000/\(∀d∈p.1,E e ((nZ js g).set 0 (some d)) c λy S2=>y=F d/\S2=c)/\Q (p.1.map F) c):
  E (cM js (rG f) (bS 0) dZ e) g S Q:=by
 show tU (uA (h.mono λp c l=>?_))
 let#[m,hl,s,q]:=l
 show#[λn b i a=>i=c/\a=(p.1.take n).map F/\b.set 0 none=(nZ js g).set 0 none,#[L,L,L],λn b i a h=>by rw[h.1];show m,λn d b i a j h=>?_,λb i a h=>?_]
 ·let#[rfl,rfl,h3]:=h
  show aN (ke ?_)
  rw[Qhq L,Rj h3]
  show(s d (mQg j)).mono λy S2 o=>?_
  let#[r,k]:=o
  subst r k
  let t:=(gQs.mp j).1
  show#[?_,L,?_,by simp]
  ·rw[lQm,Qxq]
   show bj (!0)
  ·rw[QYq,j]
   simp
 ·let#[rfl,rfl,_]:=h
  rw[QEq]
  show q
theorem Lm{c:iH}{b:cH}{Q:Out->Prop}(I:Nat->cf->az->Prop)(i:∀m a S,I m a S->E c a S λk f=>if k=true then∃e,m=e+1/\T b a f λo=>match o with|.nx d S2=>I e d S2|_=>False else Q (.nx a f)):
  ∀(n m:Nat) (a:cf) (S:az),m<n->I m a S->T (AH c b n) a S Q
 |0,_,_,_,h,_=>absurd h (Nat.not_lt_zero _)
 | n+1,m,a,S,h,hi=>by
   let#[k,f,g,q]:=i m a S hi
   cases k with
   |false=>show#[_,by erw[AH];rw[g];rfl,q]
   | true=>
     let#[e,rfl,o,e2,q]:=(q:∃e,m=e+1/\T b a f _)
     cases o with
     | nx d S2=>
       let#[o,j,q]:=Lm I i n e d S2 (!0) q
       show#[o,by erw[AH];rw[g];erw[Qbq,if_true];rw[e2];show j,q]
     |_=>show q.elim
def cJ{a:cf}{S:az}{Q:Option Int->az->Prop}(q:Q none S):E uQ a S Q:=#[_,_,L,q]
def cI{b:cf}{S:az}{f:aU}{Q:Option Int->az->Prop}(h:E f b S λd a=>∃i,d=.int i/\Q (some i) a):E (ub f) b S Q:=by
 let#[d,a,c,i,rfl,q]:=h
 show#[_,a,by unfold ub;rw[c];rfl,q]
end DL
namespace W28
open L2 DL
noncomputable def yw(p:Str×Nat):D:=.tup [.str p.1,.int p.2]
noncomputable def Nk(p:Str×Str):D:=.tup [.str p.1,.str p.2]
noncomputable def Dx(p:Str×List Rw):D:=.tup [.str p.1,.tup (p.2.map Rw.d)]
structure Rm where
 name:Str
 ah:Str
 ao:List (Str×Nat)
 aa:List (Str×Str)
 ae:List (Str×List Rw)
noncomputable def Rm.d(r:Rm):D:=.tup [.str r.name,.str r.ah,.tup (r.ao.map yw),.tup (r.aa.map Nk),.tup (r.ae.map Dx)]
structure Lb(gs:List (Str×Str))(r:Rm):Prop where
 mn:r.ah="at once" \/r.ah="when free"
 tv:∀p∈r.ao,p.2<=9
 l1:r.ao.length<=6
 l2:r.aa.length<=6
 l3:r.ae.length<=6
 bv:∀p∈r.aa,p.2="row" \/p.2="turns"
 pr:∀p∈r.ae,Lf #[false,r.ao.map (·.1)++p_,r.ao.map (·.1),r.aa.map (·.1),gs,[]] p.2/\p.2.length<=12
noncomputable def dJ(rs:List Rm):List (Str×Str):=rs.flatMap λr=>r.ae.map λp=>(r.name,p.1)
end W28
namespace DL
open L2
def OP{c:cf}{S:az}{f:aU}{g:dU}{Q:D->az->Prop}(h:E f c S λx b=>∃k a,x=.ref k/\b[k]?=some (.lst a)/\E g c b λp S2=>∃ds,S2[k]?=some (.lst ds)/\(p.2.isM=true/\ds.length+p.1.length<=sizeLine)/\Q .non (S2.set k (.lst (ds++p.1)))):E (G3 f g) c S Q:=by
 let#[x,b,d,k,a,rfl,h1,p,S2,e2,ds,h2,h3,q]:=h
 show#[_,_,by unfold G3;rw[d];erw[Qbq,e2,h1,h2];rw[Qhq h3],q]
def Gm{b:Bool}{Q:D->Prop}(q:Q (.int (if b then 1 else 0))):Op (intOfD [.bl b]) Q:=#[_,L,q]
def nO{j:Nat}{n:Nat}{d:D}(h:(iY 0 (j:Int))[n]?=some d):d=.int n/\n<j:=by
 erw[iY,gQm] at h
 let#[i,c,rfl]:=oQm.mp h
 let#[b,a]:=gQs.mp c
 simp at b a
 subst a
 show#[by simp,by omega]
def m6{j:Nat}:(iY 0 (j:Int)).length=j:=by erw[iY,lQm,QVq];omega
end DL
namespace W28
open L2 DL
noncomputable def dk(p:List (Str×Nat)×List Rw):D:=.tup [.tup (p.1.map yw),.tup (p.2.map Rw.d)]
structure bD where
 aj:List Rm
 ai:List (Str×Nat)
 ak:List (Str×Nat)
 af:List (List (Str×Nat)×List Rw)
noncomputable def bD.d(w:bD):D:=.tup [.tup (w.aj.map Rm.d),.tup (w.ai.map yw),.tup (w.ak.map yw),.tup (w.af.map dk)]
structure Mz(gs:List (Str×Str))(ak ai:X6)(h:List (Str×Nat)×List Rw):Prop where
 tv:∀p∈h.1,p.2<=9
 l1:h.1.length<=6
 l2:h.2.length<=9
 l0:0<h.2.length
 pr:Lf #[true,h.1.map (·.1)++ak,h.1.map (·.1)++ak,[],gs,ai] h.2
structure bX(w:bD):Prop where
 nd:(w.aj.map (·.name)).Nodup
 l1:w.aj.length<=4
 l2:w.ai.length<=6
 l3:w.ak.length<=6
 l4:w.af.length<=4
 l0:0<w.af.length
 pv:∀p∈w.ai,p.2<=9
 sv:∀p∈w.ak,p.2<=9
 rm:∀r∈w.aj,Lb (dJ w.aj) r
 hd:∀h∈w.af,Mz (dJ w.aj) (w.ak.map (·.1)) (w.ai.map (·.1)) h
end W28
namespace DL
open L2
end DL
namespace W28
open L2 DL
end W28
namespace DL
open L2
end DL
namespace W28
open L2 DL
end W28
namespace DL
open L2
def Lw{l:cf}{S:az}{js:List (Option Nat)}{f:dU}{g:lO}{i:aU}{Q:List D->az->Prop}(P:cf->Prop)(F:D->D)(o:P (nZ js l)) (h:E f l S λp e=>p.2.stays e p.1/\p.1.length<=1000∧
   (∀d∈p.1,∀a,P a->Tg g d a e λc S2=>S2=e/\P c/\E i c e λy m=>y=F d/\m=e)/\Q (p.1.map F) e):E (cM js (rG f) g dZ i) l S Q:=by
 show tU (uA (h.mono λp e s=>?_))
 let#[t,hl,x,q]:=s
 show#[λn a j b=>j=e/\b=(p.1.take n).map F/\P a,#[L,L,o],λn a j b h=>by rw[h.1];show t,λn d a j b k h=>?_,λa j b h=>?_]
 ·let#[rfl,rfl,h3]:=h
  let#[c,S2,v,rfl,h4,h5]:=x d (mQg k) a h3
  show#[c,S2,v,ke ?_]
  rw[Qhq L]
  show h5.mono λy m u=>?_
  let#[r,w]:=u
  subst r w
  let z:=(gQs.mp k).1
  show#[?_,L,?_,h4]
  ·rw[lQm,Qxq]
   show bj (!0)
  ·rw[QYq,k]
   simp
 ·let#[rfl,rfl,_]:=h
  rw[QEq]
  show q
def uo{α:Type}{o:cf}{S:az}{js:List (Option Nat)}{f:dU}{g:lO}{k:aU}{Q:List D->az->Prop}(P:cf->Prop)(enc G:α->D)(t:P (nZ js o)) (h:E f o S λp i=>∃xs:List α,p.1=xs.map enc/\p.2.stays i p.1/\xs.length<=1000∧
   (∀x∈xs,∀a,P a->Tg g (enc x) a i λc S2=>S2=i/\P c/\E k c i λy s=>y=G x/\s=i)/\Q (xs.map G) i):E (cM js (rG f) g dZ k) o S Q:=by
 show tU (uA (h.mono λp i v=>?_))
 let#[xs,r,w,hl,C,q]:=v
 show#[λn a m b=>m=i/\b=(xs.take n).map G/\P a,#[L,L,t],λn a m b h=>by rw[h.1];show w,λn d a m b l h=>?_,λa m b h=>?_]
 ·let#[rfl,rfl,h3]:=h
  have l:p.1[n]?=some d:=l
  rw[r,gQm] at l
  let#[x,j,rfl]:=oQm.mp l
  let#[c,S2,A,rfl,h4,h5]:=C x (mQg j) a h3
  show#[c,S2,A,ke ?_]
  rw[Qhq L]
  show h5.mono λy s z=>?_
  let#[u,B]:=z
  subst u B
  let F:=(gQs.mp j).1
  show#[?_,L,?_,h4]
  ·rw[lQm,Qxq]
   show bj (!0)
  ·rw[QYq,j]
   simp
 ·let#[rfl,rfl,_]:=h
  have e:p.1.length=xs.length:=by rw[r,lQm]
  show Q ((xs.take p.1.length).map G) _
  rw[e,QEq]
  show q
def b_{S:az}{d:D}{Q:Res->az->Prop}(a:∀k,d≠.ref k)(hl:cc 0 d=true)(q:Q (.d d) S):Op (settle S d S) λp=>Q p.1 p.2:=i7 sk (QEq) a (sU hl) q
def FE{S:az}{ds:List D}{Q:Res->az->Prop}(hl:bK 0 ds=true)(q:Q (.l ds) S):Op (eT S ds S) λp=>Q p.1 p.2:=mO sk (QEq) (jd hl) q
end DL
namespace W28
open L2 DL
structure bG where
 room:Int
 deed:Int
 row:Int
 given:Int
 told:Int
structure bO where
 vals:List Int
 within:Int
 row:List Int
 ag:List Int
 aa:List (List (Int×Int))
structure aE where
 aj:List bO
 ai:List (Int×List Int)
 ak:List Int
 af:List (List Int×List bG)
noncomputable def bQ(l:List Int):D:=.tup (l.map D.int)
noncomputable def bG.d(f:bG):D:=.tup [.int f.room,.int f.deed,.int f.row,.int f.given,.int f.told]
noncomputable def pairD(p:Int×Int):D:=.tup [.int p.1,.int p.2]
noncomputable def dC(l:List (Int×Int)):D:=.tup (l.map pairD)
noncomputable def bO.d(r:bO):D:=.tup [bQ r.vals,.int r.within,bQ r.row,bQ r.ag,.tup (r.aa.map dC)]
noncomputable def AD(p:Int×List Int):D:=.tup [.int p.1,bQ p.2]
noncomputable def AF(h:List Int×List bG):D:=.tup [bQ h.1,.tup (h.2.map bG.d)]
noncomputable def aE.d(s:aE):D:=.tup [.tup (s.aj.map bO.d),.tup (s.ai.map AD),bQ s.ak,.tup (s.af.map AF)]
def i6(l:List Int):cc 0 (bQ l)=true:=by erw[bQ,cc];show bg λ_ _=>rfl
def rY(l:List (Int×Int)):cc 0 (dC l)=true:=by erw[dC,cc];show bg λ_ _=>rfl
def bO.low(r:bO):cc 0 r.d=true:=by
 erw[bO.d,cc,bK,i6,Bool.and_true,Bool.true_and]
 show bg λl _=>rY l
def Bb(p:Int×List Int):cc 0 (AD p)=true:=by erw[AD,cc,bK,i6,Bool.and_true]
def Bf(h:List Int×List bG):cc 0 (AF h)=true:=by
 erw[AF,cc,bK,i6,Bool.and_true,Bool.true_and]
 show bg λ_ _=>rfl
def aE.low(s:aE):cc 0 s.d=true:=by
 erw[aE.d,cc,bK,i6,Bool.and_true,Bool.true_and,QCq]
 show#[bg λr _=>r.low,bg λp _=>Bb p,bg λh _=>Bf h]
noncomputable def dF(ts:List (Str×Nat)):List Int:=ts.map λp=>(p.2:Int)
noncomputable def cv(r:Rm):bO:=#[dF r.ao,-1,[],[],r.aa.map λ_=> []]
noncomputable def D1:bG:=#[-1,-1,0,0,0]
noncomputable def bz(w:bD):aE:=#[w.aj.map cv,w.ai.map λp=>((p.2:Int),[]),dF w.ak,w.af.map λh=>(dF h.1,[D1])]
section
variable{S:az}{Q:Res->az->Prop}
def jt{ts:List (Str×Nat)}(l:ts.length<=1000)(h:Q (.d (bQ (dF ts))) S):Fn fD [.tup (ts.map yw)] S Q:=by
 show bP ?_
 unfold mh
 symm
 apply Lw (λc=>∃a b,c= [a,b]) (λd=>match d with|.tup [_,v]=>v|d=>d) #[none,none,L] ?_
 show#[trivial,by simpa using l,λd g c f=>?_,?_]
 ·let#[p,_,rfl]:=Qkq.mp g
  let#[a,b,rfl]:=f
  show d_ L (au (aN (au (aN (aZ ?_)))))
  apply#[L,#[_,_,L],?_]
  show#[L,L]
 ·have e:(ts.map yw).map (λd=>match d with|.tup [_,v]=>v|d=>d)=(dF ts).map D.int:=by
   erw[dF,QPq]
   rfl
  rw[e]
  show b_ (d:=bQ (dF ts)) (λk z=>(nomatch z)) (i6 _) h
def uY{r:Rm}(b:r.ao.length<=6)(c:r.aa.length<=6)(h:Q (.d (cv r).d) S):Fn iD [r.d] S Q:=by
 show bP ?_
 unfold kF
 symm
 apply d_ L (au (aN (au (aN (au (aN (au (aN (au (aN (aZ ?_)))))))))))
 apply jt (!0) ?_
 apply#[by decide,?_]
 apply#[by decide,?_]
 apply MZ (λ_=>.tup []) ?_
 show#[trivial,by simp;omega,λd a=>?_,?_]
 ·symm
  show#[by decide,L,L]
 ·symm
  show#[by show 5<=_;decide,?_]
  have e:D.tup ((r.aa.map Nk).map λ_=>D.tup [])=D.tup ((cv r).aa.map dC):=by
   erw[cv,QPq]
   rfl
  rw[e]
  show b_ (d:=(cv r).d) (λk z=>(nomatch z)) (bO.low _) h
def FW{w:bD}(o:bX w)(h:Q (.d (bz w).d) S):Fn wV [w.d] S Q:=by
 show bP ?_
 unfold BH
 symm
 apply d_ L (au (aN (au (aN (au (aN (au (aN (aZ ?_)))))))))
 apply#[by decide,?_]
 let n:=o.l1
 let q:=o.l2
 let l:=o.l3
 let m:=o.l4
 apply uo (α:=Rm) (λc=>∃a,c= [a]) Rm.d (λr=>(cv r).d) #[none,L] ?_
 show#[w.aj,L,trivial,by omega,λr f c e=>?_,?_]
 ·let#[a,rfl]:=e
  apply aN #[L,#[_,L],?_]
  show uY (o.rm r f).l1 (o.rm r f).l2 #[L,L]
 symm
 apply uo (α:=Str×Nat) (λc=>∃a b,c= [a,b]) yw (λp=>AD ((p.2:Int),[])) #[none,none,L] ?_
 show#[w.ai,L,trivial,by omega,λr f c e=>?_,?_]
 ·let#[a,b,rfl]:=e
  show d_ L (au (aN (au (aN (aZ ?_)))))
  apply#[L,#[_,_,L],?_]
  apply#[by decide,?_]
  show#[by show 2<=_;decide,L,L]
 symm
 apply jt (!0) ?_
 apply uo (α:=List (Str×Nat)×List Rw) (λc=>∃a b,c= [a,b,some D1.d]) dk (λh=>AF (dF h.1,[D1])) #[none,none,L] ?_
 show#[w.af,L,trivial,by omega,λr f c e=>?_,?_]
 ·let#[a,b,rfl]:=e
  show d_ L (au (aN (au (aN (aZ ?_)))))
  apply#[L,#[_,_,L],?_]
  show jt (by have:=(o.hd r f).l1;omega) ?_
  symm
  show#[by show 1<=_;decide,?_]
  symm
  show#[by show 2<=_;decide,L,L]
 symm
 show#[by show 4<=_;decide,?_]
 have i:w.aj.map (λr=>(cv r).d)=(bz w).aj.map bO.d:=by erw[bz,QPq];rfl
 have g:w.ai.map (λp=>AD ((p.2:Int),[]))=(bz w).ai.map AD:=by erw[bz,QPq];rfl
 have j:w.af.map (λh=>AF (dF h.1,[D1]))=(bz w).af.map AF:=by erw[bz,QPq];rfl
 rw[i,g,j]
 show b_ (d:=(bz w).d) (λk z=>(nomatch z)) (aE.low _) h
end
end W28
namespace DL
open L2
section
variable{c:cf}{S:az}
def qw{f:aU}{Q:D->az->Prop}(h:E f c S λd a=>∃i,d=.int i/\Q (.int (-i)) a):E (tN f) c S Q:=by
 let#[d,a,b,i,rfl,q]:=h
 show#[_,a,by unfold tN;rw[b];rfl,q]
def j2{f:aU}{lo hi:Ny}{Q:D->az->Prop}(h:E f c S λd b=>E lo c b λl S2=>E hi c S2 λu a=>∃ds,d=.tup ds/\Q (.tup (jL ds l u)) a):E (sF f lo hi) c S Q:=by
 let#[d,b,e,l,S2,i,u,a,g,ds,rfl,q]:=h
 show#[_,a,by unfold sF;rw[e];erw[Qbq];rw[i];erw[Qbq];rw[g];rfl,q]
def Pc{i j:Nat}{f:fI}{Q:Out->Prop}(h:E f c S λds d=>∃a b,ds= [a,b]/\Q (.nx ((c.set i (some a)).set j (some b)) d)):T (yp i j f) c S Q:=by
 let#[ds,d,e,a,b,rfl,q]:=h
 show⟨_,by unfold yp;rw[e];rfl,q⟩
end
def FQ{α:Type}{xs:List α}{i:Nat}(h:i<=xs.length):jL xs none (some (i:Int))=xs.take i:=by
 unfold jL
 rw[HT.uF,HT.Du,Nat.min_eq_left h]
 simp
def iZ{α:Type}{xs:List α}{i:Nat}(h:i<=xs.length):jL xs (some (i:Int)) none=xs.drop i:=by
 unfold jL
 rw[HT.uF,HT.Du,Nat.min_eq_left h]
 rw[List.take_of_length_le]
 simp
def zY{α:Type}{xs:List α}(h:0<xs.length):jL xs none (some (-1))=xs.dropLast:=by
 unfold jL
 rw[HT.uF]
 show(xs.drop 0).take (HT.eG xs.length xs.length (some (-1))-0)=_
 rw[show HT.eG xs.length xs.length (some (-1))=xs.length-1 by erw[HT.eG];rw[Qhq (!0)];omega]
 simp[List.dropLast_eq_take]
def yS{α:Type}{xs:List α}{x:α}(h:xs.getLast? =some x):nT xs (-1)=some x:=by
 have c:0<xs.length:=by
  cases xs with
  |nil=>cases h
  |cons a b=>simp
 unfold nT HW
 rw[Quq (!0),Qhq (!0)]
 rw[List.getLast?_eq_getElem?] at h
 erw[Qbq]
 rw[show((-1:Int)+(xs.length:Int)).toNat=xs.length-1 by omega]
 show h
end DL
namespace W28
open L2 DL
section
variable{S:az}{Q:Res->az->Prop}
def bI{s:aE}{h:Nat}{vs:List Int}{fs:List bG}{f:bG}(b:s.af[h]?=some (vs,fs))(a:fs.getLast? =some f)(q:Q (.d f.d) S):Fn cB [s.d,.int h] S Q:=by
 show bP ?_
 unfold kB
 symm
 apply av L ?_
 show av (d:=AF (vs,fs)) (aP (by rw[gQm,b];rfl)) ?_
 symm
 show av L ?_
 apply qw ?_
 show⟨1,L,?_⟩
 show av (d:=f.d) (yS (by rw[QfQ,a];rfl)) ?_
 show b_ (λk z=>(nomatch z)) L q
noncomputable def progOf(w:bD)(h:Nat)(f:bG):Option (List Rw):=
 if f.room= -1 then(w.af[h]?).map (·.2) else if 0<=f.room/\0<=f.deed then(w.aj[f.room.toNat]?).bind λr=>(r.ae[f.deed.toNat]?).map (·.2) else none
def k9{α:Type}{xs:List α}{i:Int}{x:α}(a:0<=i)(h:xs[i.toNat]?=some x):nT xs i=some x:=by
 obtain⟨n,rfl⟩:∃n:Nat,i=n:=#[i.toNat,by omega]
 show aP (by simpa using h)
def zF(rs:List Rw):cc 0 (.tup (rs.map Rw.d))=true:=by erw[cc];show bg λr _=>r.low
def fL{w:bD}{h:Nat}{f:bG}{pr:List Rw}(a:progOf w h f=some pr)(q:Q (.d (.tup (pr.map Rw.d))) S):Fn eN [w.d,.int h,f.d] S Q:=by
 show bP ?_
 unfold kH
 apply aK (Pc ?_)
 apply av L ?_
 apply av L ?_
 apply#[_,_,L,?_]
 show fq ?_
 dsimp only[bF,aW,bH,cO,c_,iO]
 unfold progOf at a
 by_cases c:f.room= -1
 ·rw[Qhq c] at a
  let#[j,b,rfl]:=oQm.mp a
  rw[Qeq c,Qhq L]
  symm
  apply av L ?_
  show av (d:=dk j) (aP (by rw[gQm,b];rfl)) ?_
  symm
  show av L ?_
  show b_ (λk z=>(nomatch z)) (zF _) q
 ·rw[Quq c] at a
  split at a
  ·rename_i e
   let#[r,b,a]:=aq a
   let#[g,i,rfl]:=oQm.mp a
   rw[Qdq c,Quq (!1)]
   symm
   apply av L ?_
   show av (d:=r.d) (k9 e.1 (by rw[gQm,b];rfl)) ?_
   symm
   apply av L ?_
   show av (d:=Dx g) (k9 e.2 (by rw[gQm,i];rfl)) ?_
   symm
   show av L ?_
   show b_ (λk z=>(nomatch z)) (zF _) q
  ·cases a
def dw{xs:List D}{i:Nat}{d:D}(hi:i<xs.length)(hl:xs.length<=900)(j:bK 0 xs=true)(g:cc 0 d=true)(q:Q (.d (.tup (xs.set i d))) S):Fn cY [.tup xs,.int i,d] S Q:=by
 show bP ?_
 unfold mH
 symm
 apply j2 ?_
 apply cJ (cI ?_)
 apply#[_,L,_,L,?_]
 show#[by show 1<=_;decide,?_]
 rw[FQ (!0)]
 show dA (by erw[Qxq,Qnq,QGq];show nQl (bj (!0))) ?_
 apply j2 ?_
 apply cI ?_
 show#[_,L,cJ #[_,L,?_]]
 rw[show((i:Int)+1)=((i+1:Nat):Int) by omega,iZ (!0)]
 show dA (by erw[lQa,Qxq,List.length_drop,Qnq,QGq];show nQl (bj (!0))) ?_
 have e:xs.take i++ [d]++xs.drop (i+1)=xs.set i d:=by
  rw[List.set_eq_take_append_cons_drop,Qhq hi]
  simp
 rw[e]
 show b_ (λk z=>(nomatch z)) ?_ q
 erw[cc]
 show wC λz b=>?_
 rcases QTq b with b|rfl
 ·have c:∀l:List D,bK 0 l=true->∀z∈l,cc 0 z=true:=by
   intro l
   induction l with
   |nil=>intro _ z b;cases b
   | cons a l f=>
     intro h z b
     erw[bK,QCq] at h
     rcases Qsq.mp b with rfl|b
     · show h.1
     · show f h.2 z b
  show c xs j z b
 ·show g
end
section
variable{S:az}{Q:Res->az->Prop}
def map_set{α b:Type}(f:α->b)(l:List α)(i:Nat)(a:α):(l.set i a).map f=(l.map f).set i (f a):=by
 rw[List.map_set]
def aJ(s:aE):∀k,s.d≠.ref k:=λk z=>(nomatch z)
def cT{s:aE}{i:Nat}{r:bO}(hi:i<s.aj.length)(hl:s.aj.length<=900)(q:Q (.d ({s with aj:=s.aj.set i r}:aE).d) S):Fn cE [s.d,.int i,r.d] S Q:=by
 show bP ?_
 unfold mF
 symm
 apply av L ?_
 apply dw (by simpa using hi) (by simpa using hl) (bg λr _=>r.low) r.low ?_
 show#[by show 1<=_;decide,?_]
 apply j2 ?_
 apply cI ?_
 show#[_,L,cJ #[_,L,?_]]
 show dA (by show 4<=_;decide) ?_
 show b_ (d:=({s with aj:=s.aj.set i r}:aE).d) (aJ _) (aE.low _) q|>λz=>?_
 rw[<-map_set]
 show z
def gI{s:aE}{i:Nat}{p:Int×List Int}(hi:i<s.ai.length)(hl:s.ai.length<=900)(q:Q (.d ({s with ai:=s.ai.set i p}:aE).d) S):Fn eE [s.d,.int i,AD p] S Q:=by
 show bP ?_
 unfold mT
 symm
 apply av L ?_
 apply av L ?_
 apply dw (by simpa using hi) (by simpa using hl) (bg λr _=>Bb r) (Bb p) ?_
 show#[by show 2<=_;decide,?_]
 apply j2 ?_
 apply cI ?_
 show#[_,L,cJ #[_,L,?_]]
 show dA (by show 4<=_;decide) ?_
 show b_ (d:=({s with ai:=s.ai.set i p}:aE).d) (aJ _) (aE.low _) q|>λz=>?_
 rw[<-map_set]
 show z
def gK{s:aE}{i:Nat}{vs:List Int}{fs:List bG}(hi:i<s.af.length)(hl:s.af.length<=900)(q:Q (.d ({s with af:=s.af.set i (vs,fs)}:aE).d) S):Fn eK [s.d,.int i,bQ vs,.tup (fs.map bG.d)] S Q:=by
 show bP ?_
 unfold my
 apply gA (fh (j2 ?_))
 apply cJ (cI ?_)
 apply#[_,L,_,L,?_]
 apply av L ?_
 show#[by show 2<=_;decide,?_]
 symm
 apply dw (d:=AF (vs,fs)) (by simpa using hi) (by simpa using hl) (bg λr _=>Bf r) (Bf (vs,fs)) ?_
 show#[by show 1<=_;decide,?_]
 show dA (by show 4<=_;decide) ?_
 show b_ (d:=({s with af:=s.af.set i (vs,fs)}:aE).d) (aJ _) (aE.low _) q|>λz=>?_
 rw[<-map_set]
 show z
def hJ{s:aE}{h:Nat}{vs:List Int}{fs:List bG}{f:bG}(a:s.af[h]?=some (vs,fs))(b:0<fs.length)(c:fs.length<=900)(hl:s.af.length<=900)(q:Q (.d ({s with af:=s.af.set h (vs,fs.dropLast++ [f])}:aE).d) S):Fn dg [s.d,.int h,f.d] S Q:=by
 show bP ?_
 unfold fH
 symm
 apply av L ?_
 show av (d:=AF (vs,fs)) (aP (by rw[gQm,a];rfl)) ?_
 apply d_ L (au (aN (au (aN (aZ ?_)))))
 apply j2 ?_
 apply cJ (cI (qw ?_))
 apply#[1,L,_,L,_,L,?_]
 show#[by show 1<=_;decide,?_]
 rw[zY (by simpa using b)]
 show dA (by erw[List.length_dropLast,lQm,Qnq,QGq];show nQl (bj (!0))) ?_
 symm
 have e:(fs.map bG.d).dropLast++ [f.d]=(fs.dropLast++ [f]).map bG.d:=by rw[Qzq,List.map_dropLast];rfl
 rw[e]
 show gK (gQs.mp a).1 hl ?_
 show b_ (aJ _) (aE.low _) q
def pX{s:aE}{h:Nat}{vs:List Int}{fs:List bG}{f:bG}{n:Int}(e:s.af[h]?=some (vs,fs))(c:fs.getLast? =some f)(g:fs.length<=900)(hl:s.af.length<=900)(q:Q (.d ({s with af:=s.af.set h (vs,fs.dropLast++ [{f with row:=n}])}:aE).d) S):Fn jr [s.d,.int h,.int n] S Q:=by
 show bP ?_
 unfold xV
 symm
 apply bI e c ?_
 apply j2 ?_
 apply cJ (cI ?_)
 apply#[_,L,_,L,?_]
 show#[by show 1<=_;decide,?_]
 show dA (by show 3<=_;decide) ?_
 apply j2 ?_
 apply cI ?_
 show#[_,L,cJ #[_,L,?_]]
 show dA (by show 5<=_;decide) ?_
 symm
 have i:0<fs.length:=by
  cases fs with
  |nil=>cases c
  |cons a b=>simp
 show hJ (f:={f with row:=n}) e i g hl ?_
 show b_ (aJ _) (aE.low _) q
noncomputable def eO(r:bO)(h:Int):bO:=if r.within= -1 then{r with within:=h} else{r with row:=r.row++ [h]}
noncomputable def bq(r:bO):bO:=match r.ag,r.row with
 |a::l,_=>{r with within:=a,ag:=l}
 | [],a::l=>{r with within:=a,row:=l}
 | [],[]=>{r with within:= -1}
def tZ{s:aE}{i:Nat}{h:Int}{r:bO}(a:s.aj[i]?=some r)(hl:s.aj.length<=900)(f:r.row.length<=900)(q:Q (.d ({s with aj:=s.aj.set i (eO r h)}:aE).d) S):Fn kb [s.d,.int i,.int h] S Q:=by
 let b:=(gQs.mp a).1
 show bP ?_
 unfold uv
 symm
 apply av L ?_
 show av (d:=r.d) (aP (by rw[gQm,a];rfl)) ?_
 apply d_ L (au (aN (au (aN (au (aN (au (aN (au (aN (aZ ?_)))))))))))
 show fq ?_
 dsimp only[bF,aW,bH,cO,c_,iO]
 unfold eO at q
 by_cases c:r.within= -1
 ·rw[Qhq c] at q
  rw[Qeq c,Qhq L]
  symm
  show#[by show 5<=_;decide,?_]
  symm
  show cT (r:={r with within:=h}) b hl ?_
  show b_ (aJ _) (aE.low _) q
 ·rw[Quq c] at q
  rw[Qdq c,Quq (!1)]
  symm
  show#[by show 1<=_;decide,?_]
  show dA (by erw[lQm,Qnq,QGq];show nQl (bj (!0))) ?_
  symm
  show#[by show 5<=_;decide,?_]
  symm
  have e:D.tup (r.row.map D.int++ [D.int h])=bQ (r.row++ [h]):=by simp[bQ]
  rw[e]
  show cT (r:={r with row:=r.row++ [h]}) b hl ?_
  show b_ (aJ _) (aE.low _) q
end
section
variable{S:az}{Q:Res->az->Prop}
def Gn{α:Type}{a:α}{l:List α}:nT (a::l) 0=some a:=aP (j:=0) L
def w4{S:az}{ds:List D}{Q:Bool->Prop}(q:Q (!ds.isEmpty)):Op (AV S (.tup ds)) Q:=#[_,L,q]
def zt{s:aE}{i:Nat}{r:bO}(k:s.aj[i]?=some r)(hl:s.aj.length<=900)(q:Q (.d ({s with aj:=s.aj.set i (bq r)}:aE).d) S):Fn pV [s.d,.int i] S Q:=by
 let h:=(gQs.mp k).1
 show bP ?_
 unfold Bq
 symm
 apply av L ?_
 show av (d:=r.d) (aP (by rw[gQm,k];rfl)) ?_
 show d_ L (au (aN (au (aN (au (aN (au (aN (au (aN (aZ ?_)))))))))))
 let#[b,g,f,m,j]:=r
 symm
 show w4 ?_
 cases m with
 | cons a l=>
   apply aY (λ_=>?_) (λc=>by cases c)
   apply av (d:=.int a) Gn ?_
   apply j2 ?_
   apply cI ?_
   apply#[_,L,cJ #[_,L,?_]]
   show#[by show 5<=_;decide,?_]
   symm
   have e:D.tup (jL ((a::l).map D.int) (some 1) none)=bQ l:=by
     rw[show(some (1:Int))=some ((1:Nat):Int) from L,iZ (by simp)]
     rfl
   rw[e]
   show cT (r:=#[b,a,f,l,j]) h hl ?_
   show b_ (aJ _) (aE.low _) q
 | nil=>
   show aY (λc=>by cases c) (λ_=>?_)
   apply cq ?_
   show w4 ?_
   cases f with
   | cons a l=>
     apply aY (λ_=>?_) (λc=>by cases c)
     apply av (d:=.int a) Gn ?_
     apply j2 ?_
     apply cI ?_
     apply#[_,L,cJ #[_,L,?_]]
     show#[by show 5<=_;decide,?_]
     symm
     have e:D.tup (jL ((a::l).map D.int) (some 1) none)=bQ l:=by
       rw[show(some (1:Int))=some ((1:Nat):Int) from L,iZ (by simp)]
       rfl
     rw[e]
     show cT (r:=#[b,a,l,[],j]) h hl ?_
     show b_ (aJ _) (aE.low _) q
   | nil=>
     show aY (λc=>by cases c) (λ_=>?_)
     apply cq ?_
     show#[by show 5<=_;decide,?_]
     symm
     show cT (r:=#[b,-1,[],[],j]) h hl ?_
     show b_ (aJ _) (aE.low _) q
def eQ{α:Type}{enc:α->D}{nm:α->Str}{xs:List α}(he:∀a,∃r,enc a=.tup (.str (nm a)::r))(hl:xs.length<=1000)(q:Q (.l ((xs.map nm).map D.str)) S):Fn dD [.tup (xs.map enc)] S Q:=by
 show bP ?_
 unfold o7
 symm
 apply uo (α:=α) (λb=>∃a,b= [a]) enc (λa=>.str (nm a)) #[none,L] ?_
 show#[xs,L,trivial,hl,λr d b c=>?_,?_]
 ·let#[a,rfl]:=c
  show aN #[L,#[_,L],?_]
  let#[f,e]:=he r
  rw[e]
  symm
  show av Gn #[L,L]
 ·have e:xs.map (λa=>D.str (nm a))=(xs.map nm).map D.str:=by rw[QPq];rfl
  rw[e]
  show FE (bg λ_ _=>rfl) q
theorem mZ:∀a:List Str,ip (a.map D.str)=some (a.map V.str)
 | []=>rfl
 |s::a=>by erw[QDq,ip,xE,Qbq];rw[mZ a];rfl
theorem ym{x:Str}:∀{ns:X6},x∈ns->∃j,kf (.str x) (ns.map V.str)=some j/\ns[j]?=some x
 | [],h=>by cases h
 | n::ns,h=>by
   by_cases c:n=x
   · subst c
     show#[0,by simp[kf,pT],L]
   · let#[j,b,a]:=ym (ns:=ns) ((Qsq.mp h).resolve_left (Ne.symm c))
     show#[j+1,by erw[QDq,kf];rw[b];simp[pT,c],by simpa using a]
end
end W28
namespace DL
open L2
section
variable{a:cf}{S:az}
def qy{T:String}{f:aU}{Q:D->az->Prop}(h:E f a S λd b=>Op (sS b T d) λk=>Q (.bl k) b):E (nQ T f) a S Q:=by
 let#[d,b,c,k,e,q]:=h
 show#[_,b,by unfold nQ;rw[c];erw[Qbq];rw[e];rfl,q]
def pR{b:Bool}{Q:Bool->Prop}(q:Q b):Op (AV S (.bl b)) Q:=#[_,L,q]
def OC{f g:aU}{Q:D->az->Prop}(h:E f a S λx b=>E g a b λy S2=>∃k kvs z v,x=.ref k/\y=.str z/\S2[k]?=some (.dct kvs)/\g8 kvs (.inr z)=some v/\Q v S2):E (Ky f g) a S Q:=by
 let#[x,b,c,y,S2,d,k,kvs,z,v,rfl,rfl,h1,h2,q]:=h
 show#[v,S2,by unfold Ky;rw[c];erw[Qbq];rw[d];erw[Qbq,h1,oH,h2],q]
def Gh{i j:Int}{Q:D->Prop}(q:Q (.int (if j<i then j else i))):Op (minD [.int i,.int j]) Q:=#[_,L,q]
def K0{i j:Int}{Q:D->Prop}(q:Q (.int (if j>i then j else i))):Op (maxD [.int i,.int j]) Q:=#[_,L,q]
end
end DL
namespace W28
open L2 DL
noncomputable def Nr(o:Str)(a b:Int):Int:=
 if o="plus" then(if 9<a+b then 9 else a+b) else if o="minus" then(if 0>a-b then 0 else a-b) else if o="less" then(if a<b then 1 else 0)
 else if o="same" then(if a=b then 1 else 0) else(if a≠0/\b≠0 then 1 else 0)
noncomputable def sh(th wt:Str->Int):Tr->Int
 |.num n=>n
 |.word x=>th x
 |.waits b=>if 0<wt b then 1 else 0
 |.no t=>if sh th wt t=0 then 1 else 0
 |.two o a b=>Nr o (sh th wt a) (sh th wt b)
def Eg{o:Str}{a b:Int}(c:0<=a/\a<=9)(d:0<=b/\b<=9):0<=Nr o a b/\Nr o a b<=9:=by
 unfold Nr
 repeat' split
 all_goals omega
theorem k8{th wt:Str->Int}{ws bs:X6}(h:∀x∈ws,0<=th x/\th x<=9):∀{t:Tr},t.Ok ws bs->0<=sh th wt t/\sh th wt t<=9
 |.num n,ho=>by have:n<=9:=ho;erw[sh];omega
 |.word x,ho=>h x ho
 |.waits b,_=>by erw[sh];split <;>omega
 |.no t,_=>by erw[sh];split <;>omega
 |.two o a b,ho=>Eg (k8 h ho.2.1) (k8 h ho.2.2)
section
variable{S:az}{Q:Res->az->Prop}
def da{S:az}{i:Int}{Q:Res->az->Prop}(q:Q (.d (.int i)) S):Op (settle S (.int i) S) λp=>Q p.1 p.2:=b_ (λk z=>(nomatch z)) L q
def qM{o:Str}{a b:Int}(q:Q (.d (.int (Nr o a b))) S):Fn fK [.str o,.int a,.int b] S Q:=by
 show bP ?_
 unfold iL
 unfold Nr at q
 symm
 show ix ?_
 dsimp only[bF,aW,bH,cO,c_,iO]
 by_cases j:o="plus"
 ·rw[Qhq j] at q
  rw[Qeq j,Qhq L]
  symm
  show Gh ?_
  show da q
 rw[Quq j] at q
 rw[Qdq j,Quq (!1)]
 apply cq ?_
 show ix ?_
 dsimp only[bF,aW,bH,cO,c_,iO]
 by_cases e:o="minus"
 ·rw[Qhq e] at q
  rw[Qeq e,Qhq L]
  symm
  show K0 ?_
  show da q
 rw[Quq e] at q
 rw[Qdq e,Quq (!1)]
 apply cq ?_
 show ix ?_
 dsimp only[bF,aW,bH,cO,c_,iO]
 by_cases f:o="less"
 ·rw[Qhq f] at q
  rw[Qeq f,Qhq L]
  symm
  by_cases c:a<b
  ·rw[Qhq c] at q
   rw[Qeq c,Qhq L]
   symm
   show da q
  ·rw[Quq c] at q
   rw[Qdq c,Quq (!1)]
   symm
   show da q
 rw[Quq f] at q
 rw[Qdq f,Quq (!1)]
 apply cq ?_
 show ix ?_
 dsimp only[bF,aW,bH,cO,c_,iO]
 by_cases i:o="same"
 ·rw[Qhq i] at q
  rw[Qeq i,Qhq L]
  symm
  show fq ?_
  dsimp only[bF,aW,bH,cO,c_,iO]
  by_cases c:a=b
  ·rw[Qhq c] at q
   rw[Qeq c,Qhq L]
   symm
   show da q
  ·rw[Quq c] at q
   rw[Qdq c,Quq (!1)]
   symm
   show da q
 rw[Quq i] at q
 rw[Qdq i,Quq (!1)]
 apply cq ?_
 show lY ?_
 dsimp only[bF,aW,bH,cO,c_,iO]
 by_cases g:a=0
 ·rw[Quq (λz=>z.1 g)] at q
  rw[Qeq g]
  show if (false=true) then _ else _
  rw[Quq (!1)]
  show if (false=true) then _ else _
  rw[Quq (!1)]
  symm
  show da q
 ·rw[Qdq g]
  show if (true=true) then _ else _
  rw[Qhq L]
  symm
  show lY ?_
  dsimp only[bF,aW,bH,cO,c_,iO]
  by_cases h:b=0
  ·rw[Quq (λz=>z.2 h)] at q
   rw[Qeq h]
   show if (false=true) then _ else _
   rw[Quq (!1)]
   symm
   show da q
  ·rw[Qhq #[g,h]] at q
   rw[Qdq h]
   show if (true=true) then _ else _
   rw[Qhq L]
   symm
   show da q
end
def fc{c:cf}{S:az}{T:String}{f:aU}{d:D}{b:Bool}{Q:Bool->az->Prop}(h:E f c S λx a=>x=d/\a=S)(e:sS S T d=some b)(q:Q b S):E (kG (nQ T f)) c S Q:=by
 show yM (qy (h.mono λx a i=>?_))
 let#[g,j]:=i
 subst g j
 show#[b,e,pR q]
def J2{o:Str}(h:o∈ops):o≠"waits" /\o≠"not":=by
 erw[ops,Qsq,QXq,or_false] at h
 rcases h with rfl|rfl|rfl|rfl|rfl <;>show#[by decide +kernel,by decide +kernel]
theorem fT{th wt:Str->Int}{ws bs:X6}{i j:Nat}{kvs kws:List (Key×D)}{S:az}(hi:S[i]?=some (.dct kvs))(g:S[j]?=some (.dct kws))(f:∀x∈ws,g8 kvs (.inr x)=some (.int (th x)))(e:∀b∈bs,g8 kws (.inr b)=some (.int (wt b))):
  ∀(n:Nat) (t:Tr) {Q:Res->az->Prop},t.Ok ws bs->t.dep<=n->Q (.d (.int (sh th wt t))) S->Fn (fB n) [t.d,.ref i,.ref j] S Q
 |0,t,Q,_,hd,_=>by cases t <;>simp[Tr.dep] at hd
 | n+1,t,Q,ho,hd,q=>by
   show bP ?_
   unfold oQ
   cases t with
   | num v=>
     show aK (ed (fc (d:=.int v) (aA L #[L,L]) L ?_))
     apply aY (λ_=>?_) (λc=>by cases c)
     show da q
   | word x=>
     show aK (ed (fc (d:=.str x) (aA L #[L,L]) L ?_))
     show aY (λc=>by cases c) (λ_=>cq ?_)
     show aK (ed (fc (d:=.str x) (aA L #[L,L]) L ?_))
     show aY (λ_=>?_) (λc=>by cases c)
     apply gA (OC ?_)
     show#[_,_,_,_,L,L,hi,f x ho,?_]
     show da q
   | waits b=>
     show aK (ed (fc (d:=.tup [.str "waits",.str b]) (aA L #[L,L]) L ?_))
     show aY (λc=>by cases c) (λ_=>cq ?_)
     show aK (ed (fc (d:=.tup [.str "waits",.str b]) (aA L #[L,L]) L ?_))
     apply aY (λc=>by cases c) (λ_=>cq ?_)
     apply av L ?_
     show ix ?_
     dsimp only[bF,aW,bH,cO,c_,iO]
     rw[Qeq L,Qhq L]
     symm
     apply OC ?_
     show av L ?_
     apply#[_,_,_,_,L,L,g,e b ho,?_]
     erw[sh] at q
     by_cases c:0<wt b
     · rw[Qhq c] at q
       rw[Qeq c,Qhq L]
       symm
       show da q
     · rw[Quq c] at q
       rw[Qdq c,Quq (!1)]
       symm
       show da q
   | no t=>
     have k:t.dep<=n:=by erw[Tr.dep] at hd;omega
     show aK (ed (fc (d:=.tup [.str "not",t.d]) (aA L #[L,L]) L ?_))
     show aY (λc=>by cases c) (λ_=>cq ?_)
     show aK (ed (fc (d:=.tup [.str "not",t.d]) (aA L #[L,L]) L ?_))
     apply aY (λc=>by cases c) (λ_=>cq ?_)
     apply av L ?_
     show ix ?_
     dsimp only[bF,aW,bH,cO,c_,iO]
     rw[Qdq (show¬(("not":Str)="waits") by decide +kernel),Quq (!1)]
     apply cq ?_
     apply av L ?_
     apply fT hi g f e n t ho k ?_
     apply av L ?_
     show ix ?_
     dsimp only[bF,aW,bH,cO,c_,iO]
     rw[Qeq L,Qhq L]
     symm
     show fq ?_
     dsimp only[bF,aW,bH,cO,c_,iO]
     erw[sh] at q
     by_cases c:sh th wt t=0
     · rw[Qhq c] at q
       rw[Qeq c,Qhq L]
       symm
       show da q
     · rw[Quq c] at q
       rw[Qdq c,Quq (!1)]
       symm
       show da q
   | two o a b=>
     have h:a.dep<=n:=by erw[Tr.dep] at hd;omega
     have l:b.dep<=n:=by erw[Tr.dep] at hd;omega
     let#[m,p]:=J2 ho.1
     show aK (ed (fc (d:=.tup [.str o,a.d,b.d]) (aA L #[L,L]) L ?_))
     show aY (λc=>by cases c) (λ_=>cq ?_)
     show aK (ed (fc (d:=.tup [.str o,a.d,b.d]) (aA L #[L,L]) L ?_))
     apply aY (λc=>by cases c) (λ_=>cq ?_)
     apply av L ?_
     show ix ?_
     dsimp only[bF,aW,bH,cO,c_,iO]
     rw[Qdq m,Quq (!1)]
     apply cq ?_
     apply av L ?_
     apply fT hi g f e n a ho.2.1 h ?_
     apply av L ?_
     show ix ?_
     dsimp only[bF,aW,bH,cO,c_,iO]
     rw[Qdq p,Quq (!1)]
     apply cq ?_
     apply av L ?_
     apply av L ?_
     apply fT hi g f e n b ho.2.2 l ?_
     show qM ?_
     show da q
end W28
namespace DL
open L2
def vn{l:List (Key×D)}{k:Key}(h:k∈l.map (·.1)):∃d,g8 l k=some d/\(k,d)∈l:=by
 unfold g8
 cases e:l.find? λb=>decide (b.1=k) with
 | none=>
   let#[p,a,rfl]:=Qkq.mp h
   have:=List.find?_eq_none.mp e p a
   simp at this
 | some p=>
   let f:=List.find?_some e
   let c:=List.mem_of_find?_eq_some e
   have g:p.1=k:=by simpa using f
   show#[p.2,L,by rw[<-g];show c]
def Ay{l:List (Key×D)}{k:Key}{v:D}{p:Key×D}(h:p∈putD l k v):p∈l\/p=(k,v):=by
 unfold putD at h
 split at h
 ·let#[q,a,e]:=Qkq.mp h
  split at e
  ·rename_i c
   rw[<-e,c]
   show .inr L
  ·rw[<-e]
   show .inl a
 ·rcases mQa.mp h with h|h
  ·show .inl h
  ·show .inr (Qfq.mp h)
def lB{l:List (Key×D)}{k x:Key}{v:D}(h:x=k\/x∈l.map (·.1)):x∈(putD l k v).map (·.1):=by
 unfold putD
 split
 ·rename_i c
  have a:∀p∈l,(if p.1=k then(p.1,v) else p).1=p.1:=λp _=>by split <;>rfl
  have e:(l.map λp=>if p.1=k then(p.1,v) else p).map (·.1)=l.map (·.1):=by
   rw[QPq]
   show List.map_congr_left a
  rw[e]
  rcases h with rfl|h
  ·let#[p,b,d]:=List.any_eq_true.mp c
   show Qkq.mpr #[p,b,by simpa using d]
  ·show h
 ·rw[Qzq]
  rcases h with rfl|h
  ·show Qoq _ (by simp)
  ·show List.mem_append_left _ h
theorem me:∀{more l:List (Key×D)} {p:Key×D},p∈bU l more->p∈l\/p∈more
 | [],l,p,h=>.inl h
 | q::more,l,p,h=>by
   rcases me (more:=more) (l:=putD l q.1 q.2) h with h|h
   · rcases Ay h with h|rfl
     · show .inl h
     · show .inr (QBq ..)
   · show .inr (Qpq _ h)
theorem fZ:∀{more l:List (Key×D)} {x:Key},x∈l.map (·.1)\/x∈more.map (·.1)->x∈(bU l more).map (·.1)
 | [],l,x,h=>h.elim id λz=>by cases z
 | q::more,l,x,h=>by
   show fZ (more:=more) (l:=putD l q.1 q.2) ?_
   rcases h with h|h
   · show .inl (lB (.inr h))
   · rcases Qsq.mp h with rfl|h
     · show .inl (lB (.inl L))
     · show .inr h
theorem tJ:∀a:List Str,yG (a.map D.str)=some (a.map Sum.inr)
 | []=>rfl
 |s::a=>by erw[QDq,yG,oH,Qbq];rw[tJ a];rfl
section
variable{b:cf}{S:az}
def Pn{Q:D->az->Prop}(q:Q (.ref S.length) (S++ [.dct []])):E PQ b S Q:=#[_,_,L,q]
def L9{f g:dU}{Q:D->az->Prop}(h:E f b S λp c=>E g b c λr S2=>∃a:List Str,p.1=a.map D.str/\(p.2.stays S2 p.1/\p.1.length=r.1.length)/\Q (.ref S2.length) (S2++ [.dct (bU [] ((a.map Sum.inr).zip r.1))])):E (Nw f g) b S Q:=by
 let#[p,c,d,r,S2,j,a,i,e,q]:=h
 show#[_,_,?_,q]
 unfold Nw
 rw[d]
 erw[Qbq]
 rw[j]
 erw[Qbq]
 rw[Qhq e,i,tJ]
 rfl
def NV{f g:aU}{Q:D->az->Prop}(h:E f b S λx a=>E g b a λy S2=>∃k j c l m,x=.ref k/\y=.ref j/\k≠j/\a[k]?=some (.dct c)/\S2[k]?=some (.dct l)/\S2[j]?=some (.dct m)/\l.length+m.length<=sizeLine/\Q .non (S2.set k (.dct (bU l m)))):E (J5 f g) b S Q:=by
 let#[x,a,d,y,S2,e,k,j,c,l,m,rfl,rfl,hn,h0,h1,h2,h3,q]:=h
 show#[_,_,by unfold J5;rw[d];erw[Qbq];rw[e];erw[Qbq];rw[Qhq hn];erw[h0,h1,h2];rw[Qhq h3],q]
def Q5{f g h:aU}{Q:Out->Prop}(w:E h b S λd c=>E f b c λx S2=>E g b S2 λy a=>∃k l z,x=.ref k/\y=.str z/\a[k]?=some (.dct l)/\l.length<sizeLine/\Q (.nx b (a.set k (.dct (putD l (.inr z) d))))):T (MO f g h) b S Q:=by
 let#[d,c,e,x,S2,j,y,a,i,k,l,z,rfl,rfl,h1,h2,q]:=w
 show#[_,by unfold MO;rw[e];erw[Qbq];rw[j];erw[Qbq];rw[i];erw[Qbq,h1,oH];rw[Qhq h2],q]
def Rr{α:Type}{n:Nat}{js:List (Option Nat)}{i:u9}{g:lO}{s u:aU}{Q:Out->Prop}(P:cf->Prop)(enc:α->D)(key:α->Str)(f:α->D)(G:P (nZ js b)) (h:E i b S λp e=>∃xs:List α,p.1=xs.map enc/\p.2 e/\xs.length<=1000∧
   (∀x∈xs,∀d,P d->Tg g (enc x) d e λj S2=>S2=e/\P j/\E s j e λy B=>y=.str (key x)/\B=e/\E u j e λz C=>z=f x/\C=e)∧
   Q (.nx (b.set n (some (.ref e.length))) (e++ [.dct (bU [] (xs.map λx=>(Sum.inr (key x),f x)))]))):T (NL n (o9 js i g dZ s u)) b S Q:=by
 let#[#[U,W],e,M,xs,rfl,hW,hl,hs,q]:=h
 have H:∀(l:List (Key×D)) (k:Key) (v:D),(putD l k v).length<=l.length+1:=λl k v=>by
  unfold putD
  split <;>simp
 have R:∀(m:List α) (d:cf) (c:List (Key×D)),(∀y∈m,y∈xs)->P d->c.length+m.length<=1000->∃r,iG g dZ s u W (m.map enc) d e c=some (r,e)/\r=bU c (m.map λx=>(Sum.inr (key x),f x)):=by
  intro m
  induction m with
  |nil=>intro d c _ _ _;show#[c,by erw[List.map_nil,iG];rw[Qhq hW],L]
  | cons a m N=>
    intro d c A I o
    let#[j,S2,t,rfl,hp1,y,B,e3,rfl,rfl,z,C,e4,rfl,rfl]:=hs a (A a (QBq ..)) d I
    let w:=H c (Sum.inr (key a)) (f a)
    erw[Qnq] at o
    let#[r,F,K]:=N j (putD c (Sum.inr (key a)) (f a)) (λy J=>A y (Qpq _ J)) hp1 (!0)
    show#[r,?_,K]
    erw[QDq,iG]
    rw[Qhq hW,t]
    erw[Qbq,dZ,if_true]
    rw[e3]
    erw[Qbq]
    rw[e4]
    erw[Qbq,oH]
    rw[Qhq (bj (!0))]
    show F
 let#[r,t,rfl]:=R xs _ [] (λ_ h=>h) G (by simpa using hl)
 show#[_,by unfold NL o9;rw[M];erw[Qbq];rw[t];rfl,q]
end
def xN{a:cf}{S:az}{f g:dU}{Q:(List D×(az->Prop))->az->Prop}(h:E f a S λp b=>E g a b λr S2=>(p.2.stays S2 p.1/\p.1.length<=r.1.length)/\Q (u_ p.1 r.1,λS=>p.2.stays S p.1/\r.2.stays S r.1) S2):E (Bx f g) a S Q:=by
 let#[p,b,c,r,S2,e,d,q]:=h
 show#[_,S2,by unfold Bx;rw[c];erw[Qbq];rw[e];erw[Qbq];rw[Qhq d],q]
def kr(l:List (Key×D)):Prop:=∀p∈l,∃v:Int,p.2=.int v/\0<=v/\v<=9
def kr.merge{l m:List (Key×D)}(c:kr l)(b:kr m):kr (bU l m):=λp a=>(me a).elim (c p) (b p)
def kr.put{l:List (Key×D)}{k:Key}{v:Int}(h:kr l)(c:0<=v)(b:v<=9):kr (putD l k (.int v)):=λp a=>by
 rcases Ay a with a|rfl
 ·show h p a
 ·show#[v,L,c,b]
noncomputable def numAt(l:List (Key×D))(x:Str):Int:=match g8 l (.inr x) with|some (.int v)=>v|_=>0
def oq{l:List (Key×D)}(h:kr l){x:Str}(i:(Sum.inr x:Key)∈l.map (·.1)):g8 l (.inr x)=some (.int (numAt l x))/\0<=numAt l x/\numAt l x<=9:=by
 let#[d,b,c]:=vn i
 let#[v,a,f,g]:=h _ c
 have a:d=.int v:=a
 subst a
 have e:numAt l x=v:=by unfold numAt;rw[b]
 rw[e]
 show#[b,f,g]
def FT{d:X6}{vs:List Int}(h:∀v∈vs,0<=v/\v<=9):kr ((d.map (Sum.inr:Str->Key)).zip (vs.map D.int)):=λp a=>by
 have c:p.2∈vs.map D.int:=(QeQ (show(p.1,p.2)∈_ from a)).2
 let#[v,b,e]:=Qkq.mp c
 show#[v,e.symm,h v b]
def FI{a:X6}{ds:List D}(h:a.length=ds.length):((a.map (Sum.inr:Str->Key)).zip ds).map (·.1)=a.map Sum.inr:=by
 rw[List.map_fst_zip]
 simpa using Nat.le_of_eq h
end DL
namespace W28
open L2 DL
noncomputable def df(ts:List (Str×Nat))(vs:List Int):List (Key×D):=bU [] (((ts.map (·.1)).map Sum.inr).zip (vs.map D.int))
noncomputable def zO(w:bD)(s:aE)(ts:List (Str×Nat))(vs:List Int):List (Key×D):=bU (df w.ak s.ak) (df ts vs)
noncomputable def qm(r:Rm)(rs:bO)(a:Int):List (Key×D):=putD (df r.ao rs.vals) (.inr "given") (.int a)
noncomputable def t5(r:Rm)(rs:bO):List (Key×D):=bU [] ((r.aa.zip rs.aa).map λp=>(Sum.inr p.1.1,D.int (p.2.length:Nat)))
def gL{ts:List (Str×Nat)}{vs:List Int}(h:∀v∈vs,0<=v/\v<=9):kr (df ts vs):=kr.merge (λp a=>by cases a) (FT h)
def gQ{ts:List (Str×Nat)}{vs:List Int}(hl:ts.length=vs.length){x:Str}(h:x∈ts.map (·.1)):(Sum.inr x:Key)∈(df ts vs).map (·.1):=by
 show fZ (.inr ?_)
 rw[FI (by simpa using hl)]
 show Qkq.mpr #[x,h,L]
structure lL(S S':az):Prop where
 len:S.length<=S'.length
 eq:∀j,j<S.length->S'[j]?=S[j]?
def lL.refl{S:az}:lL S S:=#[Qmq _,λ_ _=>rfl]
def lL.app{S a G:az}(x:lL S a):lL S (a++G):=#[by rw[lQa];have:=x.len;omega,λj b=>by rw[QHq (by have:=x.len;omega)];show x.eq j b]
def lL.put{S a:az}{r:Nat}{o:O}(x:lL S a)(c:S.length<=r):lL S (a.set r o):=#[by simpa using x.len,λj b=>by rw[QKq (!0)];show x.eq j b]
def qc{S a:az}{d:D}{Q:Res->az->Prop}(x:lL S a)(c:∀k,d≠.ref k)(hl:cc 0 d=true)(q:Q (.d d) S):Op (settle S d a) λp=>Q p.1 p.2:=by
 show i7 #[x.len,λk o f e=>.inl (by rw[<-x.eq k f];show e)] ?_ c (sU hl) q
 apply List.ext_getElem?
 intro j
 by_cases b:j<S.length
 ·rw[List.getElem?_take_of_lt b]
  show x.eq j b
 ·rw[List.getElem?_eq_none (by rw[Qxq];omega),List.getElem?_eq_none (!0)]
def gC:∀a:Str×Nat,∃r,yw a=.tup (.str a.1::r):=λa=>#[_,L]
def Cv:∀a:Str×Str,∃r,Nk a=.tup (.str a.1::r):=λa=>#[_,L]
section
variable{S:az}{Q:Res->az->Prop}
theorem uL:∀{m l:List (Key×D)},(bU l m).length<=l.length+m.length
 | [],l=>Qmq _
 | q::m,l=>by
   have a:(bU (putD l q.1 q.2) m).length<=(putD l q.1 q.2).length+m.length:=uL
   have b:(putD l q.1 q.2).length<=l.length+1:=by unfold putD;split <;>simp
   show(bU (putD l q.1 q.2) m).length<=_
   erw[Qnq]
   omega
def uj{ts:List (Str×Nat)}{vs:List Int}:(df ts vs).length<=ts.length:=by
 show QAq uL ?_
 erw[QGq,List.length_zip,lQm]
 omega
def xB{w:bD}{s:aE}{h:Nat}{ts:List (Str×Nat)}{pr:List Rw}{vs:List Int}{fs:List bG}{f:bG}{t:Tr}(B:w.af[h]?=some (ts,pr))(n:s.af[h]?=some (vs,fs))(C:fs.getLast? =some f)(H:f.room= -1)
  (p:w.ak.length=s.ak.length) (r:ts.length=vs.length) (K:w.ak.length<=100) (P:ts.length<=100) (A:∀v∈s.ak,0<=v/\v<=9) (I:∀v∈vs,0<=v/\v<=9)
  (F:t.Ok (ts.map (·.1)++w.ak.map (·.1)) []) (u:t.dep<=6) (q:Q (.d (.int (sh (numAt (zO w s ts vs)) (λ_=>0) t))) S):Fn dh [w.d,s.d,.int h,t.d] S Q:=by
 have c:kr (zO w s ts vs):=kr.merge (gL A) (gL I)
 show bP ?_
 unfold kZ
 symm
 apply bI n C ?_
 apply av (d:=.int f.room) L ?_
 show fq ?_
 dsimp only[bF,aW,bH,cO,c_,iO]
 rw[Qeq H,Qhq L]
 symm
 apply L9 ?_
 apply av L ?_
 apply eQ (enc:=yw) (nm:=(·.1)) gC (!0) ?_
 show av L ?_
 show du (ds:=s.ak.map D.int) ?_
 show#[_,L,#[trivial,by erw[lQm];show p],?_]
 dsimp only[bF,aW,bH,cO,c_,iO]
 rw[show bU [] (((w.ak.map (·.1)).map (Sum.inr:Str->Key)).zip (s.ak.map D.int))=df w.ak s.ak from L]
 apply aK (si (NV ?_))
 apply L9 ?_
 apply av L ?_
 show av (d:=dk (ts,pr)) (aP (by rw[gQm,B];rfl)) ?_
 symm
 apply av L ?_
 apply eQ (enc:=yw) (nm:=(·.1)) gC (!0) ?_
 apply av L ?_
 show av (d:=AF (vs,fs)) (aP (by rw[gQm,n];rfl)) ?_
 symm
 show av L ?_
 show du (ds:=vs.map D.int) ?_
 show#[_,L,#[trivial,by erw[lQm];show r],?_]
 dsimp only[bF,aW,bH,cO,c_,iO]
 rw[show bU [] (((ts.map (·.1)).map (Sum.inr:Str->Key)).zip (vs.map D.int))=df ts vs from L]
 have e:(S++ [O.dct (df w.ak s.ak)])[S.length]?=some (.dct (df w.ak s.ak)):=aX
 have i:(S++ [O.dct (df w.ak s.ak)]).length=S.length+1:=by simp
 have J:lL S (S++ [O.dct (df w.ak s.ak)]):=lL.refl.app
 show∃k j G l m,D.ref S.length=.ref k/\D.ref (S++ [O.dct (df w.ak s.ak)]).length=.ref j/\k≠j/\(S++ [O.dct (df w.ak s.ak)])[k]?=some (.dct G)/\(S++ [O.dct (df w.ak s.ak)]++ [O.dct (df ts vs)])[k]?=some (.dct l)/\(S++ [O.dct (df w.ak s.ak)]++ [O.dct (df ts vs)])[j]?=some (.dct m)/\_
 show#[_,_,_,_,_,L,L,by omega,e,di e,aX,?_,?_]
 ·let N:=uj (ts:=w.ak) (vs:=s.ak)
  let M:=uj (ts:=ts) (vs:=vs)
  show nQl (bj (!0))
 have g:((S++ [O.dct (df w.ak s.ak)]++ [O.dct (df ts vs)]).set S.length (.dct (bU (df w.ak s.ak) (df ts vs))))[S.length]?=some (.dct (zO w s ts vs)):=jK (di e)
 have o:lL S ((S++ [O.dct (df w.ak s.ak)]++ [O.dct (df ts vs)]).set S.length (.dct (bU (df w.ak s.ak) (df ts vs)))):=J.app.put (Qmq _)
 generalize ((S++ [O.dct (df w.ak s.ak)]++ [O.dct (df ts vs)]).set S.length (.dct (bU (df w.ak s.ak) (df ts vs))))=S2 at g o|-
 symm
 apply Pn ?_
 show fT (th:=numAt (zO w s ts vs)) (wt:=λ_=>0) (ws:=ts.map (·.1)++w.ak.map (·.1)) (bs:= []) (di g) aX (λx a=>?_) (λb y=>by cases y) 6 t F u ?_
 ·show(oq c ?_).1
  show fZ ?_
  rcases mQa.mp a with a|a
  ·show .inr (gQ r a)
  ·show .inl (gQ p a)
 ·show qc o.app (λk z=>(nomatch z)) L q
end
section
variable{S:az}{Q:Res->az->Prop}
theorem zg:∀(bs:List (Str×Str)) (a:List (List (Int×Int))),u_ ((bs.map (·.1)).map D.str) (a.map dC)=(bs.zip a).map λp=>D.tup [.str p.1.1,dC p.2]
 | [],_=>rfl
 |_::_,[]=>rfl
 | b::bs,l::a=>by
   have:=zg bs a
   erw[u_,QDq,List.zipWith_cons_cons,List.zip_cons_cons] at this|-
   rw[this]
noncomputable def rZ(r:Rm)(rs:bO)(x:Str):Int:=numAt (t5 r rs) x
def Fs{r:Rm}{rs:bO}(hl:r.aa.length=rs.aa.length){x:Str}(h:x∈r.aa.map (·.1)):g8 (t5 r rs) (.inr x)=some (.int (rZ r rs x)):=by
 have f:(Sum.inr x:Key)∈(t5 r rs).map (·.1):=by
  show fZ (.inr ?_)
  rw[QPq]
  let#[b,j,rfl]:=Qkq.mp h
  let#[i,c,e]:=QbQ j
  show Qkq.mpr #[(b,rs.aa[i]'(!0)),?_,L]
  rw[<-e]
  have:(r.aa.zip rs.aa)[i]?=some (r.aa[i],rs.aa[i]'(!0)):=by
   rw[List.getElem?_zip_eq_some]
   show#[gQe c,gQe (!0)]
  show mQg this
 let#[d,g,a]:=vn f
 have c:∃v:Int,d=.int v:=by
  rcases me a with a|a
  ·cases a
  ·let#[p,_,e]:=Qkq.mp a
   show#[_,(congrArg (·.2) e).symm]
 let#[v,rfl]:=c
 unfold rZ DL.numAt
 rw[g]
def uS{w:bD}{s:aE}{h i:Nat}{vs:List Int}{fs:List bG}{f:bG}{r:Rm}{rs:bO}{t:Tr}(I:s.af[h]?=some (vs,fs))(F:fs.getLast? =some f)(H:f.room=i)(n:w.aj[i]?=some r)(c:s.aj[i]?=some rs)
  (y:r.ao.length=rs.vals.length) (J:r.aa.length=rs.aa.length) (M:r.ao.length<=100) (P:r.aa.length<=100) (C:∀v∈rs.vals,0<=v/\v<=9) (o:0<=f.given/\f.given<=9)
  (G:t.Ok (r.ao.map (·.1)++p_) (r.aa.map (·.1))) (A:t.dep<=6) (q:Q (.d (.int (sh (numAt (qm r rs f.given)) (rZ r rs) t))) S):Fn dh [w.d,s.d,.int h,t.d] S Q:=by
 have g:kr (qm r rs f.given):=(gL C).put o.1 o.2
 show bP ?_
 unfold kZ
 symm
 apply bI I F ?_
 apply av (d:=.int f.room) L ?_
 show fq ?_
 dsimp only[bF,aW,bH,cO,c_,iO]
 rw[Qdq (show¬f.room= -1 by omega),Quq (!1),H]
 apply cq ?_
 apply L9 ?_
 apply av L ?_
 show av (d:=r.d) (aP (by rw[gQm,n];rfl)) ?_
 symm
 apply av L ?_
 apply eQ (enc:=yw) (nm:=(·.1)) gC (!0) ?_
 apply av L ?_
 show av (d:=rs.d) (aP (by rw[gQm,c];rfl)) ?_
 symm
 show av L ?_
 show du (ds:=rs.vals.map D.int) ?_
 show#[_,L,#[trivial,by erw[lQm];show y],?_]
 dsimp only[bF,aW,bH,cO,c_,iO]
 rw[show bU [] (((r.ao.map (·.1)).map (Sum.inr:Str->Key)).zip (rs.vals.map D.int))=df r.ao rs.vals from L]
 have K:lL S (S++ [O.dct (df r.ao rs.vals)]):=lL.refl.app
 apply aK (Q5 ?_)
 apply av (d:=.int f.given) L ?_
 show#[_,_,_,L,L,aX,bj (by have:=uj (ts:=r.ao) (vs:=rs.vals);omega),?_]
 have m:((S++ [O.dct (df r.ao rs.vals)]).set S.length (.dct (putD (df r.ao rs.vals) (.inr "given") (.int f.given))))[S.length]?=some (.dct (qm r rs f.given)):=jK aX
 have u:lL S ((S++ [O.dct (df r.ao rs.vals)]).set S.length (.dct (putD (df r.ao rs.vals) (.inr "given") (.int f.given)))):=K.put (Qmq _)
 generalize ((S++ [O.dct (df r.ao rs.vals)]).set S.length (.dct (putD (df r.ao rs.vals) (.inr "given") (.int f.given))))=S2 at m u|-
 apply aK (Rr (α:=(Str×Str)×List (Int×Int)) (λj=>∃a b,j= [a,b]) (λp=>D.tup [.str p.1.1,dC p.2]) (λp=>p.1.1) (λp=>.int (p.2.length:Nat)) #[none,none,L] (xN ?_))
 apply av L ?_
 show av (d:=r.d) (aP (by rw[gQm,n];rfl)) ?_
 symm
 apply av L ?_
 apply eQ (enc:=Nk) (nm:=(·.1)) Cv (!0) ?_
 apply av L ?_
 show av (d:=rs.d) (aP (by rw[gQm,c];rfl)) ?_
 symm
 show av L ?_
 show du (ds:=rs.aa.map dC) ?_
 show#[#[trivial,by erw[lQm];omega],r.aa.zip rs.aa,zg _ _,#[trivial,trivial],by rw[List.length_zip];omega,λp N j l=>?_,?_]
 ·let#[a,b,rfl]:=l
  show d_ L (au (aN (au (aN (aZ ?_)))))
  apply#[L,#[_,_,L],?_]
  apply#[L,L,?_]
  show du (ds:=p.2.map pairD) ?_
  show#[by simp,L]
 symm
 show fT (th:=numAt (qm r rs f.given)) (wt:=rZ r rs) (ws:=r.ao.map (·.1)++p_) (bs:=r.aa.map (·.1)) (kws:=t5 r rs) (di m) aX (λx e=>?_) (λb B=>Fs J B) 6 t G A ?_
 ·show(oq g ?_).1
  show lB ?_
  rcases mQa.mp e with e|e
  ·show .inr (gQ y e)
  ·left
   rw[Qfq.mp e]
 ·show qc u.app (λk z=>(nomatch z)) L q
end
end W28
namespace DL
open L2
def I_{b:cf}{S:az}{a:Bool}{f:aU}{g:dU}{Q:D->az->Prop}(h:E f b S λx c=>E g b c λp S2=>∃v vs,xE x=some v/\ip p.1=some vs/\Q (.bl (if a then !Fc v vs else Fc v vs)) S2):E (JA a f g) b S Q:=by
 let#[x,c,d,p,S2,j,v,vs,i,e,q]:=h
 show#[_,S2,by unfold JA;rw[d];erw[Qbq];rw[j];erw[Qbq];rw[i,e];rfl,q]
def Iu{x:Str}{b:X6}:Fc (.str x) (b.map V.str)=decide (x∈b):=by
 induction b with
 |nil=>rfl
 | cons a b d=>
   show(pT (.str a) (.str x)||Fc (.str x) (b.map V.str))=_
   rw[d]
   erw[pT,Qsq]
   by_cases c:a=x
   · subst c;simp
   · have e:¬x=a:=λz=>c z.symm
     simp[c,e]
end DL
namespace W28
open L2 DL
section
variable{S:az}{Q:Res->az->Prop}
noncomputable def cV(ns:X6)(vs:List Int)(x:Str)(v:Int):List Int:=vs.set ((kf (.str x) (ns.map V.str)).getD 0) v
def nJ{α:Type}{enc:α->D}{nm:α->Str}{xs:List α}{x:Str}(he:∀a,∃r,enc a=.tup (.str (nm a)::r))(hl:xs.length<=1000)(g:x∈xs.map nm)(q:((kf (.str x) ((xs.map nm).map V.str)).getD 0)<xs.length->Q (.d (.int ((kf (.str x) ((xs.map nm).map V.str)).getD 0:Nat))) S):Fn cP [.tup (xs.map enc),.str x] S Q:=by
 show bP ?_
 unfold oX
 let#[j,e,f]:=ym g
 have i:j<xs.length:=by have:=(gQs.mp f).1;simpa using this
 rw[e] at q
 show gA ?_
 have c:E (lI (dR dD (aw (ar 0) ax))) ([D.tup (xs.map enc),D.str x].map some++List.replicate (2- [D.tup (xs.map enc),D.str x].length) none) S λp b=>p=((xs.map nm).map D.str,.fr)/\b=S:=by
  symm
  show eQ he hl #[L,L]
 let#[p,b,h,rfl,rfl]:=c
 show#[.int j,b,?_,b_ (λk z=>(nomatch z)) L (q i)]
 unfold Lv
 rw[h]
 erw[Qbq]
 rw[Qhq (show Tag.fr.isL=true from L)]
 show((ar 1 _ b).bind _)=_
 rw[show ar 1 ([D.tup (xs.map enc),D.str x].map some++List.replicate (2- [D.tup (xs.map enc),D.str x].length) none) b=some (.str x,b) from L]
 erw[Qbq]
 rw[Qhq (show Tag.stays b _ .fr from trivial)]
 show(xE (.str x)).bind _=_
 erw[xE,Qbq]
 rw[mZ]
 erw[Qbq]
 rw[e]
 rfl
def yT{w:bD}{s:aE}{h i:Nat}{vs:List Int}{fs:List bG}{f:bG}{r:Rm}{rs:bO}{x:Str}{v:Int}(j:s.af[h]?=some (vs,fs))(c:fs.getLast? =some f)(g:f.room=i)(b:w.aj[i]?=some r)(a:s.aj[i]?=some rs)
  (o:r.ao.length=rs.vals.length) (l:r.ao.length<=100) (m:s.aj.length<=100) (k:x∈r.ao.map (·.1))
  (q:Q (.d ({s with aj:=s.aj.set i {rs with vals:=cV (r.ao.map (·.1)) rs.vals x v}}:aE).d) S):Fn eJ [w.d,s.d,.int h,.str x,.int v] S Q:=by
 show bP ?_
 unfold jv
 symm
 apply bI j c ?_
 apply av (d:=.int f.room) L ?_
 show lY ?_
 dsimp only[bF,aW,bH,cO,c_,iO]
 rw[Qdq (show¬f.room= -1 by omega),g]
 show if (true=true) then _ else _
 rw[Qhq L]
 symm
 apply av L ?_
 show av (d:=r.d) (aP (by rw[gQm,b];rfl)) ?_
 symm
 apply av L ?_
 apply nJ (enc:=yw) (nm:=(·.1)) gC (!0) k λn=>?_
 apply av L ?_
 show av (d:=rs.d) (aP (by rw[gQm,a];rfl)) ?_
 symm
 apply av L ?_
 show dw (xs:=rs.vals.map D.int) (by rw[lQm];omega) (by rw[lQm];omega) (bg λ_ _=>rfl) L ?_
 symm
 show#[by show 1<=_;decide,?_]
 apply j2 ?_
 apply av L ?_
 show av (d:=rs.d) (aP (by rw[gQm,a];rfl)) ?_
 apply cI ?_
 show#[_,L,cJ #[_,L,?_]]
 show dA (by show 5<=_;decide) ?_
 symm
 have e:({rs with vals:=cV (r.ao.map (·.1)) rs.vals x v}:bO).d=.tup ([.tup ((rs.vals.map D.int).set ((kf (.str x) ((r.ao.map (·.1)).map V.str)).getD 0) (.int v))]++jL [bQ rs.vals,.int rs.within,bQ rs.row,bQ rs.ag,.tup (rs.aa.map dC)] (some 1) none):=by
  show D.tup [bQ (cV _ _ _ _),_,_,_,_]=_
  unfold cV bQ
  rw[map_set]
  rfl
 rw[<-e]
 show cT (gQs.mp a).1 (!0) ?_
 show b_ (aJ _) (aE.low _) q
end
section
variable{S:az}{Q:Res->az->Prop}
noncomputable def kq(w:bD)(s:aE)(h:Nat)(ts:List (Str×Nat))(vs:List Int)(fs:List bG)(x:Str)(v:Int):aE:=
 if x∈w.ak.map (·.1) then{s with ak:=cV (w.ak.map (·.1)) s.ak x v} else{s with af:=s.af.set h (cV (ts.map (·.1)) vs x v,fs)}
def Cz{w:bD}{s:aE}{h:Nat}{ts:List (Str×Nat)}{pr:List Rw}{vs:List Int}{fs:List bG}{f:bG}{x:Str}{v:Int}(g:w.af[h]?=some (ts,pr))(b:s.af[h]?=some (vs,fs))(i:fs.getLast? =some f)(k:f.room= -1)
  (u:w.ak.length=s.ak.length) (y:ts.length=vs.length) (o:w.ak.length<=100) (t:ts.length<=100) (r:s.af.length<=100) (l:x∈ts.map (·.1)++w.ak.map (·.1))
  (q:Q (.d (kq w s h ts vs fs x v).d) S):Fn eJ [w.d,s.d,.int h,.str x,.int v] S Q:=by
 show bP ?_
 unfold jv
 symm
 apply bI b i ?_
 apply av (d:=.int f.room) L ?_
 show lY ?_
 dsimp only[bF,aW,bH,cO,c_,iO]
 rw[Qeq k]
 show aY (λc=>by cases c) (λ_=>cq ?_)
 apply aK (ed (cu (I_ ?_)))
 apply av L ?_
 apply eQ (enc:=yw) (nm:=(·.1)) gC (!0) ?_
 show#[_,_,L,mZ _,?_]
 unfold kq at q
 show if Fc (.str x) ((w.ak.map (·.1)).map V.str)=true then _ else _
 rw[Iu]
 by_cases c:x∈w.ak.map (·.1)
 ·rw[Qhq c] at q
  rw[Qeq c,Qhq L]
  symm
  apply av L ?_
  apply av L ?_
  apply nJ (enc:=yw) (nm:=(·.1)) gC (!0) c λm=>?_
  show dw (xs:=s.ak.map D.int) (by rw[lQm];omega) (by rw[lQm];omega) (bg λ_ _=>rfl) L ?_
  symm
  apply av L ?_
  apply av L ?_
  apply av L ?_
  show#[by show 4<=_;decide,?_]
  rw[<-map_set]
  show b_ (d:=({s with ak:=cV (w.ak.map (·.1)) s.ak x v}:aE).d) (aJ _) (aE.low _) q
 ·rw[Quq c] at q
  rw[Qdq c,Quq (!1)]
  show cq ?_
  have a:x∈ts.map (·.1):=(mQa.mp l).resolve_right c
  symm
  apply av L ?_
  show av (d:=AF (vs,fs)) (aP (by rw[gQm,b];rfl)) ?_
  apply d_ L (au (aN (au (aN (aZ ?_)))))
  apply av L ?_
  show av (d:=dk (ts,pr)) (aP (by rw[gQm,g];rfl)) ?_
  symm
  apply av L ?_
  apply nJ (enc:=yw) (nm:=(·.1)) gC (!0) a λm=>?_
  show dw (xs:=vs.map D.int) (by rw[lQm];omega) (by rw[lQm];omega) (bg λ_ _=>rfl) L ?_
  symm
  rw[<-map_set]
  rw[show D.tup ((vs.set ((kf (.str x) ((ts.map (·.1)).map V.str)).getD 0) v).map D.int)=bQ (cV (ts.map (·.1)) vs x v) from L]
  generalize cV (ts.map (·.1)) vs x v=nv at q|-
  have j:h<s.af.length:=(gQs.mp b).1
  have e:s.af.length<=900:=by omega
  have n:Op (settle S ({s with af:=s.af.set h (nv,fs)}:aE).d S) λp=>Q p.1 p.2:=b_ (aJ _) (aE.low _) q
  show gK j e n
end
section
variable{S:az}{Q:Res->az->Prop}
noncomputable def cp(ns:X6)(x:Str):Nat:=(kf (.str x) (ns.map V.str)).getD 0
def gr{ns:X6}{x:Str}(h:x∈ns):cp ns x<ns.length/\ns[cp ns x]?=some x:=by
 let#[j,b,a]:=ym h
 unfold cp
 rw[b]
 show#[(gQs.mp a).1,a]
def jc{α:Type}{enc:α->D}{nm:α->Str}{xs:List α}{x:Str}(he:∀a,∃r,enc a=.tup (.str (nm a)::r))(hl:xs.length<=1000)(b:x∈xs.map nm)(q:Q (.d (.int (cp (xs.map nm) x:Nat))) S):Fn cP [.tup (xs.map enc),.str x] S Q:=nJ he hl b λ_=>q
def mS{w:bD}{s:aE}{h i:Nat}{vs:List Int}{fs:List bG}{f:bG}{r:Rm}{x:Str}(e:s.af[h]?=some (vs,fs))(b:fs.getLast? =some f)(c:f.room=i)(a:w.aj[i]?=some r)(j:r.aa.length<=100)(g:x∈r.aa.map (·.1))
  (q:Q (.d (.tup [.int i,.int (cp (r.aa.map (·.1)) x:Nat)])) S):Fn jf [w.d,s.d,.int h,.str x] S Q:=by
 show bP ?_
 unfold ue
 symm
 apply bI e b ?_
 show av (d:=.int f.room) L ?_
 rw[c]
 symm
 apply av L ?_
 show av (d:=r.d) (aP (by rw[gQm,a];rfl)) ?_
 symm
 apply av L ?_
 apply jc (enc:=Nk) (nm:=(·.1)) Cv (!0) g ?_
 show#[by show 2<=_;decide,?_]
 show b_ (λk z=>(nomatch z)) L q
def jz{s:aE}{i b:Nat}{rs:bO}{l:List (Int×Int)}(a:s.aj[i]?=some rs)(j:b<rs.aa.length)(h:rs.aa.length<=100)(k:s.aj.length<=100)
  (q:Q (.d ({s with aj:=s.aj.set i {rs with aa:=rs.aa.set b l}}:aE).d) S):Fn eF [s.d,.int i,.int b,dC l] S Q:=by
 show bP ?_
 unfold mz
 symm
 apply av L ?_
 show av (d:=rs.d) (aP (by rw[gQm,a];rfl)) ?_
 symm
 apply j2 ?_
 apply cJ (cI ?_)
 apply#[_,L,_,L,?_]
 apply av L ?_
 show dw (xs:=rs.aa.map dC) (by rw[lQm];omega) (by rw[lQm];omega) (bg λl _=>rY l) (rY l) ?_
 symm
 show#[by show 1<=_;decide,?_]
 show dA (by show 5<=_;decide) ?_
 symm
 rw[<-map_set]
 generalize f:rs.aa.set b l=nb at q|-
 have e:({rs with aa:=nb}:bO).d=.tup (jL [bQ rs.vals,.int rs.within,bQ rs.row,bQ rs.ag,.tup (rs.aa.map dC)] none (some 4)++ [.tup (nb.map dC)]):=rfl
 rw[<-e]
 have c:i<s.aj.length:=(gQs.mp a).1
 have hl:s.aj.length<=900:=by omega
 have g:Op (settle S ({s with aj:=s.aj.set i {rs with aa:=nb}}:aE).d S) λp=>Q p.1 p.2:=b_ (aJ _) (aE.low _) q
 show cT c hl g
noncomputable def dY(p:Int×List Int)(h:Int):Int×List Int:=if 0<p.1 then(p.1-1,p.2) else(p.1,p.2++ [h])
noncomputable def cZ(p:Int×List Int):Int×List Int:=match p.2 with
 |_::l=>(p.1,l)
 | []=>(if 9<p.1+1 then 9 else p.1+1,[])
def zc{w:bD}{s:aE}{h:Int}{x:Str}{p:Int×List Int}(g:x∈w.ai.map (·.1))(b:s.ai[cp (w.ai.map (·.1)) x]?=some p)(i:w.ai.length<=100)(k:s.ai.length<=100)(l:p.2.length<=900)
  (q:Q (.d ({s with ai:=s.ai.set (cp (w.ai.map (·.1)) x) (dY p h)}:aE).d) S):Fn uq [w.d,s.d,.int h,.str x] S Q:=by
 show bP ?_
 unfold Bd
 symm
 apply av L ?_
 show jc (enc:=yw) (nm:=(·.1)) gC (!0) g ?_
 generalize cp (w.ai.map (·.1)) x=j at b q|-
 have f:j<s.ai.length:=(gQs.mp b).1
 have hl:s.ai.length<=900:=by omega
 symm
 apply av L ?_
 show av (d:=AD p) (aP (by rw[gQm,b];rfl)) ?_
 show d_ L (au (aN (au (aN (aZ ?_)))))
 have a:Op (settle S ({s with ai:=s.ai.set j (dY p h)}:aE).d S) λp=>Q p.1 p.2:=b_ (aJ _) (aE.low _) q
 unfold dY at a
 symm
 by_cases c:0<p.1
 ·rw[Qhq c] at a
  rw[Qeq c,Qhq L]
  symm
  show#[by show 2<=_;decide,?_]
  symm
  show gI (p:=(p.1-1,p.2)) f hl a
 ·rw[Quq c] at a
  rw[Qdq c,Quq (!1)]
  apply cq ?_
  show#[by show 1<=_;decide,?_]
  show dA (by erw[lQm,Qnq,QGq];show nQl (bj (!0))) ?_
  symm
  show#[by show 2<=_;decide,?_]
  symm
  have e:D.tup [.int p.1,.tup (p.2.map D.int++ [.int h])]=AD (p.1,p.2++ [h]):=by simp[AD,bQ]
  rw[e]
  show gI f hl a
end
section
variable{S:az}{Q:Res->az->Prop}
def lT{w:bD}{s:aE}{x:Str}{p:Int×List Int}(i:x∈w.ai.map (·.1))(b:s.ai[cp (w.ai.map (·.1)) x]?=some p)(k:w.ai.length<=100)(m:s.ai.length<=100)
  (q:Q (.d ({s with ai:=s.ai.set (cp (w.ai.map (·.1)) x) (cZ p)}:aE).d) S):Fn fX [w.d,s.d,.str x] S Q:=by
 show bP ?_
 unfold kd
 symm
 apply av L ?_
 show jc (enc:=yw) (nm:=(·.1)) gC (!0) i ?_
 generalize cp (w.ai.map (·.1)) x=j at b q|-
 have g:j<s.ai.length:=(gQs.mp b).1
 have hl:s.ai.length<=900:=by omega
 symm
 apply av L ?_
 show av (d:=AD p) (aP (by rw[gQm,b];rfl)) ?_
 show d_ L (au (aN (au (aN (aZ ?_)))))
 have h:Op (settle S ({s with ai:=s.ai.set j (cZ p)}:aE).d S) λp=>Q p.1 p.2:=b_ (aJ _) (aE.low _) q
 let#[v,f]:=p
 symm
 show w4 ?_
 cases f with
 | cons a l=>
   apply aY (λ_=>?_) (λc=>by cases c)
   apply j2 ?_
   apply cI ?_
   apply⟨_,L,cJ ⟨_,L,?_⟩⟩
   show⟨by show 2<=_;decide,?_⟩
   symm
   have e:D.tup (jL ((a::l).map D.int) (some 1) none)=bQ l:=by
     rw[show(some (1:Int))=some ((1:Nat):Int) from L,iZ (by simp)]
     rfl
   rw[e]
   show gI (p:=(v,l)) g hl h
 | nil=>
   apply aY (λc=>by cases c) (λ_=>cq ?_)
   apply Gh ?_
   show⟨by show 2<=_;decide,?_⟩
   symm
   show gI (p:=(if 9<v+1 then 9 else v+1,[])) g hl h
def ve{c sd a b:D}{s:aE}(q:Q (.d s.d) S):Fn rD [c,s.d,a,b] S Q:=by
 show bP ?_
 unfold xU
 symm
 show b_ (aJ _) (aE.low _) q
def yK{e:D}{s:aE}{h n:Nat}{vs:List Int}{fs:List bG}{f:bG}(b:s.af[h]?=some (vs,fs))(a:fs.getLast? =some f)(c:fs.length<=900)(hl:s.af.length<=900)(q:Q (.d ({s with af:=s.af.set h (vs,fs.dropLast++ [{f with row:=n}])}:aE).d) S):Fn xa [e,s.d,.int h,(Rw.go n).d] S Q:=by
 show bP ?_
 unfold Bt
 symm
 apply av (d:=.int n) L ?_
 have g:Op (settle S ({s with af:=s.af.set h (vs,fs.dropLast++ [{f with row:=n}])}:aE).d S) λp=>Q p.1 p.2:=b_ (aJ _) (aE.low _) q
 show pX b a c hl g
end
section
variable{S:az}{Q:Res->az->Prop}
def tH{w:bD}{s:aE}{h:Int}{x:Str}{p:Int×List Int}(g:x∈w.ai.map (·.1))(a:s.ai[cp (w.ai.map (·.1)) x]?=some p)(b:w.ai.length<=100)(c:s.ai.length<=100)(e:p.2.length<=900)
  (q:Q (.d ({s with ai:=s.ai.set (cp (w.ai.map (·.1)) x) (dY p h)}:aE).d) S):Fn oh [w.d,s.d,.int h,(Rw.take x).d] S Q:=by
 show bP ?_
 unfold rK
 symm
 apply av (d:=.str x) L ?_
 have f:Op (settle S ({s with ai:=s.ai.set (cp (w.ai.map (·.1)) x) (dY p h)}:aE).d S) λp=>Q p.1 p.2:=b_ (aJ _) (aE.low _) q
 show zc g a b c e f
def rM{w:bD}{s:aE}{a:D}{x:Str}{p:Int×List Int}(g:x∈w.ai.map (·.1))(b:s.ai[cp (w.ai.map (·.1)) x]?=some p)(c:w.ai.length<=100)(e:s.ai.length<=100)
  (q:Q (.d ({s with ai:=s.ai.set (cp (w.ai.map (·.1)) x) (cZ p)}:aE).d) S):Fn oG [w.d,s.d,a,(Rw.give x).d] S Q:=by
 show bP ?_
 unfold uc
 symm
 apply av (d:=.str x) L ?_
 have f:Op (settle S ({s with ai:=s.ai.set (cp (w.ai.map (·.1)) x) (cZ p)}:aE).d S) λp=>Q p.1 p.2:=b_ (aJ _) (aE.low _) q
 show lT g b c e f
end
section
variable{S:az}{Q:Res->az->Prop}
def x9(w:bD)(s:aE)(h:Nat)(t:Tr)(v:Int):Prop:=∀(S:az) (Q:Res->az->Prop),Q (.d (.int v)) S->Fn dh [w.d,s.d,.int h,t.d] S Q
def Puts(w:bD)(s:aE)(h:Nat)(x:Str)(v:Int)(s':aE):Prop:=∀(S:az) (Q:Res->az->Prop),Q (.d s'.d) S->Fn eJ [w.d,s.d,.int h,.str x,.int v] S Q
def uG{w:bD}{s:aE}{h:Int}{x y:Str}{p a:Int×List Int}(k:x∈w.ai.map (·.1))(g:y∈w.ai.map (·.1))(f:s.ai[cp (w.ai.map (·.1)) x]?=some p)(c:w.ai.length<=100)(e:s.ai.length<=100)(i:a.2.length<=900)
  (b:(s.ai.set (cp (w.ai.map (·.1)) x) (cZ p))[cp (w.ai.map (·.1)) y]?=some a)
  (q:Q (.d ({s with ai:=(s.ai.set (cp (w.ai.map (·.1)) x) (cZ p)).set (cp (w.ai.map (·.1)) y) (dY a h)}:aE).d) S):Fn m5 [w.d,s.d,.int h,(Rw.pass x y).d] S Q:=by
 show bP ?_
 unfold sR
 symm
 apply av (d:=.str x) L ?_
 apply lT k f c e ?_
 apply av (d:=.str y) L ?_
 have j:Op (settle S ({s with ai:=(s.ai.set (cp (w.ai.map (·.1)) x) (cZ p)).set (cp (w.ai.map (·.1)) y) (dY a h)}:aE).d S) λp=>Q p.1 p.2:=b_ (aJ _) (aE.low _) q
 show zc (s:={s with ai:=s.ai.set (cp (w.ai.map (·.1)) x) (cZ p)}) g b c (by simpa using e) i j
def wb{w:bD}{s s':aE}{h:Nat}{x:Str}{t:Tr}{v:Int}(b:x9 w s h t v)(a:Puts w s h x v s')(q:Q (.d s'.d) S):Fn rE [w.d,s.d,.int h,(Rw.put x t).d] S Q:=by
 show bP ?_
 unfold xZ
 symm
 apply av (d:=.str x) L ?_
 apply av (d:=t.d) L ?_
 apply b _ _ ?_
 show a _ _ ?_
 show b_ (aJ _) (aE.low _) q
def oF{w:bD}{s:aE}{h n:Nat}{t:Tr}{v:Int}{vs:List Int}{fs:List bG}{f:bG}(e:x9 w s h t v)(b:s.af[h]?=some (vs,fs))(a:fs.getLast? =some f)(g:fs.length<=900)(hl:s.af.length<=900)
  (q:Q (.d (if v=0 then({s with af:=s.af.set h (vs,fs.dropLast++ [{f with row:=n}])}:aE) else s).d) S):Fn jD [w.d,s.d,.int h,(Rw.unl t n).d] S Q:=by
 show bP ?_
 unfold mJ
 symm
 apply av (d:=t.d) L ?_
 apply e _ _ ?_
 show fq ?_
 dsimp only[bF,aW,bH,cO,c_,iO]
 by_cases c:v=0
 ·rw[Qhq c] at q
  rw[Qeq c,Qhq L]
  symm
  apply av (d:=.int n) L ?_
  have i:Op (settle S ({s with af:=s.af.set h (vs,fs.dropLast++ [{f with row:=n}])}:aE).d S) λp=>Q p.1 p.2:=b_ (aJ _) (aE.low _) q
  show pX b a g hl i
 ·rw[Quq c] at q
  rw[Qdq c,Quq (!1)]
  apply cq ?_
  show b_ (aJ _) (aE.low _) q
end
section
variable{S:az}{Q:Res->az->Prop}
def t9{w:bD}{s:aE}{h:Nat}{t:Tr}{v:Int}{vs:List Int}{fs:List bG}{f:bG}(i:x9 w s h t v)(e:s.af[h]?=some (vs,fs))(c:fs.getLast? =some f)(j:fs.length<=900)(hl:s.af.length<=900)
  (q:Q (.d ({s with af:=s.af.set h (vs,fs.dropLast++ [{f with told:=v}])}:aE).d) S):Fn nU [w.d,s.d,.int h,(Rw.tell t).d] S Q:=by
 show bP ?_
 unfold rT
 symm
 apply av (d:=t.d) L ?_
 apply i _ _ ?_
 apply j2 ?_
 show bI e c ?_
 apply cJ (cI ?_)
 apply⟨_,L,_,L,?_⟩
 show⟨by show 1<=_;decide,?_⟩
 show dA (by show 5<=_;decide) ?_
 symm
 have g:0<fs.length:=by
  cases fs with
  |nil=>cases c
  |cons a b=>simp
 have k:Op (settle S ({s with af:=s.af.set h (vs,fs.dropLast++ [{f with told:=v}])}:aE).d S) λp=>Q p.1 p.2:=b_ (aJ _) (aE.low _) q
 show hJ (f:={f with told:=v}) e g j hl k
def vT{w:bD}{s:aE}{h i:Nat}{vs:List Int}{fs:List bG}{f:bG}{r:Rm}{rs:bO}{x:Str}(o:s.af[h]?=some (vs,fs))(k:fs.getLast? =some f)(m:f.room=i)(j:w.aj[i]?=some r)(a:s.aj[i]?=some rs)(n:r.aa.length<=100)(u:r.aa.length=rs.aa.length)(g:s.aj.length<=100)(e:x∈r.aa.map (·.1))
  (q:Q (.d ({s with aj:=s.aj.set i {rs with aa:=rs.aa.set (cp (r.aa.map (·.1)) x) []}}:aE).d) S):Fn rC [w.d,s.d,.int h,(Rw.all x).d] S Q:=by
 let c:=(gr e).1
 rw[lQm] at c
 show bP ?_
 unfold xv
 symm
 apply av (d:=.str x) L ?_
 show mS o k m j n e ?_
 show d_ L (au (aN (au (aN (aZ ?_)))))
 generalize cp (r.aa.map (·.1)) x=b at c q|-
 symm
 apply⟨by decide,?_⟩
 have t:Op (settle S ({s with aj:=s.aj.set i {rs with aa:=rs.aa.set b []}}:aE).d S) λp=>Q p.1 p.2:=b_ (aJ _) (aE.low _) q
 show jz (l:= []) a (!0) (!0) g t
end
section
variable{S:az}{Q:Res->az->Prop}
def Mj:∀a:Rm,∃r,a.d=.tup (.str a.name::r):=λa=>⟨_,L⟩
def FL:∀a:Str×List Rw,∃r,Dx a=.tup (.str a.1::r):=λa=>⟨_,L⟩
def Ae{w:bD}{s:aE}{h:Nat}{g:Option Str}{rn b:Str}{t:Tr}{v:Int}{vs:List Int}{fs:List bG}{r:Rm}{rs:bO}(n:x9 w s h t v)(k:s.af[h]?=some (vs,fs))(c:rn∈w.aj.map (·.name))(j:w.aj[cp (w.aj.map (·.name)) rn]?=some r)(a:s.aj[cp (w.aj.map (·.name)) rn]?=some rs)(f:b∈r.ae.map (·.1))
  (x:w.aj.length<=100) (B:r.ae.length<=100) (A:s.aj.length<=100) (o:rs.row.length<=900) (y:fs.length<=900) (z:s.af.length<=100)
  (q:Q (.d ({s with af:=s.af.set h (vs,fs++ [⟨(cp (w.aj.map (·.name)) rn:Nat),(cp (r.ae.map (·.1)) b:Nat),0,v,0⟩]),aj:=s.aj.set (cp (w.aj.map (·.name)) rn) (eO rs h)}:aE).d) S):Fn wI [w.d,s.d,.int h,(Rw.do_ g rn b t).d] S Q:=by
 show bP ?_
 unfold A2
 symm
 apply av L ?_
 apply av (d:=.str rn) L ?_
 show jc (enc:=Rm.d) (nm:=(·.name)) Mj (!0) c ?_
 generalize cp (w.aj.map (·.name)) rn=i at j a q|-
 symm
 apply av L ?_
 show av (d:=r.d) (aP (by rw[gQm,j];rfl)) ?_
 symm
 apply av L ?_
 apply av (d:=.str b) L ?_
 show jc (enc:=Dx) (nm:=(·.1)) FL (!0) f ?_
 generalize cp (r.ae.map (·.1)) b=dd at q|-
 symm
 apply av (d:=t.d) L ?_
 apply n _ _ ?_
 show⟨by show 5<=_;decide,?_⟩
 symm
 apply av L ?_
 show av (d:=AF (vs,fs)) (aP (by rw[gQm,k];rfl)) ?_
 apply d_ L (au (aN (au (aN (aZ ?_)))))
 show⟨by show 1<=_;decide,?_⟩
 show dA (by erw[lQm,Qnq,QGq];show nQl (bj (!0))) ?_
 symm
 have e:fs.map bG.d++ [D.tup [.int i,.int dd,.int 0,.int v,.int 0]]=(fs++ [(⟨i,dd,0,v,0⟩:bG)]).map bG.d:=by rw[Qzq];rfl
 rw[e]
 generalize l:fs++ [(⟨i,dd,0,v,0⟩:bG)]=nf at q|-
 have m:h<s.af.length:=(gQs.mp k).1
 apply gK (vs:=vs) (fs:=nf) m (!0) ?_
 have u:Op (settle S ({s with af:=s.af.set h (vs,nf),aj:=s.aj.set i (eO rs h)}:aE).d S) λp=>Q p.1 p.2:=b_ (aJ _) (aE.low _) q
 show tZ (s:={s with af:=s.af.set h (vs,nf)}) a (by show s.aj.length<=900;omega) o u
end
section
variable{S:az}{Q:Res->az->Prop}
noncomputable def nB(a:Bool)(rs:bO)(b:Nat)(h:Int):bO:=match rs.aa[b]? with
 |some (p::l)=>if a then{rs with aa:=rs.aa.set b l} else{rs with aa:=rs.aa.set b l,within:=p.2,ag:=rs.ag++ [h]}
 |_=>rs
def rN{w:bD}{s:aE}{h i:Nat}{vs:List Int}{fs:List bG}{f:bG}{r:Rm}{rs:bO}{x:Str}(H:s.af[h]?=some (vs,fs))(B:fs.getLast? =some f)(F:f.room=i)(u:w.aj[i]?=some r)(k:s.aj[i]?=some rs)(G:r.aa.length<=100)(M:r.aa.length=rs.aa.length)(z:s.aj.length<=100)(K:rs.ag.length<=900)(y:x∈r.aa.map (·.1))
  (q:Q (.d ({s with aj:=s.aj.set i (nB (decide (r.ah="when free")) rs (cp (r.aa.map (·.1)) x) h)}:aE).d) S):Fn nL [w.d,s.d,.int h,(Rw.call x).d] S Q:=by
 let v:=(gr y).1
 rw[lQm] at v
 have o:i<s.aj.length:=(gQs.mp k).1
 show bP ?_
 unfold uK
 symm
 apply av (d:=.str x) L ?_
 show mS H B F u G y ?_
 show d_ L (au (aN (au (aN (aZ ?_)))))
 generalize cp (r.aa.map (·.1)) x=b at v q|-
 have t:b<rs.aa.length:=by omega
 obtain⟨m,a⟩:∃l,rs.aa[b]?=some l:=#[_,gQe t]
 have g:Op (settle S ({s with aj:=s.aj.set i (nB (decide (r.ah="when free")) rs b h)}:aE).d S) λp=>Q p.1 p.2:=b_ (aJ _) (aE.low _) q
 unfold nB at g
 rw[a] at g
 symm
 apply av L ?_
 show av (d:=rs.d) (aP (by rw[gQm,k];rfl)) ?_
 symm
 apply av L ?_
 show av (d:=dC m) (aP (by rw[gQm,a];rfl)) ?_
 symm
 show w4 ?_
 cases m with
 | nil=>
   apply aY (λ_=>?_) (λc=>by cases c)
   have e:s.aj.set i rs=s.aj:=by
     apply List.ext_getElem?
     intro j
     rw[List.getElem?_set]
     split
     · rename_i c
       subst c
       rw[k]
       first|done|simp[o]
     · rfl
   have A:({s with aj:=s.aj.set i rs}:aE)=s:=by rw[e]
   have n:Op (settle S ({s with aj:=s.aj.set i rs}:aE).d S) λp=>Q p.1 p.2:=g
   rw[A] at n
   show n
 | cons p l=>
   apply aY (λc=>by cases c) (λ_=>cq ?_)
   apply j2 ?_
   apply cI ?_
   apply#[_,L,cJ #[_,L,?_]]
   have e:D.tup (jL ((p::l).map pairD) (some 1) none)=dC l:=by
     rw[show(some (1:Int))=some ((1:Nat):Int) from L,iZ (by simp)]
     rfl
   rw[e]
   show jz k t (!0) z ?_
   dsimp only at g
   generalize J:rs.aa.set b l=nb at g|-
   symm
   apply av L ?_
   show av (d:=r.d) (aP (by rw[gQm,u];rfl)) ?_
   symm
   apply av (d:=.str r.ah) L ?_
   show ix ?_
   dsimp only[bF,aW,bH,cO,c_,iO]
   by_cases c:r.ah="when free"
   · rw[Qeq c] at g|-
     rw[Qhq L] at g
     rw[Qhq L]
     symm
     show g
   · rw[Qdq c] at g|-
     rw[Quq (!1)] at g
     rw[Quq (!1)]
     apply cq ?_
     show av L ?_
     have C:((s.aj.set i {rs with aa:=nb}).map bO.d)[i]?=some ({rs with aa:=nb}:bO).d:=by rw[gQm,Qyq o];rfl
     symm
     show av (d:=({rs with aa:=nb}:bO).d) (aP C) ?_
     apply d_ L (au (aN (au (aN (au (aN (au (aN (au (aN (aZ ?_)))))))))))
     apply av (d:=pairD p) Gn ?_
     apply av (d:=.int p.2) L ?_
     show#[by show 1<=_;decide,?_]
     show dA (by erw[lQm,Qnq,QGq];show nQl (bj (!0))) ?_
     symm
     show#[by show 5<=_;decide,?_]
     symm
     have I:D.tup [bQ rs.vals,.int p.2,bQ rs.row,.tup (rs.ag.map D.int++ [.int h]),.tup (nb.map dC)]=({rs with aa:=nb,within:=p.2,ag:=rs.ag++ [(h:Int)]}:bO).d:=by simp[bO.d,bQ]
     rw[I]
     have n:Op (settle S ({s with aj:=(s.aj.set i {rs with aa:=nb}).set i {rs with aa:=nb,within:=p.2,ag:=rs.ag++ [(h:Int)]}}:aE).d S) λp=>Q p.1 p.2:=by rw[List.set_set];show g
     show cT (s:={s with aj:=s.aj.set i {rs with aa:=nb}}) (by simpa using o) (by simp;omega) n
end
end W28
namespace DL
open L2
def fN{α:Type}{u:cf}{S:az}{js:List (Option Nat)}{i:u9}{g:lO}{t:iH}{o:aU}{Q:List D->az->Prop}(P:cf->Prop)(enc G:α->D)(c:α->Bool)(F:P (nZ js u)) (h:E i u S λp f=>∃xs:List α,p.1=xs.map enc/\p.2 f/\xs.length<=1000∧
   (∀x∈xs,∀a,P a->Tg g (enc x) a f λb S2=>S2=f/\P b/\E t b f λk A=>A=f/\k=c x/\(c x=true->E o b f λy B=>y=G x/\B=f))/\Q ((xs.filter c).map G) f):E (cM js i g t o) u S Q:=by
 show tU (h.mono λp f I=>?_)
 let#[xs,z,J,hl,R,q]:=I
 show#[λn a s j=>s=f/\j=((xs.take n).filter c).map G/\P a,#[L,L,F],λn a s j h=>by rw[h.1];show J,λn d a s j r h=>?_,λa s j h=>?_]
 ·let#[rfl,rfl,h3]:=h
  have r:p.1[n]?=some d:=r
  rw[z,gQm] at r
  let#[x,l,rfl]:=oQm.mp r
  let#[b,S2,M,rfl,h4,h5]:=R x (mQg l) a h3
  show#[b,S2,M,?_]
  show h5.mono λk A v=>?_
  let#[H,N,K]:=v
  subst H N
  let W:=(gQs.mp l).1
  have w:((xs.take (n+1)).filter c).map G=((xs.take n).filter c).map G++if c x=true then [G x] else []:=by
   rw[QYq,l]
   cases m:c x <;>simp[m]
  by_cases m:c x=true
  ·rw[Qhq m]
   show(K m).mono λy B v=>?_
   let#[U,C]:=v
   subst U C
   show#[?_,L,?_,h4]
   ·rw[lQm]
    have:=List.length_filter_le c (xs.take n)
    rw[Qxq] at this
    show bj (!0)
   ·rw[w,Qhq m]
  ·rw[Quq m]
   show#[L,?_,h4]
   rw[w,Quq m,List.append_nil]
 ·let#[rfl,rfl,_]:=h
  have e:p.1.length=xs.length:=by rw[z,lQm]
  show Q (((xs.take p.1.length).filter c).map G) _
  rw[e,QEq]
  show q
end DL
namespace W28
open L2 DL
section
variable{S:az}{Q:Res->az->Prop}
noncomputable def gk(l:List (Int×Int))(t h:Int):List (Int×Int):=l.take (l.filter λp=>decide (p.1<=t)).length++ [(t,h)]++l.drop (l.filter λp=>decide (p.1<=t)).length
def sE{w:bD}{s:aE}{h i:Nat}{vs:List Int}{fs:List bG}{f:bG}{r:Rm}{rs:bO}{x u:Str}{t:Tr}{v:Int}{g:List (Int×Int)}(hs:s.af[h]?=some (vs,fs))(X:fs.getLast? =some f)(Y:f.room=i)(J:w.aj[i]?=some r)(m:s.aj[i]?=some rs)(Z:r.aa.length<=100)(l2:r.aa.length=rs.aa.length)(P:s.aj.length<=100)(K:x∈r.aa.map (·.1))
  (B:r.aa[cp (r.aa.map (·.1)) x]?=some (x,u)) (k:rs.aa[cp (r.aa.map (·.1)) x]?=some g) (b4:g.length<=900) (C:x9 w s h t v)
  (q:Q (.d ({s with aj:=s.aj.set i (bq {rs with aa:=rs.aa.set (cp (r.aa.map (·.1)) x) (gk g (if u="turns" then v else 0) h)})}:aE).d) S):Fn nj [w.d,s.d,.int h,(Rw.wait x t).d] S Q:=by
 let G:=(gr K).1
 rw[lQm] at G
 have hi:i<s.aj.length:=(gQs.mp m).1
 show bP ?_
 unfold sg
 symm
 apply av (d:=.str x) L ?_
 show mS hs X Y J Z K ?_
 show d_ L (au (aN (au (aN (aZ ?_)))))
 generalize cp (r.aa.map (·.1)) x=b at G q B k|-
 have N:b<rs.aa.length:=by omega
 symm
 apply av L ?_
 show av (d:=r.d) (aP (by rw[gQm,J];rfl)) ?_
 symm
 apply av L ?_
 show av (d:=Nk (x,u)) (aP (by rw[gQm,B];rfl)) ?_
 symm
 apply av (d:=.str u) L ?_
 show ix ?_
 dsimp only[bF,aW,bH,cO,c_,iO]
 have y:∀j:Int,j=(if u="turns" then v else 0)->T (aC (a_ 7 (bf qT (bf qT (bf qT (bf qT (ar 1) (cF (.int 0))) (ar 4)) (cF (.int 4))) (ar 5)))
   (aC (a_ 8 (hZ (lI (cM [none,none,some 6] (rG (bL (ar 7))) (jS (nG 2 (aG (bS 0) (aG (bS 1) dG)))) (aS (bf Nn (ar 0) (ar 2))) (ar 0)))))
   (aC (a_ 9 (aB eF (aw (ar 1) (aw (ar 4) (aw (ar 5) (aw (bf bW (bf bW (sF (ar 7) uQ (ub (ar 8))) (bc (aw (bc (aw (ar 6) (aw (ar 2) ax))) ax))) (sF (ar 7) (ub (ar 8)) uQ)) ax))))))
   (cQ (aB pV (aw (ar 9) (aw (ar 4) ax)))))))
   [some w.d,some s.d,some (.int h),some (Rw.wait x t).d,some (.int i),some (.int b),some (.int j),none,none,none] S (λo=>match o with
   |.nx _ z=>Op (settle S .non z) λp=>Q p.1 p.2|.rt d z=>Op (settle S d z) λp=>Q p.1 p.2|.rl l z=>Op (eT S l z) λp=>Q p.1 p.2|_=>False):=by
  intro j F
  rw[<-F] at q
  symm
  apply av L ?_
  show av (d:=rs.d) (aP (by rw[gQm,m];rfl)) ?_
  symm
  apply av L ?_
  show av (d:=dC g) (aP (by rw[gQm,k];rfl)) ?_
  symm
  apply fN (α:=Int×Int) (λA=>∃a b,A= [a,b,some (.int j)]) pairD (λp=>.int p.1) (λp=>decide (p.1<=j)) #[none,none,L] ?_
  show du (ds:=g.map pairD) ?_
  show#[g,L,trivial,by omega,λp G A H=>?_,?_]
  ·let#[a,b,rfl]:=H
   show d_ L (au (aN (au (aN (aZ ?_)))))
   apply#[L,#[_,_,L],?_]
   apply#[L,L,λ_=>?_]
   show#[L,L]
  have U:((g.filter λp=>decide (p.1<=j)).map λp=>D.int p.1).length=(g.filter λp=>decide (p.1<=j)).length:=lQm ..
  let I:=List.length_filter_le (λp=>decide (p.1<=j)) g
  unfold gk at q
  symm
  rw[U]
  generalize (g.filter λp=>decide (p.1<=j)).length=n at q I|-
  apply j2 ?_
  apply cJ (cI ?_)
  show#[_,L,g.map pairD,L,?_]
  rw[FQ (by rw[lQm];show I)]
  symm
  show#[by show 2<=_;decide,?_]
  symm
  show#[by show 1<=_;decide,?_]
  show dA (by erw[lQm,Qxq,Qnq,QGq];show nQl (bj (!0))) ?_
  apply j2 ?_
  apply cI ?_
  show#[_,L,cJ #[g.map pairD,L,?_]]
  rw[iZ (by rw[lQm];show I)]
  show dA (by erw[lQa,lQm,Qxq,List.length_drop,Qnq,QGq];show nQl (bj (!0))) ?_
  symm
  have e:D.tup ((g.map pairD).take n++ [D.tup [.int j,.int h]]++(g.map pairD).drop n)=dC (g.take n++ [(j,(h:Int))]++g.drop n):=by
   erw[dC,Qzq,List.map_take,List.map_drop]
   rfl
  rw[e]
  generalize g.take n++ [(j,(h:Int))]++g.drop n=nl at q|-
  apply jz m N (!0) P ?_
  have M:Op (settle S ({s with aj:=s.aj.set i (bq {rs with aa:=rs.aa.set b nl})}:aE).d S) λp=>Q p.1 p.2:=b_ (aJ _) (aE.low _) q
  generalize R:({rs with aa:=rs.aa.set b nl}:bO)=nr at M|-
  have W:Op (settle S ({s with aj:=(s.aj.set i nr).set i (bq nr)}:aE).d S) λp=>Q p.1 p.2:=by rw[List.set_set];show M
  show zt (s:={s with aj:=s.aj.set i nr}) (Qyq hi) (by simp;omega) W
 by_cases c:u="turns"
 ·rw[Qeq c,Qhq L]
  symm
  apply av (d:=t.d) L ?_
  show C _ _ ?_
  show y v (by rw[Qhq c])
 ·rw[Qdq c,Quq (!1)]
  show cq ?_
  show y 0 (by rw[Quq c])
end
end W28
namespace DL
open L2
section
variable{a:cf}{S:az}
def Rh{b:List (Str×Str)}{g:aU}{Q:D->az->Prop}(h:E g a S λy c=>∃x nm,y=.str x/\b.lookup x=some nm/\Q (.fn nm) c):E (P8 b g) a S Q:=by
 let#[y,c,d,x,nm,rfl,e2,q]:=h
 show#[_,c,by unfold P8;rw[d];erw[Qbq];rw[e2];rfl,q]
def Ko{i:Nat}{T:List (Str×dr)}{g:fI}{x:Str}{F:dr}{Q:D->az->Prop}(e:a[i]?=some (some (.fn x)))(c:T.lookup x=some F)(h:E (aB F g) a S Q):E (tw i T g) a S Q:=by
 let#[y,d,b,q]:=h
 show#[_,d,by unfold tw;rw[e];show(T.lookup x).bind _=_;rw[c];show b,q]
def MD{f:aU}{Q:D->az->Prop}(h:E f a S λd b=>∃k,d=.bl k/\Q (.bl (!k)) b):E (Iy f) a S Q:=by
 let#[d,b,c,k,rfl,q]:=h
 show#[_,b,by unfold Iy;rw[c];rfl,q]
def oI{b:Bool}{x:D}{Q:D->Prop}(q:Q (.bl (if b then !isNone x else isNone x))):Op (s_ b S x .non) Q:=#[_,L,q]
end
def vt{α:Type}{xs:List α}{a b:α}:nT (xs++ [a,b]) (-2)=some a:=by
 unfold nT HW
 rw[Quq (!0),Qhq (by simp;omega)]
 erw[Qbq]
 rw[show((-2:Int)+((xs++ [a,b]).length:Int)).toNat=xs.length by simp;omega]
 simp
end DL
namespace W28
open L2 DL
section
variable{S:az}{Q:Res->az->Prop}
def Sa:Rw->dr
 |.put _ _=>rE
 |.unl _ _=>jD
 |.go _=>xa
 |.do_ _ _ _ _=>wI
 |.wait _ _=>nj
 |.call _=>nL
 |.all _=>rC
 |.tell _=>nU
 |.take _=>oh
 |.give _=>oG
 |.pass _ _=>m5
 |.say _=>rD
noncomputable def Rw.kind:Rw->Str
 |.put _ _=>"put"
 |.unl _ _=>"unless"
 |.go _=>"go"
 |.do_ _ _ _ _=>"do"
 |.wait _ _=>"wait"
 |.call _=>"call"
 |.all _=>"all"
 |.tell _=>"tell"
 |.take _=>"take"
 |.give _=>"give"
 |.pass _ _=>"pass"
 |.say _=>"say"
def Rw.d_kind(r:Rw):∃l,r.d=.tup (.str r.kind::l):=by cases r <;>show#[_,L]
def JE(r:Rw):∃nm,kW.lookup r.kind=some nm/\uB.lookup nm=some (Sa r):=by
 cases r
 ·show#["by_put",L,L]
 ·show#["by_unless",L,L]
 ·show#["by_go",L,L]
 ·show#["by_do",L,L]
 ·show#["by_wait",L,L]
 ·show#["by_call",L,L]
 ·show#["by_all",L,L]
 ·show#["by_tell",L,L]
 ·show#["by_take",L,L]
 ·show#["by_give",L,L]
 ·show#["by_pass",L,L]
 ·show#["by_say",L,L]
def JD(w:bD)(s:aE)(h:Nat)(r:Rw)(s':aE):Prop:=∀(S:az) (Q:Res->az->Prop),Q (.d s'.d) S->Fn (Sa r) [w.d,s.d,.int h,r.d] S Q
def Ac{w:bD}{s s':aE}{h:Nat}{r:Rw}(a:JD w s h r s')(q:Q (.d s'.d) S):Fn iX [w.d,s.d,.int h,r.d] S Q:=by
 let#[nm,b,c]:=JE r
 let#[l,hl]:=r.d_kind
 show bP ?_
 unfold vW
 apply aK (eZ (Rh ?_))
 rw[hl]
 show av (d:=.str r.kind) Gn ?_
 rw[<-hl]
 show#[_,nm,L,b,?_]
 apply gA (Ko (x:=nm) L c ?_)
 show a _ _ ?_
 show b_ (aJ _) (aE.low _) q
def ir{w:bD}{s s':aE}{h i:Nat}{vs:List Int}{e:List bG}{b f:bG}{rs:bO}{pr:List Rw}{g:Option Str}{rn o:Str}{t:Tr}(p:s.af[h]?=some (vs,e++ [b,f]))(y:f.room=i)(l:s.aj[i]?=some rs)(r:s.aj.length<=900)(z:s.af.length<=900)
  (u:progOf w h b=some pr) (A:1<=b.row) (k:pr[(b.row-1).toNat]?=some (.do_ g rn o t))
  (j:∀a:aE,a={s with aj:=s.aj.set i (bq rs),af:=s.af.set h (vs,e++ [b])}->match g with|none=>s'=a|some x=>Puts w a h x f.told s')
  (q:Q (.d s'.d) S):Fn jq [w.d,s.d,.int h] S Q:=by
 have v:h<s.af.length:=(gQs.mp p).1
 show bP ?_
 unfold oK
 symm
 apply av L ?_
 show av (d:=AF (vs,e++ [b,f])) (aP (by rw[gQm,p];rfl)) ?_
 show d_ L (au (aN (au (aN (aZ ?_)))))
 have m:(e++ [b,f]).map bG.d=e.map bG.d++ [b.d,f.d]:=by simp
 dsimp only[bF,aW,bH,cO,c_,iO]
 rw[m]
 symm
 apply qw ?_
 show#[1,L,?_]
 show av (d:=f.d) (yS (by simp)) ?_
 show d_ L (au (aN (au (aN (au (aN (au (aN (au (aN (aZ ?_)))))))))))
 rw[y]
 symm
 apply zt l r ?_
 apply j2 ?_
 apply cJ (cI (qw ?_))
 show#[1,L,_,L,_,L,?_]
 rw[zY (by simp)]
 have n:D.tup ((e.map bG.d++ [b.d,f.d]).dropLast)=.tup ((e++ [b]).map bG.d):=by
  rw[show e.map bG.d++ [b.d,f.d]=(e.map bG.d++ [b.d])++ [f.d] by simp,List.dropLast_concat]
  simp
 rw[n]
 symm
 show gK (s:={s with aj:=s.aj.set i (bq rs)}) v z ?_
 let j:=j _ L
 dsimp only at j|-
 generalize ({s with aj:=s.aj.set i (bq rs),af:=s.af.set h (vs,e++ [b])}:aE)=a at j|-
 symm
 apply qw ?_
 show#[2,L,?_]
 apply av (d:=b.d) vt ?_
 apply fL u ?_
 apply qw ?_
 show#[2,L,?_]
 apply av (d:=b.d) vt ?_
 apply av (d:=.int b.row) L ?_
 show av (d:=(Rw.do_ g rn o t).d) (k9 (!0) (by rw[gQm,k];rfl)) ?_
 symm
 apply av (d:=MN g) L ?_
 show oI ?_
 cases g with
 | none=>
   dsimp only at j
   subst j
   apply aY (λ_=>?_) (λc=>by cases c)
   show b_ (aJ _) (aE.low _) q
 | some x=>
   apply aY (λc=>by cases c) (λ_=>cq ?_)
   apply av (d:=.str x) L ?_
   show j _ _ ?_
   show b_ (aJ _) (aE.low _) q
end
section
variable{S:az}{Q:Res->az->Prop}
noncomputable def Qb(h:Nat):Option Int->D
 |none=>.non
 |some v=>.tup [.int h,.int v]
def Kk(h:Nat)(e:Xb):cc 0 (Qb h e)=true:=by cases e <;>rfl
noncomputable def J0(s:aE)(h:Nat)(e:Xb):D:=.tup [s.d,Qb h e]
def xu(s:aE)(h:Nat)(e:Xb):cc 0 (J0 s h e)=true:=by
 erw[J0,cc,bK,Kk,aE.low,Bool.and_true]
def gU(w:bD)(s:aE)(h:Nat)(s':aE)(e:Xb):Prop:=∀(S:az) (Q:Res->az->Prop),Q (.d (J0 s' h e)) S->Fn kg [w.d,s.d,.int h] S Q
def vd{w:bD}{s:aE}{h i:Nat}{vs:List Int}{fs:List bG}{f:bG}{rs:bO}(j:s.af[h]?=some (vs,fs))(c:fs.getLast? =some f)(e:f.room=i)(a:s.aj[i]?=some rs)(l:rs.within≠h)(b:s.aj.length<=900)(g:rs.row.length<=900):
  gU w s h {s with aj:=s.aj.set i (eO rs h)} none:=by
 intro S Q q
 show bP ?_
 unfold kP
 symm
 apply bI j c ?_
 apply av (d:=.int f.room) L ?_
 show lY ?_
 dsimp only[bF,aW,bH,cO,c_,iO]
 rw[Qdq (show¬f.room= -1 by omega),e]
 show if (true=true) then _ else _
 rw[Qhq L]
 symm
 apply av L ?_
 show av (d:=rs.d) (aP (by rw[gQm,a];rfl)) ?_
 symm
 apply av (d:=.int rs.within) L ?_
 show lY ?_
 dsimp only[bF,aW,bH,cO,c_,iO]
 rw[Qdq l]
 show if (true=true) then _ else _
 rw[Qhq L]
 symm
 apply tZ a b g ?_
 show#[by show 2<=_;decide,?_]
 show b_ (d:=J0 _ h none) (λk z=>(nomatch z)) (xu _ _ _) q
def Here(s:aE)(h:Nat)(f:bG):Prop:=f.room= -1\/∃(i:Nat) (a:bO),f.room=i/\s.aj[i]?=some a/\a.within=h
def vL{w:bD}{s:aE}{h:Nat}{f:bG}{a b c d:Option D}{Q:Bool->az->Prop}(k:Here s h f)(q:Q false S):E (r8 (aS (bf (gJ true) (ar 4) (cF (.int (-1))))) (aS (bf (gJ true) (bf qT (bf qT (bf qT (ar 1) (cF (.int 0))) (ar 4)) (cF (.int 1))) (ar 2)))) [some w.d,some s.d,some (.int h),some f.d,some (.int f.room),a,b,c] S Q:=by
 rcases k with g|⟨i,j,g,e,l⟩
 ·symm
  show lY ?_
  dsimp only[bF,aW,bH,cO,c_,iO]
  rw[Qeq g]
  show if (false=true) then _ else _
  rw[Quq (!1)]
  show q
 ·symm
  show lY ?_
  dsimp only[bF,aW,bH,cO,c_,iO]
  rw[Qdq (show¬f.room= -1 by omega),g]
  show if (true=true) then _ else _
  rw[Qhq L]
  symm
  apply av L ?_
  show av (d:=j.d) (aP (by rw[gQm,e];rfl)) ?_
  symm
  apply av (d:=.int j.within) L ?_
  show lY ?_
  dsimp only[bF,aW,bH,cO,c_,iO]
  rw[Qeq l]
  show q
def oo{w:bD}{s s':aE}{h:Nat}{vs:List Int}{fs:List bG}{f:bG}{pr:List Rw}(i:s.af[h]?=some (vs,fs))(e:fs.getLast? =some f)(g:Here s h f)(b:progOf w h f=some pr)(a:f.row=pr.length)
  (he:∀(S:az) (Q:Res->az->Prop),Q (.d s'.d) S->Fn jq [w.d,s.d,.int h] S Q):gU w s h s' none:=by
 intro S Q q
 show bP ?_
 unfold kP
 symm
 apply bI i e ?_
 show av (d:=.int f.room) L ?_
 show aK (ed (vL (d:=none) g ?_))
 apply aY (λc=>by cases c) (λ_=>cq ?_)
 apply fL b ?_
 apply av (d:=.int f.row) L ?_
 show fq ?_
 dsimp only[bF,aW,bH,cO,c_,iO]
 rw[lQm,Qeq a,Qhq L]
 symm
 apply he _ _ ?_
 show#[by show 2<=_;decide,?_]
 show b_ (d:=J0 _ h none) (λk z=>(nomatch z)) (xu _ _ _) q
def G9(w:bD)(s:aE)(h:Nat)(r:Rw)(e:Xb):Prop:=match r with
 |.say t=>∃v,e=some v/\x9 w s h t v
 |_=>e=none
def uI{w:bD}{s s':aE}{h:Nat}{vs:List Int}{fs:List bG}{f:bG}{pr:List Rw}{r:Rw}{e:Xb}(m:s.af[h]?=some (vs,fs))(j:fs.getLast? =some f)(B:Here s h f)(A:progOf w h f=some pr)(y:0<=f.row)(b:pr[f.row.toNat]?=some r)(x:fs.length<=900)(C:s.af.length<=900)
  (a:G9 w s h r e) (n:JD w {s with af:=s.af.set h (vs,fs.dropLast++ [{f with row:=f.row+1}])} h r s'):gU w s h s' e:=by
 intro S Q q
 let u:=(gQs.mp b).1
 show bP ?_
 unfold kP
 symm
 apply bI m j ?_
 show av (d:=.int f.room) L ?_
 show aK (ed (vL (d:=none) B ?_))
 apply aY (λc=>by cases c) (λ_=>cq ?_)
 apply fL A ?_
 apply av (d:=.int f.row) L ?_
 show fq ?_
 dsimp only[bF,aW,bH,cO,c_,iO]
 rw[lQm,Qdq (show¬f.row=(pr.length:Int) by omega),Quq (!1)]
 apply cq ?_
 show av (d:=.int f.row) L ?_
 show av (d:=r.d) (k9 y (by rw[gQm,b];rfl)) ?_
 symm
 let#[l,hl]:=r.d_kind
 have g:T (cQ (bc (aw (aB iX (aw (ar 0) (aw (aB jr (aw (ar 1) (aw (ar 2) (aw (bf bW (bf qT (ar 3) (cF (.int 2))) (cF (.int 1))) ax)))) (aw (ar 2) (aw (ar 6) ax))))) (aw (ar 7) ax))))
   [some w.d,some s.d,some (.int h),some f.d,some (.int f.room),some (.tup (pr.map Rw.d)),some r.d,some (Qb h e)] S (λo=>match o with
   |.nx _ i=>Op (settle S .non i) λp=>Q p.1 p.2|.rt d i=>Op (settle S d i) λp=>Q p.1 p.2|.rl l i=>Op (eT S l i) λp=>Q p.1 p.2|_=>False):=by
  symm
  apply av (d:=.int f.row) L ?_
  apply pX m j x C ?_
  apply Ac n ?_
  show#[by show 2<=_;decide,?_]
  show b_ (d:=J0 _ h e) (λk z=>(nomatch z)) (xu _ _ _) q
 cases r with
 | say t=>
   let#[v,rfl,hv]:=a
   apply av (d:=.str "say") L ?_
   show ix ?_
   dsimp only[bF,aW,bH,cO,c_,iO]
   rw[Qeq L,Qhq L]
   symm
   apply av (d:=t.d) L ?_
   apply hv _ _ ?_
   show#[by show 2<=_;decide,?_]
   show g
 | _=>
   have a:e=none:=a
   subst a
   apply av L ?_
   show ix ?_
   dsimp only[bF,aW,bH,cO,c_,iO]
   show aY (λc=>absurd (QZq c) (by decide +kernel)) (λ_=>cq ?_)
   show g
end
end W28
namespace DL
open L2
section
variable{a:cf}{S:az}
def G2{f:aU}{g:dU}{Q:D->az->Prop}(h:E f a S λx c=>∃k b,x=.ref k/\c[k]?=some (.lst b)/\E g a c λp S2=>∃ds,S2[k]?=some (.lst ds)/\(p.2.isL=false/\ds.length+p.1.length<=sizeLine)/\Q .non (S2.set k (.lst (ds++p.1)))):E (vI f g) a S Q:=by
 let#[x,c,d,k,b,rfl,h1,p,S2,e2,ds,h2,h3,q]:=h
 show#[_,_,by unfold vI;rw[d];erw[Qbq,e2,h1,h2];rw[Qhq h3],q]
end
def Ba{S a:az}{k:Nat}{ds:List D}{Q:Res×az->Prop}(c:n_ S a)(d:S.length<=k)(b:a[k]?=some (.lst ds))(hl:bK S.length ds=true)(q:Q (.l ds,a.take S.length)):Op (settle S (.ref k) a) Q:=by
 show#[_,?_,q]
 unfold settle
 rw[Qhq c]
 show(if k<S.length then _ else _)=_
 rw[Quq (!0),b]
 show(if bK S.length ds=true then _ else _)=_
 rw[Qhq hl]
def yg{n:Nat}(h:n<=1000000):n<=sizeLine:=QAq h (!1)
theorem g7:∀a:List Int,ip (a.map D.int)=some (a.map V.int)
 | []=>rfl
 |s::a=>by erw[QDq,ip,xE,Qbq];rw[g7 a];rfl
def yo{x:Int}{b:List Int}:Fc (.int x) (b.map V.int)=decide (x∈b):=by
 induction b with
 |nil=>rfl
 | cons a b d=>
   show(pT (.int a) (.int x)||Fc (.int x) (b.map V.int))=_
   rw[d]
   erw[pT,Qsq]
   by_cases c:a=x
   · subst c;simp
   · have e:¬x=a:=λz=>c z.symm
     simp[c,e]
end DL
namespace W28
open L2 DL
section
variable{S:az}{Q:Res->az->Prop}
def yq{S a:az}(x:lL S a):a.take S.length=S:=by
 apply List.ext_getElem?
 intro j
 by_cases b:j<S.length
 ·rw[List.getElem?_take_of_lt b]
  show x.eq j b
 ·rw[List.getElem?_eq_none (by rw[Qxq];omega),List.getElem?_eq_none (!0)]
def LQ{S a:az}{ds:List D}{Q:Res->az->Prop}(x:lL S a)(hl:bK 0 ds=true)(q:Q (.l ds) S):Op (eT S ds a) λp=>Q p.1 p.2:=
 mO #[x.len,λk o b e=>.inl (by rw[<-x.eq k b];show e)] (yq x) (jd hl) q
def LL{S a:az}{k:Nat}{ds:List D}{Q:Res->az->Prop}(x:lL S a)(b:S.length<=k)(c:a[k]?=some (.lst ds))(hl:bK 0 ds=true)(q:Q (.l ds) S):Op (settle S (.ref k) a) λp=>Q p.1 p.2:=
 Ba #[x.len,λk o b e=>.inl (by rw[<-x.eq k b];show e)] b c (jd hl) (by rw[yq x];show q)
def zp{l:List (Int×Int)}(hl:l.length<=1000)(q:Q (.l ((l.map (·.2)).map D.int)) S):Fn kY [dC l] S Q:=by
 show bP ?_
 unfold p0
 symm
 apply uo (α:=Int×Int) (λc=>∃a b,c= [a,b]) pairD (λp=>.int p.2) #[none,none,L] ?_
 show du (ds:=l.map pairD) ?_
 show#[l,L,trivial,hl,λp f c d=>?_,?_]
 ·let#[a,b,rfl]:=d
  show d_ L (au (aN (au (aN (aZ ?_)))))
  apply#[L,#[_,_,L],?_]
  show#[L,L]
 ·have e:l.map (λp=>D.int p.2)=(l.map (·.2)).map D.int:=by rw[QPq];rfl
  rw[e]
  show FE (bg λ_ _=>rfl) q
noncomputable def aI(r:bO):List Int:=r.row++r.ag++r.aa.flatMap λl=>l.map (·.2)
noncomputable def held(s:aE):List Int:=s.ai.flatMap (·.2)++s.aj.flatMap aI
theorem kI{α c:Type}{f:α->List c}{n:Nat}:∀{l:List α},(∀a∈l,(f a).length<=n)->(l.flatMap f).length<=n*l.length
 | [],_=>by simp
 | a::l,h=>by
   let g:=h a (QBq ..)
   let e:=kI (f:=f) (l:=l) λb d=>h b (Qpq _ d)
   rw[QSq,lQa,Qnq,Nat.mul_add]
   omega
def lH{α b:Type}{f:α->List b}{l:List α}{n:Nat}{a:α}(h:l[n]?=some a):(l.take (n+1)).flatMap f=(l.take n).flatMap f++f a:=by
 rw[QYq,h]
 simp
def jj{s:aE}{n:Nat}(U:n<=800)(b1:s.ai.length<=100)(b2:s.aj.length<=20)(P:∀p∈s.ai,p.2.length<=n)(H:∀r∈s.aj,r.row.length<=n/\r.ag.length<=n/\r.aa.length<=10/\∀l∈r.aa,l.length<=n)
  (q:Q (.l ((held s).map D.int)) S):Fn bZ [s.d] S Q:=by
 have Z:∀o:List D,lL S (S++ [.lst o]):=λo=>lL.refl.app
 have F:∀r∈s.aj,∀j:Nat,((r.aa.take j).flatMap λl=>l.map (·.2)).length<=8000:=λr F j=>by
  let#[_,_,R,M]:=H r F
  let B:=kI (f:=λl:List (Int×Int)=>l.map (·.2)) (n:=n) (l:=r.aa.take j) λl hl=>by rw[lQm];show M l (List.mem_of_mem_take hl)
  have G:(r.aa.take j).length<=10:=by rw[Qxq];omega
  have Y:n*(r.aa.take j).length<=800*10:=Nat.mul_le_mul U G
  omega
 have K:∀r∈s.aj,(aI r).length<=9600:=λr h=>by
  let I:=F r h r.aa.length
  let#[X,R,_]:=H r h
  rw[QEq] at I
  erw[aI,lQa]
  omega
 have w:∀j:Nat,((s.ai.take j).flatMap (·.2)).length<=80000:=λj=>by
  let B:=kI (f:=λp:Int×List Int=>p.2) (n:=n) (l:=s.ai.take j) λl hl=>P l (List.mem_of_mem_take hl)
  have G:(s.ai.take j).length<=100:=by rw[Qxq];omega
  have Y:n*(s.ai.take j).length<=800*100:=Nat.mul_le_mul U G
  omega
 have J:∀j:Nat,((s.aj.take j).flatMap aI).length<=192000:=λj=>by
  let B:=kI (f:=aI) (n:=9600) (l:=s.aj.take j) λl hl=>K l (List.mem_of_mem_take hl)
  have G:(s.aj.take j).length<=20:=by rw[Qxq];omega
  omega
 show bP ?_
 unfold hU
 symm
 show#[by decide,?_]
 apply aK (kN (uA ?_))
 show av L ?_
 show du (ds:=s.ai.map AD) ?_
 show#[λj k u=>(∃a b c d e f g,k= [some s.d,some (.ref S.length),a,b,c,d,e,f,g])/\u=S++ [.lst (((s.ai.take j).flatMap (·.2)).map D.int)],#[#[_,_,_,_,_,_,_,L],L],λ_ _ _ _=>trivial,?_,?_]
 ·rintro j d k u t ⟨⟨a,b,c,C,e,f,g,rfl⟩,rfl⟩
  have t:(s.ai.map AD)[j]?=some d:=t
  rw[gQm] at t
  let#[p,N,rfl]:=oQm.mp t
  show d_ L (au (aN (au (aN (aZ ?_)))))
  apply si (G2 ?_)
  apply#[_,_,L,aX,?_]
  show du (ds:=p.2.map D.int) ?_
  show#[_,aX,#[L,?_],#[_,_,_,_,_,_,_,L],?_]
  ·have:=w j
   have:=P p (mQg N)
   erw[lQm]
   show yg (!0)
  ·rw[lH N,Qzq]
   simp
 rintro k u ⟨⟨a,b,c,C,e,f,g,rfl⟩,rfl⟩
 have hl:(s.ai.map AD).length=s.ai.length:=lQm ..
 rw[hl,QEq]
 apply aK (kN (uA ?_))
 show av L ?_
 show du (ds:=s.aj.map bO.d) ?_
 show#[λj k u=>(∃a b c d e f g,k= [some s.d,some (.ref S.length),a,b,c,d,e,f,g])/\u=S++ [.lst ((s.ai.flatMap (·.2)++(s.aj.take j).flatMap aI).map D.int)],#[#[_,_,_,_,_,_,_,L],by simp],λ_ _ _ _=>trivial,?_,?_]
 ·rintro j d k u t ⟨⟨a,b,c,C,e,f,g,rfl⟩,rfl⟩
  have t:(s.aj.map bO.d)[j]?=some d:=t
  rw[gQm] at t
  let#[r,x,rfl]:=oQm.mp t
  let v:=mQg x
  let#[X,R,M,B]:=H r v
  have y:(s.ai.flatMap (·.2)++(s.aj.take j).flatMap aI).length<=272000:=by
   have:=w s.ai.length
   rw[QEq] at this
   have:=J j
   rw[lQa]
   omega
  generalize z:s.ai.flatMap (·.2)++(s.aj.take j).flatMap aI=o at y|-
  show d_ L (au (aN (au (aN (au (aN (au (aN (au (aN (aZ ?_)))))))))))
  apply aK (si (G2 ?_))
  apply#[_,_,L,aX,?_]
  show dA (i:=r.row.map D.int) (j:=r.ag.map D.int) (by erw[lQm];show yg (!0)) ?_
  show du ?_
  show#[_,aX,#[L,?_],?_]
  ·erw[lQa,lQm]
   show yg (!0)
  dsimp only[bF,aW,bH,cO,c_,iO]
  have e1:(S++ [O.lst (o.map D.int)]).set S.length (.lst (o.map D.int++(r.row.map D.int++r.ag.map D.int)))=S++ [.lst ((o++(r.row++r.ag)).map D.int)]:=by simp
  rw[e1]
  apply kN (uA ?_)
  show#[λj k u=>(∃a b c d e f g,k= [some s.d,some (.ref S.length),a,b,c,d,e,f,g])/\u=S++ [.lst ((o++(r.row++r.ag)++(r.aa.take j).flatMap λl=>l.map (·.2)).map D.int)],#[#[_,_,_,_,_,_,_,L],by simp],λ_ _ _ _=>trivial,?_,?_]
  ·rintro m d k u t ⟨⟨a,b,c,C,e,f,g,rfl⟩,rfl⟩
   have t:(r.aa.map dC)[m]?=some d:=t
   rw[gQm] at t
   let#[l,A,rfl]:=oQm.mp t
   let W:=B l (mQg A)
   show aN ?_
   apply si (OP ?_)
   apply#[_,_,L,aX,?_]
   apply zp (!0) ?_
   show#[_,aX,#[L,?_],#[_,_,_,_,_,_,_,L],?_]
   ·have:=F r v m
    erw[lQa,lQm]
    show yg (!0)
   ·rw[lH A,<-Qvq,Qzq]
    simp
  ·rintro k u ⟨I,rfl⟩
   show#[I,?_]
   have hl:(r.aa.map dC).length=r.aa.length:=lQm ..
   rw[hl,QEq,lH x]
   subst z
   erw[aI,Qvq]
 ·rintro k u ⟨⟨a,b,c,C,e,f,g,rfl⟩,rfl⟩
  have hl:(s.aj.map bO.d).length=s.aj.length:=lQm ..
  rw[hl,QEq]
  symm
  show LL (Z _) (Qmq _) aX (bg λ_ _=>rfl) q
end
end W28
namespace DL
open L2
def p9{b:cf}{S:az}{f g:aU}{Q:D->az->Prop}(h:E f b S λd a=>∃k,d=.bl k/\if k=true then E g b a Q else Q (.bl false) a):E (sQ f g) b S Q:=by
 let#[d,a,c,k,rfl,q]:=h
 cases k with
 |true=>let#[j,e,i,q]:=(q:E g b a Q);show#[j,e,by unfold sQ;rw[c];show i,q]
 |false=>show#[_,a,by unfold sQ;rw[c];rfl,q]
end DL
namespace W28
open L2 DL
section
variable{S:az}{Q:Res->az->Prop}
noncomputable def zL(s:aE)(h:Nat):Option bG:=(s.af[h]?).bind λp=>p.2.getLast?
noncomputable def se(w:bD)(s:aE)(h:Nat):Bool:=match zL s h with
 |some f=>decide (f.room= -1)&&decide (f.row=(((progOf w h f).getD []).length:Int))
 |none=>false
def pG{w:bD}{s:aE}{h:Nat}{vs:List Int}{fs:List bG}{f:bG}{pr:List Rw}(e:s.af[h]?=some (vs,fs))(b:fs.getLast? =some f)(a:progOf w h f=some pr)(q:Q (.d (.bl (se w s h))) S):Fn eU [w.d,s.d,.int h] S Q:=by
 have g:se w s h=(decide (f.room= -1)&&decide (f.row=(pr.length:Int))):=by
  unfold se zL
  rw[e]
  show(match fs.getLast? with|some f=>_|none=>_)=_
  rw[b]
  erw[a,Option.getD_some]
 rw[g] at q
 show bP ?_
 unfold gX
 symm
 apply bI e b ?_
 apply p9 ?_
 apply av (d:=.int f.room) L ?_
 show fq ?_
 show#[_,L,?_]
 by_cases c:f.room= -1
 ·rw[Qeq c] at q|-
  rw[Qhq L]
  symm
  apply av (d:=.int f.row) L ?_
  apply fL a ?_
  show fq ?_
  rw[lQm]
  show b_ (λk z=>(nomatch z)) L q
 ·rw[Qdq c] at q|-
  rw[Quq (!1)]
  show b_ (λk z=>(nomatch z)) L q
noncomputable def jE(w:bD)(s:aE):List Nat:=(List.range s.af.length).filter λh=> !decide ((h:Int)∈held s)&& !se w s h
noncomputable def fS(h:Nat):D:=.int h
def JF(w:bD)(s:aE):Prop:=∀(S:az) (Q:Res->az->Prop),Q (.l ((jE w s).map fS)) S->Fn gR [w.d,s.d] S Q
def Ar{w:bD}{s:aE}(m:∀(S:az) (Q:Res->az->Prop),Q (.l ((held s).map D.int)) S->Fn bZ [s.d] S Q)(k:∀h<s.af.length,∃vs fs f pr,s.af[h]?=some (vs,fs)/\fs.getLast? =some f/\progOf w h f=some pr)(p:s.af.length<=100):JF w s:=by
 intro S Q q
 show bP ?_
 unfold oM
 symm
 apply m _ _ ?_
 apply fN (α:=Nat) (λb=>∃a,b= [a,some w.d,some s.d,some (.ref S.length)]) (λ(i:Nat)=>D.int (0+(i:Int))) fS (λh=> !decide ((h:Int)∈held s)&& !se w s h) #[none,L] ?_
 apply av L ?_
 show#[_,L,?_,?_]
 ·erw[lQm]
  omega
 show#[List.range s.af.length,?_,trivial,by simp;omega,λh o b e=>?_,?_]
 ·erw[iY,lQm]
  rfl
 ·let#[a,rfl]:=e
  let#[vs,fs,f,pr,j,g,n]:=k h (List.mem_range.mp o)
  show aN #[L,#[_,L],?_]
  rw[Int.zero_add]
  apply wc (cu (I_ ?_))
  show dj (ds:=(held s).map D.int) aX ?_
  show#[_,_,L,g7 _,?_]
  rw[yo]
  by_cases c:(h:Int)∈held s
  ·rw[Qeq c]
   show aY (λc=>by cases c) (λ_=>?_)
   show#[L,L,λc=>by cases c]
  ·rw[Qdq c]
   apply aY (λ_=>?_) (λc=>by cases c)
   show pG j g n ?_
   dsimp only[bF,aW,bH,cO,c_,iO]
   show pR ?_
   apply#[L,L,λ_=>?_]
   show#[L,L]
 ·show LQ (lL.refl.app) (bg λ_ _=>rfl) q
end
structure i_(n:Nat)(r:Rm)(rs:bO):Prop where
 lv:r.ao.length=rs.vals.length
 lb:r.aa.length=rs.aa.length
 vv:∀v∈rs.vals,0<=v/\v<=9
 br:rs.row.length<=n
 bl:rs.ag.length<=n
 bb:∀l∈rs.aa,l.length<=n
structure Hg(w:bD)(h:Nat)(f:bG):Prop where
 pr:∃pr,progOf w h f=some pr/\0<=f.row/\f.row<=pr.length
 gv:0<=f.given/\f.given<=9
 tv:0<=f.told/\f.told<=9
def Qy(w:bD)(h:Nat)(f:bG):Prop:=∃a g rn b t,progOf w h f=some a/\1<=f.row/\a[(f.row-1).toNat]?=some (.do_ g rn b t)
def iu:List bG->Prop
 | []=>False
 |f0::tl=>f0.room= -1/\∀f∈tl,f.room≠-1
structure jg(w:bD)(n h:Nat)(ts:List (Str×Nat))(vs:List Int)(fs:List bG):Prop where
 lv:ts.length=vs.length
 vv:∀v∈vs,0<=v/\v<=9
 lf:fs.length<=n
 fr:∀f∈fs,Hg w h f
 hd:iu fs
 ch:∀f∈fs.dropLast,Qy w h f
structure bT(w:bD)(n:Nat)(s:aE):Prop where
 lr:w.aj.length=s.aj.length
 rm:∀(i:Nat) (r:Rm) (rs:bO),w.aj[i]?=some r->s.aj[i]?=some rs->i_ n r rs
 lp:w.ai.length=s.ai.length
 ps:∀p∈s.ai,p.2.length<=n
 ls:w.ak.length=s.ak.length
 sv:∀v∈s.ak,0<=v/\v<=9
 lh:w.af.length=s.af.length
 hd:∀(h:Nat) (ts:List (Str×Nat)) (pr:List Rw) (vs:List Int) (fs:List bG),w.af[h]?=some (ts,pr)->s.af[h]?=some (vs,fs)->jg w n h ts vs fs
def i_.mono{n m:Nat}{r:Rm}{rs:bO}(h:i_ n r rs)(l:n<=m):i_ m r rs:=#[h.lv,h.lb,h.vv,QAq h.br l,QAq h.bl l,λx a=>QAq (h.bb x a) l]
def jg.mono{w:bD}{n m h:Nat}{ts:List (Str×Nat)}{vs:List Int}{fs:List bG}(x:jg w n h ts vs fs)(l:n<=m):jg w m h ts vs fs:=#[x.lv,x.vv,QAq x.lf l,x.fr,x.hd,x.ch]
def bT.mono{w:bD}{n m:Nat}{s:aE}(x:bT w n s)(l:n<=m):bT w m s:=#[x.lr,λi r c b a=>(x.rm i r c b a).mono l,x.lp,λp d=>QAq (x.ps p d) l,x.ls,x.sv,x.lh,λh f j e g b a=>(x.hd h f j e g b a).mono l]
def get_set{α:Type}{l:List α}{i j:Nat}{a b:α}(h:(l.set i a)[j]?=some b):(j=i/\b=a)\/(j≠i/\l[j]?=some b):=by
 rw[List.getElem?_set] at h
 split at h
 ·rename_i c
  split at h
  ·cases h;show .inl #[c.symm,L]
  ·cases h
 ·rename_i c
  show .inr #[λz=>c z.symm,h]
def bT.room{w:bD}{n i:Nat}{s:aE}{r:Rm}{nr:bO}(x:bT w n s)(e:w.aj[i]?=some r)(f:i_ n r nr):bT w n {s with aj:=s.aj.set i nr} where
 lr:=by simpa using x.lr
 rm:=λj d c b a=>by
  rcases get_set a with⟨rfl,rfl⟩|⟨_,a⟩
  ·rw[e] at b;cases b;show f
  ·show x.rm j d c b a
 lp:=x.lp
 ps:=x.ps
 ls:=x.ls
 sv:=x.sv
 lh:=x.lh
 hd:=x.hd
def bT.pass{w:bD}{n i:Nat}{s:aE}{p:Int×List Int}(x:bT w n s)(b:p.2.length<=n):bT w n {s with ai:=s.ai.set i p} where
 lr:=x.lr
 rm:=x.rm
 lp:=by simpa using x.lp
 ps:=λq a=>by
  rcases QTq a with a|rfl
  ·show x.ps q a
  ·show b
 ls:=x.ls
 sv:=x.sv
 lh:=x.lh
 hd:=x.hd
def bT.share{w:bD}{n:Nat}{s:aE}{vs:List Int}(x:bT w n s)(hl:vs.length=s.ak.length)(a:∀v∈vs,0<=v/\v<=9):bT w n {s with ak:=vs}:=#[x.lr,x.rm,x.lp,x.ps,by rw[x.ls,<-hl],a,x.lh,x.hd]
def bT.hand{w:bD}{n h:Nat}{s:aE}{ts:List (Str×Nat)}{pr:List Rw}{vs:List Int}{fs:List bG}(x:bT w n s)(i:w.af[h]?=some (ts,pr))(k:jg w n h ts vs fs):bT w n {s with af:=s.af.set h (vs,fs)} where
 lr:=x.lr
 rm:=x.rm
 lp:=x.lp
 ps:=x.ps
 ls:=x.ls
 sv:=x.sv
 lh:=by simpa using x.lh
 hd:=λj g a c d f b=>by
  rcases get_set b with⟨rfl,e⟩|⟨_,b⟩
  ·rw[i] at f;cases f;cases e;show k
  ·show x.hd j g a c d f b
def fA{α:Type}{l:List α}{a:α}(h:l.getLast? =some a):l=l.dropLast++ [a]:=by
 cases l with
 |nil=>cases h
 | cons x y=>
   have b:x::y≠[]:=by simp
   rw[List.getLast?_eq_some_getLast b] at h
   cases h
   show(List.dropLast_concat_getLast b).symm
def iu.last{fs:List bG}{f f':bG}:∀{b:List bG},iu (b++ [f])->f'.room=f.room->iu (b++ [f'])
 | [],h,e=>#[by rw[e];show h.1,λ_ z=>by cases z]
 | a::l,h,e=>⟨h.1,λx c=>by
   rcases mQa.mp c with c|c
   · show h.2 x (mQa.mpr (.inl c))
   · rw[Qfq.mp c,e];show h.2 f (mQa.mpr (.inr (Qfq.mpr L)))⟩
def iu.push{f':bG}:∀{fs:List bG},iu fs->f'.room≠-1->iu (fs++ [f'])
 | [],h,_=>h.elim
 | a::l,h,e=>⟨h.1,λx b=>by
   rcases mQa.mp b with b|b
   · show h.2 x b
   · rw[Qfq.mp b];show e⟩
def iu.pop{c f:bG}:∀{d:List bG},iu (d++ [c,f])->iu (d++ [c])
 | [],h=>#[h.1,λ_ z=>by cases z]
 | a::l,h=>⟨h.1,λx b=>h.2 x (by
   rcases mQa.mp b with b|b
   · show mQa.mpr (.inl b)
   · show mQa.mpr (.inr (by rw[Qfq.mp b];simp)))⟩
def iu.two{f:bG}:∀{b:List bG},iu (b++ [f])->f.room≠-1->∃d c,b=d++ [c]
 | [],h,e=>absurd h.1 e
 |a::l,h,e=>#[(a::l).dropLast,(a::l).getLast (by simp),(List.dropLast_concat_getLast (by simp)).symm]
section
variable{w:bD}{n h:Nat}{ts:List (Str×Nat)}{vs:List Int}{fs:List bG}{f f' b:bG}
def jg.setLast(x:jg w n h ts vs fs)(j:fs.getLast? =some f)(e:f'.room=f.room)(i:Hg w h f'):jg w n h ts vs (fs.dropLast++ [f']):=by
 let d:=fA j
 let c:=x.hd
 rw[d] at c
 show#[x.lv,x.vv,?_,λg a=>?_,iu.last (fs:=fs) c e,λg a=>?_]
 ·have:=congrArg List.length d
  have:=x.lf
  erw[lQa,Qnq,QGq] at *
  omega
 ·rcases mQa.mp a with a|a
  ·show x.fr g (List.dropLast_subset _ a)
  ·rw[Qfq.mp a];show i
 ·rw[List.dropLast_concat] at a
  show x.ch g a
def jg.push(x:jg w n h ts vs fs)(c:fs.getLast? =some f)(d:Qy w h f)(e:f'.room≠-1)(i:Hg w h f'):jg w (n+1) h ts vs (fs++ [f']):=by
 show#[x.lv,x.vv,?_,λg a=>?_,x.hd.push e,λg a=>?_]
 ·have:=x.lf
  erw[lQa,Qnq,QGq]
  omega
 ·rcases mQa.mp a with a|a
  ·show x.fr g a
  ·rw[Qfq.mp a];show i
 ·rw[List.dropLast_concat,fA c] at a
  rcases mQa.mp a with a|a
  ·show x.ch g a
  ·rw[Qfq.mp a];show d
def jg.pop{c:List bG}(x:jg w n h ts vs (c++ [b,f])):jg w n h ts vs (c++ [b])/\Qy w h b:=by
 have e:(c++ [b,f]).dropLast=c++ [b]:=by rw[show c++ [b,f]=(c++ [b])++ [f] by simp,List.dropLast_concat]
 let d:=x.ch
 rw[e] at d
 show#[#[x.lv,x.vv,?_,λg a=>x.fr g ?_,x.hd.pop,λg a=>d g ?_],d b (by simp)]
 ·have:=x.lf
  erw[lQa,Qnq,QGq] at *
  omega
 ·rcases mQa.mp a with a|a
  ·show mQa.mpr (.inl a)
  ·show mQa.mpr (.inr (by rw[Qfq.mp a];simp))
 ·rw[List.dropLast_concat] at a
  show mQa.mpr (.inl a)
def jg.vals{a:List Int}(x:jg w n h ts vs fs)(hl:a.length=vs.length)(c:∀v∈a,0<=v/\v<=9):jg w n h ts a fs:=#[by rw[x.lv,hl],c,x.lf,x.fr,x.hd,x.ch]
def jg.last(x:jg w n h ts vs fs):∃f,fs.getLast? =some f/\Hg w h f:=by
 have:=x.hd
 cases fs with
 |nil=>show this.elim
 | cons a l=>
   show#[_,List.getLast?_eq_some_getLast (by simp),x.fr _ (List.getLast_mem (by simp))]
end
def jI{w:bD}{h:Nat}{f:bG}{pr:List Rw}(a:progOf w h f=some pr):(f.room= -1/\∃ts,w.af[h]?=some (ts,pr))\/∃(i j:Nat) (r:Rm) (b:Str),f.room=i/\f.deed=j/\w.aj[i]?=some r/\r.ae[j]?=some (b,pr):=by
 unfold progOf at a
 split at a
 ·rename_i c
  let#[#[ts,g],e,d]:=oQm.mp a
  cases d
  show .inl #[c,ts,e]
 ·split at a
  ·rename_i c
   let#[r,e,d]:=aq a
   let#[#[b,g],l,k]:=oQm.mp d
   cases k
   show .inr #[f.room.toNat,f.deed.toNat,r,b,by omega,by omega,e,l]
  ·cases a
def vZ{w:bD}{h i j:Nat}{f:bG}{r:Rm}{a:Str}{pr:List Rw}(d:f.room=i)(b:f.deed=j)(e:w.aj[i]?=some r)(c:r.ae[j]?=some (a,pr)):progOf w h f=some pr:=by
 unfold progOf
 rw[Quq (!0),Qhq #[by omega,by omega],d,b]
 show(w.aj[i]?).bind _=_
 rw[e]
 show(r.ae[j]?).map _=_
 rw[c]
 rfl
noncomputable def BK(w:bD)(h:Nat)(f:bG):Option Sc:=if f.room= -1 then(w.af[h]?).map λp=>#[true,p.1.map (·.1)++w.ak.map (·.1),p.1.map (·.1)++w.ak.map (·.1),[],dJ w.aj,w.ai.map (·.1)]
 else(w.aj[f.room.toNat]?).map λr=>#[false,r.ao.map (·.1)++p_,r.ao.map (·.1),r.aa.map (·.1),dJ w.aj,[]]
def vS{w:bD}{h:Nat}{f:bG}{pr:List Rw}(o:bX w)(e:progOf w h f=some pr):∃b,BK w h f=some b/\Lf b pr:=by
 unfold BK
 rcases jI e with⟨c,l,a⟩|⟨i,j,r,k,a,m,d,g⟩
 ·rw[Qhq c,a]
  show#[_,L,(o.hd _ (mQg a)).pr]
 ·rw[Quq (!0),a]
  show#[_,by rw[show((i:Int)).toNat=i by omega,d];rfl,((o.rm _ (mQg d)).pr _ (mQg g)).1]
def Ep{w:bD}(o:bX w):bT w 1 (bz w) where
 lr:=by simp[bz]
 rm:=λi r m c d=>by
  erw[bz,gQm,c,Option.map_some,Option.some.injEq] at d
  subst d
  let g:=o.rm r (mQg c)
  show#[by simp[cv,dF],by simp[cv],λv b=>?_,by simp[cv],by simp[cv],λl hl=>?_]
  ·erw[cv,dF,Qkq] at b
   let#[p,a,rfl]:=b
   have:=g.tv p a
   omega
  ·erw[cv,Qkq] at hl
   let#[p,a,rfl]:=hl
   simp
 lp:=by simp[bz]
 ps:=λp a=>by
  erw[bz,Qkq] at a
  let#[p,a,rfl]:=a
  simp
 ls:=by simp[bz,dF]
 sv:=λv b=>by
  erw[bz,dF,Qkq] at b
  let#[p,a,rfl]:=b
  have:=o.sv p a
  omega
 lh:=by simp[bz]
 hd:=λh q j k n c d=>by
  erw[bz,gQm,c,Option.map_some,Option.some.injEq] at d
  cases d
  let g:=o.hd _ (mQg c)
  show#[by simp[dF],λv b=>?_,by simp,λf e=>?_,#[L,λ_ z=>by cases z],λf e=>by cases e]
  ·erw[dF,Qkq] at b
   let#[p,a,rfl]:=b
   have:=g.tv p a
   omega
  ·rw[Qfq.mp e]
   show#[#[j,?_,by decide,?_],by decide,by decide]
   ·unfold progOf
    rw[Qhq (show D1.room= -1 from L),c]
    rfl
   ·show(0:Int)<=_
    omega
noncomputable def E8(s:aE)(h:Nat):List Int×List bG:=(s.af[h]?).getD ([],[])
noncomputable def FX(w:bD)(h:Nat):List (Str×Nat)×List Rw:=(w.af[h]?).getD ([],[])
noncomputable def hX(s:aE)(h:Nat):bG:=((E8 s h).2.getLast?).getD D1
noncomputable def qY(w:bD)(i:Nat):Rm:=(w.aj[i]?).getD #["","",[],[],[]]
noncomputable def CY(s:aE)(i:Nat):bO:=(s.aj[i]?).getD #[[],0,[],[],[]]
noncomputable def KS(s:aE)(k:Nat):Int×List Int:=(s.ai[k]?).getD (0,[])
noncomputable def EV(s:aE)(h:Nat)(f:bG):aE:={s with af:=s.af.set h ((E8 s h).1,(E8 s h).2.dropLast++ [f])}
noncomputable def qJ(s:aE)(i:Nat)(r:bO):aE:={s with aj:=s.aj.set i r}
noncomputable def yt(s:aE)(k:Nat)(p:Int×List Int):aE:={s with ai:=s.ai.set k p}
noncomputable def dQ(w:bD)(s:aE)(h:Nat)(t:Tr):Int:=
 if (hX s h).room= -1 then sh (numAt (zO w s (FX w h).1 (E8 s h).1)) (λ_=>0) t
 else sh (numAt (qm (qY w (hX s h).room.toNat) (CY s (hX s h).room.toNat) (hX s h).given)) (rZ (qY w (hX s h).room.toNat) (CY s (hX s h).room.toNat)) t
noncomputable def qL(w:bD)(s:aE)(h:Nat)(x:Str)(v:Int):aE:=
 if (hX s h).room= -1 then kq w s h (FX w h).1 (E8 s h).1 (E8 s h).2 x v
 else qJ s (hX s h).room.toNat {CY s (hX s h).room.toNat with vals:=cV ((qY w (hX s h).room.toNat).ao.map (·.1)) (CY s (hX s h).room.toNat).vals x v}
noncomputable def GR(r:Rm)(rs:bO)(b:Str)(v:Int)(h:Nat):bO:=
 bq {rs with aa:=rs.aa.set (cp (r.aa.map (·.1)) b) (gk ((rs.aa[cp (r.aa.map (·.1)) b]?).getD []) (if ((r.aa[cp (r.aa.map (·.1)) b]?).getD ("","")).2="turns" then v else 0) h)}
noncomputable def jw(w:bD)(s:aE)(h:Nat):Rw->aE
 |.put x t=>qL w s h x (dQ w s h t)
 |.unl t n=>if dQ w s h t=0 then EV s h {hX s h with row:=n} else s
 |.go n=>EV s h {hX s h with row:=n}
 |.do_ _ rn a t=>qJ {s with af:=s.af.set h ((E8 s h).1,(E8 s h).2++ [#[(cp (w.aj.map (·.name)) rn:Nat),(cp ((qY w (cp (w.aj.map (·.name)) rn)).ae.map (·.1)) a:Nat),0,dQ w s h t,0]])} (cp (w.aj.map (·.name)) rn) (eO (CY s (cp (w.aj.map (·.name)) rn)) h)
 |.wait b t=>qJ s (hX s h).room.toNat (GR (qY w (hX s h).room.toNat) (CY s (hX s h).room.toNat) b (dQ w s h t) h)
 |.call b=>qJ s (hX s h).room.toNat (nB (decide ((qY w (hX s h).room.toNat).ah="when free")) (CY s (hX s h).room.toNat) (cp ((qY w (hX s h).room.toNat).aa.map (·.1)) b) h)
 |.all b=>qJ s (hX s h).room.toNat {CY s (hX s h).room.toNat with aa:=(CY s (hX s h).room.toNat).aa.set (cp ((qY w (hX s h).room.toNat).aa.map (·.1)) b) []}
 |.tell t=>EV s h {hX s h with told:=dQ w s h t}
 |.take p=>yt s (cp (w.ai.map (·.1)) p) (dY (KS s (cp (w.ai.map (·.1)) p)) h)
 |.give p=>yt s (cp (w.ai.map (·.1)) p) (cZ (KS s (cp (w.ai.map (·.1)) p)))
 |.pass p q=>yt (yt s (cp (w.ai.map (·.1)) p) (cZ (KS s (cp (w.ai.map (·.1)) p)))) (cp (w.ai.map (·.1)) q) (dY (KS (yt s (cp (w.ai.map (·.1)) p) (cZ (KS s (cp (w.ai.map (·.1)) p)))) (cp (w.ai.map (·.1)) q)) h)
 |.say _=>s
noncomputable def yI(s:aE)(h:Nat):aE:=qJ {s with af:=s.af.set h ((E8 s h).1,(E8 s h).2.dropLast)} (hX s h).room.toNat (bq (CY s (hX s h).room.toNat))
noncomputable def BU(w:bD)(s:aE)(h:Nat):Option Rw:=(progOf w h (hX s h)).bind λa=>a[((hX s h).row-1).toNat]?
noncomputable def xq(w:bD)(s:aE)(h:Nat):aE:=match BU w (yI s h) h with
 |some (.do_ (some x) _ _ _)=>qL w (yI s h) h x (hX s h).told
 |_=>yI s h
noncomputable def F8(s:aE)(h:Nat):aE:=EV s h {hX s h with row:=(hX s h).row+1}
noncomputable def EW(w:bD)(s:aE)(h:Nat):Rw->Option Int
 |.say t=>some (dQ w s h t)
 |_=>none
noncomputable def eY(w:bD)(s:aE)(h:Nat):aE×Option Int:=
 if (hX s h).room≠-1/\(CY s (hX s h).room.toNat).within≠h then(qJ s (hX s h).room.toNat (eO (CY s (hX s h).room.toNat) h),none)
 else match progOf w h (hX s h) with
  |none=>(s,none)
  | some a=>if (hX s h).row=a.length then(xq w s h,none) else match a[(hX s h).row.toNat]? with
    |none=>(s,none)
    |some r=>(jw w (F8 s h) h r,EW w s h r)
section
variable{w:bD}{h:Nat}{s:aE}{vs:List Int}{fs:List bG}{f:bG}
def o6(a:s.af[h]?=some (vs,fs)):E8 s h=(vs,fs):=by unfold E8;rw[a];rfl
def mY(a:s.af[h]?=some (vs,fs))(b:fs.getLast? =some f):hX s h=f:=by unfold hX;rw[o6 a];show(fs.getLast?).getD _=f;rw[b];rfl
def HP{p:List (Str×Nat)×List Rw}(a:w.af[h]?=some p):FX w h=p:=by unfold FX;rw[a];rfl
def pH{i:Nat}{r:Rm}(a:w.aj[i]?=some r):qY w i=r:=by unfold qY;rw[a];rfl
def iJ{i:Nat}{r:bO}(a:s.aj[i]?=some r):CY s i=r:=by unfold CY;rw[a];rfl
def xm{i:Nat}{p:Int×List Int}(a:s.ai[i]?=some p):KS s i=p:=by unfold KS;rw[a];rfl
def nh{g:bG}(a:s.af[h]?=some (vs,fs)):EV s h g={s with af:=s.af.set h (vs,fs.dropLast++ [g])}:=by unfold EV;rw[o6 a]
end
section
variable{w:bD}{n h:Nat}{s:aE}{vs:List Int}{fs:List bG}{f:bG}{d:Sc}
def bT.whand(x:bT w n s)(a:s.af[h]?=some (vs,fs)):∃ts pr,w.af[h]?=some (ts,pr)/\jg w n h ts vs fs:=by
 have hl:h<w.af.length:=by rw[x.lh];show(gQs.mp a).1
 show#[_,_,gQe hl,x.hd h _ _ vs fs (gQe hl) a]
def bT.wroom{i:Nat}{r:Rm}(x:bT w n s)(a:w.aj[i]?=some r):∃rs,s.aj[i]?=some rs/\i_ n r rs:=by
 have hl:i<s.aj.length:=by rw[<-x.lr];show(gQs.mp a).1
 show#[_,gQe hl,x.rm i r _ a (gQe hl)]
def e_{t:Sc}(a:BK w h f=some t):(f.room= -1/\∃ts pr,w.af[h]?=some (ts,pr)/\t=#[true,ts.map (·.1)++w.ak.map (·.1),ts.map (·.1)++w.ak.map (·.1),[],dJ w.aj,w.ai.map (·.1)])∨
  (f.room≠-1/\∃r,w.aj[f.room.toNat]?=some r/\t=#[false,r.ao.map (·.1)++p_,r.ao.map (·.1),r.aa.map (·.1),dJ w.aj,[]]):=by
 unfold BK at a
 split at a
 ·rename_i c
  let#[#[ts,pr],e,b]:=oQm.mp a
  show .inl #[c,ts,pr,e,b.symm]
 ·rename_i c
  let#[r,e,b]:=oQm.mp a
  show .inr #[c,r,e,b.symm]
def gP(x:Hg w h f)(c:f.room≠-1):f.room=(f.room.toNat:Int):=by
 let#[g,a,_]:=x.pr
 rcases jI a with⟨b,_⟩|⟨i,_,_,_,e,_⟩
 ·show absurd b c
 ·omega
def eC{t:Tr}(o:bX w)(x:bT w n s)(e:s.af[h]?=some (vs,fs))(k:fs.getLast? =some f)(B:BK w h f=some d)(ht:Fe d t):(0<=dQ w s h t/\dQ w s h t<=9)/\x9 w s h t (dQ w s h t):=by
 let#[A,N,p,l]:=x.whand e
 let G:=o.hd _ (mQg p)
 let u:=l.fr f (QcQ k)
 let M:=o.l3
 let H:=G.l1
 let C:=x.ls
 rcases e_ B with⟨c,F,I,g,rfl⟩|⟨c,r,hr,rfl⟩
 ·rw[p] at g
  cases g
  have b:kr (zO w s A vs):=kr.merge (gL x.sv) (gL l.vv)
  have v:dQ w s h t=sh (numAt (zO w s A vs)) (λ_=>0) t:=by unfold dQ;rw[mY e k,Qhq c,HP p,o6 e]
  rw[v]
  show#[?_,λS Q q=>xB p e k c C l.lv (!0) (by dsimp only at H;omega) x.sv l.vv ht.1 (by have:=ht.2;omega) q]
  show k8 (ws:=A.map (·.1)++w.ak.map (·.1)) (bs:= []) (λy a=>?_) ht.1
  show(oq b (fZ ?_)).2
  rcases mQa.mp a with a|a
  ·show .inr (gQ l.lv a)
  ·show .inl (gQ C a)
 ·let#[z,j,m]:=x.wroom hr
  let i:=o.rm r (mQg hr)
  let J:=i.l1
  let K:=i.l2
  have b:kr (qm r z f.given):=(gL m.vv).put u.gv.1 u.gv.2
  have v:dQ w s h t=sh (numAt (qm r z f.given)) (rZ r z) t:=by unfold dQ;rw[mY e k,Quq c,pH hr,iJ j]
  rw[v]
  show#[?_,λS Q q=>uS e k (gP u c) hr j m.lv m.lb (!0) (!0) m.vv u.gv ht.1 (by have:=ht.2;omega) q]
  show k8 (ws:=r.ao.map (·.1)++p_) (bs:=r.aa.map (·.1)) (λy a=>?_) ht.1
  show(oq b (lB ?_)).2
  rcases mQa.mp a with a|a
  ·show .inr (gQ m.lv a)
  ·left
   rw[Qfq.mp a]
def fF{ns:X6}{y:Str}{v:Int}{a:List Int}(e:∀v∈a,0<=v/\v<=9)(c:0<=v/\v<=9):(cV ns a y v).length=a.length/\∀u∈cV ns a y v,0<=u/\u<=9:=by
 unfold cV
 show#[by simp,λz b=>?_]
 rcases QTq b with b|rfl
 ·show e z b
 ·show c
def B2{y:Str}{v:Int}(o:bX w)(x:bT w n s)(b:s.af[h]?=some (vs,fs))(k:fs.getLast? =some f)(z:BK w h f=some d)(B:y∈d.ps)(u:0<=v/\v<=9):Puts w s h y v (qL w s h y v)/\bT w n (qL w s h y v):=by
 let#[C,P,j,m]:=x.whand b
 let G:=o.hd _ (mQg j)
 let J:=m.fr f (QcQ k)
 let K:=o.l1
 let N:=o.l3
 let H:=G.l1
 let R:=o.l4
 let W:=x.lr
 let U:=x.lh
 rcases e_ z with⟨c,F,I,g,rfl⟩|⟨c,r,hr,rfl⟩
 ·rw[j] at g
  cases g
  have p:qL w s h y v=kq w s h C vs fs y v:=by unfold qL;rw[mY b k,Qhq c,HP j,o6 b]
  rw[p]
  show#[λS Q q=>Cz j b k c x.ls m.lv (!0) (by dsimp only at H;omega) (!0) B q,?_]
  unfold kq
  split
  ·let#[e,l]:=fF (ns:=w.ak.map (·.1)) (y:=y) x.sv u
   show x.share e l
  ·let#[e,l]:=fF (ns:=C.map (·.1)) (y:=y) m.vv u
   show x.hand j (m.vals e l)
 ·let#[A,i,a]:=x.wroom hr
  let t:=o.rm r (mQg hr)
  let M:=t.l1
  have p:qL w s h y v={s with aj:=s.aj.set f.room.toNat {A with vals:=cV (r.ao.map (·.1)) A.vals y v}}:=by unfold qL;rw[mY b k,Quq c,pH hr,iJ i];rfl
  rw[p]
  show#[λS Q q=>yT b k (gP J c) hr i a.lv (!0) (!0) B q,?_]
  let#[e,l]:=fF (ns:=r.ao.map (·.1)) (y:=y) a.vv u
  show x.room hr #[by rw[a.lv,<-e],a.lb,l,a.br,a.bl,a.bb]
def bT.goes{m:Int}{pr:List Rw}(x:bT w n s)(l:s.af[h]?=some (vs,fs))(a:fs.getLast? =some f)(e:progOf w h f=some pr)(j:0<=m)(i:m<=pr.length):bT w n {s with af:=s.af.set h (vs,fs.dropLast++ [{f with row:=m}])}:=by
 let#[o,k,g,c]:=x.whand l
 let b:=c.fr f (QcQ a)
 show x.hand g (c.setLast a L #[#[pr,e,j,i],b.gv,b.tv])
def bT.tells{v:Int}(x:bT w n s)(j:s.af[h]?=some (vs,fs))(a:fs.getLast? =some f)(g:0<=v/\v<=9):bT w n {s with af:=s.af.set h (vs,fs.dropLast++ [{f with told:=v}])}:=by
 let#[k,i,e,b]:=x.whand j
 let c:=b.fr f (QcQ a)
 show x.hand e (b.setLast a L #[c.pr,c.gv,g])
def i_.come{r:Rm}{rs:bO}{k:Int}(x:i_ n r rs):i_ (n+1) r (eO rs k):=by
 unfold eO
 have:=x.br
 split
 ·show#[x.lv,x.lb,x.vv,by show rs.row.length<=_;omega,Nat.le_succ_of_le x.bl,λl hl=>Nat.le_succ_of_le (x.bb l hl)]
 ·show#[x.lv,x.lb,x.vv,by simp;omega,Nat.le_succ_of_le x.bl,λl hl=>Nat.le_succ_of_le (x.bb l hl)]
def i_.leave{r:Rm}{rs:bO}(x:i_ n r rs):i_ n r (bq rs):=by
 let#[g,b,c,j,k]:=rs
 let i:=x.br
 let e:=x.bl
 unfold bq
 dsimp only at i e|-
 cases j with
 |cons a l=>show#[x.lv,x.lb,x.vv,x.br,by simp at e;show l.length<=n;omega,x.bb]
 | nil=>
   cases c with
   |cons a l=>show#[x.lv,x.lb,x.vv,by simp at i;show l.length<=n;omega,x.bl,x.bb]
   |nil=>show#[x.lv,x.lb,x.vv,x.br,x.bl,x.bb]
def i_.line{r:Rm}{rs:bO}{b:Nat}{l:List (Int×Int)}(x:i_ n r rs)(hl:l.length<=n):i_ n r {rs with aa:=rs.aa.set b l}:=⟨x.lv,by simp;show x.lb,x.vv,x.br,x.bl,λk a=>by
 rcases QTq a with a|rfl
 ·show x.bb k a
 ·show hl⟩
def i_.call{r:Rm}{rs:bO}{b:Nat}{k:Int}{fr:Bool}(x:i_ n r rs):i_ (n+1) r (nB fr rs b k):=by
 unfold nB
 split
 ·rename_i p l e
  let hl:=x.bb _ (mQg e)
  let y:=(x.mono (Nat.le_succ n)).line (b:=b) (l:=l) (by simp at hl;omega)
  let z:=x.bl
  split
  ·show y
  ·show#[y.lv,y.lb,y.vv,y.br,by simp;omega,y.bb]
 ·show x.mono (Nat.le_succ n)
def Af{l:List (Int×Int)}{a b:Int}:(gk l a b).length=l.length+1:=by
 unfold gk
 have:=List.length_filter_le (λp:Int×Int=>decide (p.1<=a)) l
 erw[lQa,Qxq,List.length_drop,Qnq,QGq]
 omega
def CV{rn b:Str}(o:bX w)(g:(rn,b)∈dJ w.aj):rn∈w.aj.map (·.name)/\∃r,w.aj[cp (w.aj.map (·.name)) rn]?=some r/\b∈r.ae.map (·.1):=by
 unfold dJ at g
 let#[r,c,k]:=QOq.mp g
 let#[p,l,e]:=Qkq.mp k
 cases e
 have a:r.name∈w.aj.map (·.name):=Qkq.mpr #[r,c,L]
 show#[a,r,?_,Qkq.mpr #[p,l,L]]
 let#[t,m]:=gr a
 let#[i,j,e]:=QbQ c
 have q:(w.aj.map (·.name))[i]?=some r.name:=by rw[gQm,gQe j,e];rfl
 rw[i3 o.nd m q,gQe j,e]
def Cs{r:Rw}{pr:List Rw}(o:bX w)(x:bT w n s)(hn:n<=800)(B:s.af[h]?=some (vs,fs))(H:fs.getLast? =some f)(hp:progOf w h f=some pr)(h1:1<=f.row)(a0:pr[(f.row-1).toNat]?=some r):JD w s h r (jw w s h r)/\bT w (n+1) (jw w s h r):=by
 let e1:=o6 B
 let e2:=mY B H
 let#[d,F,c0]:=vS o hp
 let b:=c0 r (mQg a0)
 let#[ts,a2,hw,hi]:=x.whand B
 let fi:=hi.fr f (QcQ H)
 let b1:=o.l1
 let b2:=o.l2
 let b3:=o.l3
 let b4:=o.l4
 let lr:=x.lr
 let lp:=x.lp
 let lh:=x.lh
 let lf:=hi.lf
 let W:=x.mono (Nat.le_succ n)
 have G:d.own=false->∃(i:Nat) (r:Rm) (J:bO),f.room=i/\w.aj[i]?=some r/\s.aj[i]?=some J/\i_ n r J/\Lb (dJ w.aj) r/\d.bs=r.aa.map (·.1):=λho=>by
  rcases e_ F with⟨c,a4,a2,a6,rfl⟩|⟨c,r,I,rfl⟩
  ·cases ho
  ·let#[J,k,N]:=x.wroom I
   show#[_,r,J,gP fi c,I,k,N,o.rm r (mQg I),L]
 have M:d.own=true->d.ts=w.ai.map (·.1):=λho=>by
  rcases e_ F with⟨c,a4,a2,a6,rfl⟩|⟨c,r,I,rfl⟩
  ·rfl
  ·cases ho
 have u:∀y,y∈w.ai.map (·.1)->∀ps:List (Int×List Int),w.ai.length=ps.length->∃p,ps[cp (w.ai.map (·.1)) y]?=some p:=λy A ps hl=>by
  have:=(gr A).1
  rw[lQm] at this
  show#[_,gQe (!0)]
 have X:∀p:Int×List Int,p.2.length<=n->(dY p h).2.length<=n+1:=λp hp=>by
  unfold dY
  split
  ·show p.2.length<=_;omega
  ·simp;omega
 have R:∀p:Int×List Int,p.2.length<=n->(cZ p).2.length<=n:=λp hp=>by
  let#[v,l]:=p
  unfold cZ
  cases l with
  |nil=>simp
  |cons a l=>simp at hp;show l.length<=n;omega
 cases r with
 | put y t=>
   let#[Z,I]:=eC o x B H F b.2
   let#[j,b9]:=B2 o x B H F b.1 Z
   show#[λS Q q=>wb I j q,b9.mono (Nat.le_succ n)]
 | unl t m=>
   let#[Z,I]:=eC o x B H F b.1
   have C:jw w s h (.unl t m)=if dQ w s h t=0 then{s with af:=s.af.set h (vs,fs.dropLast++ [{f with row:=m}])} else s:=by erw[jw,e2,nh B]
   rw[C]
   show#[λS Q q=>oF I B H (!0) (!0) q,?_]
   split
   · show W.goes B H hp (!0) (by have:=b.2;omega)
   · show W
 | go m=>
   have C:jw w s h (.go m)={s with af:=s.af.set h (vs,fs.dropLast++ [{f with row:=m}])}:=by erw[jw,e2,nh B]
   rw[C]
   show#[λS Q q=>yK B H (!0) (!0) q,W.goes B H hp (!0) (by have:m<=pr.length:=b;omega)]
 | do_ g rn Y t=>
   let#[Z,I]:=eC o x B H F b.2.2
   have ev:jw w s h (.do_ g rn Y t)=jw w s h (.do_ g rn Y t):=rfl
   generalize c4:dQ w s h t=v at Z I
   have c2:d.gs=dJ w.aj:=by
     rcases e_ F with⟨c,a4,a2,a6,rfl⟩|⟨c,r,I,rfl⟩ <;>rfl
   let a9:=b.2.1
   rw[c2] at a9
   let#[b0,r,e,a5]:=CV o a9
   let#[J,k,N]:=x.wroom e
   let K:=o.rm r (mQg e)
   let b5:=K.l3
   let b6:=N.br
   have C:jw w s h (.do_ g rn Y t)={s with af:=s.af.set h (vs,fs++ [⟨(cp (w.aj.map (·.name)) rn:Nat),(cp (r.ae.map (·.1)) Y:Nat),0,v,0⟩]),aj:=s.aj.set (cp (w.aj.map (·.name)) rn) (eO J h)}:=by erw[jw,e1,pH e,iJ k,c4,qJ]
   rw[C]
   show⟨λS Q q=>Ae I B b0 e k a5 (!0) (!0) (!0) (!0) (!0) (!0) q,?_⟩
   let c1:=gr a5
   let a7:=c1.1
   rw[lQm] at a7
   obtain⟨⟨c5,a8⟩,c3⟩:∃p,r.ae[cp (r.ae.map (·.1)) Y]?=some p:=#[_,gQe a7]
   have pf:progOf w h ⟨(cp (w.aj.map (·.name)) rn:Nat),(cp (r.ae.map (·.1)) Y:Nat),0,v,0⟩=some a8:=vZ L L e c3
   let hh:=hi.push (f':=#[(cp (w.aj.map (·.name)) rn:Nat),(cp (r.ae.map (·.1)) Y:Nat),0,v,0]) H #[pr,g,rn,Y,t,hp,h1,a0] (by show((cp (w.aj.map (·.name)) rn:Nat):Int)≠-1;omega) #[#[a8,pf,by show(0:Int)<=0;omega,by show(0:Int)<=_;omega],Z,by show(0:Int)<=0/\(0:Int)<=9;omega]
   show(W.hand hw hh).room e N.come
 | wait y t=>
   let#[i,r,J,U,e,k,N,K,P]:=G b.1
   let#[Z,I]:=eC o x B H F b.2.2
   let A:=b.2.1
   rw[P] at A
   let b6:=K.l2
   let lb:=N.lb
   let#[k1,k2]:=gr A
   rw[lQm] at k1
   rw[gQm] at k2
   let#[#[y',so],k3,k4]:=oQm.mp k2
   have k4:y'=y:=k4
   subst k4
   obtain⟨a1,hl⟩:∃l,J.aa[cp (r.aa.map (·.1)) y']?=some l:=#[_,gQe (!0)]
   let ll:=N.bb a1 (mQg hl)
   have ti:f.room.toNat=i:=by omega
   have C:jw w s h (.wait y' t)={s with aj:=s.aj.set i (bq {J with aa:=J.aa.set (cp (r.aa.map (·.1)) y') (gk a1 (if so="turns" then dQ w s h t else 0) h)})}:=by erw[jw,GR,qJ,e2,ti,pH e,iJ k,hl,k3,Option.getD_some]
   rw[C]
   show#[λS Q q=>sE B H U e k (!0) lb (!0) A k3 hl (!0) I q,?_]
   show W.room e (((N.mono (Nat.le_succ n)).line (by rw[Af];omega)).leave)
 | call y=>
   let#[i,r,J,U,e,k,N,K,P]:=G b.1
   let A:=b.2
   rw[P] at A
   let b6:=K.l2
   let b7:=N.bl
   have ti:f.room.toNat=i:=by omega
   have C:jw w s h (.call y)={s with aj:=s.aj.set i (nB (decide (r.ah="when free")) J (cp (r.aa.map (·.1)) y) h)}:=by erw[jw,qJ,e2,ti,pH e,iJ k]
   rw[C]
   show#[λS Q q=>rN B H U e k (!0) N.lb (!0) (!0) A q,?_]
   show W.room e N.call
 | all y=>
   let#[i,r,J,U,e,k,N,K,P]:=G b.1
   let A:=b.2
   rw[P] at A
   let b6:=K.l2
   have ti:f.room.toNat=i:=by omega
   have C:jw w s h (.all y)={s with aj:=s.aj.set i {J with aa:=J.aa.set (cp (r.aa.map (·.1)) y) []}}:=by erw[jw,qJ,e2,ti,pH e,iJ k]
   rw[C]
   show#[λS Q q=>vT B H U e k (!0) N.lb (!0) A q,?_]
   show W.room e ((N.mono (Nat.le_succ n)).line (by simp))
 | tell t=>
   let#[Z,I]:=eC o x B H F b.2
   have C:jw w s h (.tell t)={s with af:=s.af.set h (vs,fs.dropLast++ [{f with told:=dQ w s h t}])}:=by erw[jw,e2,nh B]
   rw[C]
   show#[λS Q q=>t9 I B H (!0) (!0) q,W.tells B H Z]
 | take y=>
   let A:=b.2
   rw[M b.1] at A
   let#[p,j]:=u y A s.ai lp
   let pl:=x.ps p (mQg j)
   have C:jw w s h (.take y)={s with ai:=s.ai.set (cp (w.ai.map (·.1)) y) (dY p h)}:=by erw[jw,yt,xm j]
   rw[C]
   show#[λS Q q=>tH A j (!0) (!0) (!0) q,W.pass (X p pl)]
 | give y=>
   let A:=b.2
   rw[M b.1] at A
   let#[p,j]:=u y A s.ai lp
   let pl:=x.ps p (mQg j)
   have C:jw w s h (.give y)={s with ai:=s.ai.set (cp (w.ai.map (·.1)) y) (cZ p)}:=by erw[jw,yt,xm j]
   rw[C]
   show#[λS Q q=>rM A j (!0) (!0) q,W.pass (Nat.le_succ_of_le (R p pl))]
 | pass y z=>
   let A:=b.2.1
   let hz:=b.2.2
   rw[M b.1] at A hz
   let#[p,j]:=u y A s.ai lp
   let pl:=x.ps p (mQg j)
   have x2:bT w n _:=x.pass (i:=cp (w.ai.map (·.1)) y) (R p pl)
   let#[p2,a3]:=u z hz (s.ai.set (cp (w.ai.map (·.1)) y) (cZ p)) (by simpa using lp)
   let b8:=x2.ps p2 (mQg a3)
   have C:jw w s h (.pass y z)={s with ai:=(s.ai.set (cp (w.ai.map (·.1)) y) (cZ p)).set (cp (w.ai.map (·.1)) z) (dY p2 h)}:=by
     have e3:KS (yt s (cp (w.ai.map (·.1)) y) (cZ p)) (cp (w.ai.map (·.1)) z)=p2:=xm a3
     erw[jw,xm j]
     rw[e3]
     rfl
   rw[C]
   show#[λS Q q=>uG A hz j (!0) (!0) (!0) a3 q,(x2.mono (Nat.le_succ n)).pass (X p2 b8)]
 |say t=>show#[λS Q q=>ve (sd:=.non) q,W]
end
section
variable{w:bD}{n h:Nat}{s:aE}{vs:List Int}{fs:List bG}{f:bG}{a:Sc}
def bT.mays(o:bX w)(x:bT w n s)(u:n<=800):JF w s:=by
 let y:=o.l1
 let B:=o.l2
 let C:=o.l4
 let H:=x.lr
 let z:=x.lp
 let F:=x.lh
 show Ar (λS Q q=>jj u (!0) (!0) x.ps (λl d=>?_) q) (λh t=>?_) (!0)
 ·let#[i,j,e]:=QbQ d
  have b:s.aj[i]?=some l:=by rw[gQe j,e]
  have g:w.aj[i]?=some (w.aj[i]'(!0)):=gQe (!0)
  let c:=x.rm i _ l g b
  have:=(o.rm _ (mQg g)).l2
  have:=c.lb
  show⟨c.br,c.bl,by omega,c.bb⟩
 ·obtain⟨⟨vs,fs⟩,b⟩:∃p,s.af[h]?=some p:=#[_,gQe t]
  let#[G,A,g,j]:=x.whand b
  let#[f,m,v]:=j.last
  let#[k,r,_]:=v.pr
  show#[vs,fs,f,k,b,m,r]
def Jh(o:bX w)(x:bT w n s)(hn:n<=800)(hm:h∈jE w s)(d:s.af[h]?=some (vs,fs))(u:fs.getLast? =some f):gU w s h (eY w s h).1 (eY w s h).2/\bT w (n+1) (eY w s h).1:=by
 let e1:=o6 d
 let P:=mY d u
 let#[ts,a3,hw,hi]:=x.whand d
 let fi:=hi.fr f (QcQ u)
 let#[pr,l,W,a5]:=fi.pr
 let b1:=o.l1
 let b4:=o.l4
 let lr:=x.lr
 let lh:=x.lh
 let lf:=hi.lf
 have nb:¬(f.room= -1/\f.row=pr.length):=by
  rintro⟨c1,c2⟩
  have:=(List.mem_filter.mp hm).2
  rw[QCq] at this
  have hb:se w s h=true:=by
   unfold se zL
   rw[d]
   show(match fs.getLast? with|some f=>_|none=>_)=_
   rw[u]
   erw[l,Option.getD_some,c1,c2,decide_true,Bool.and_true]
  rw[hb] at this
  show absurd this.2 (!1)
 by_cases c:f.room= -1
 ·
  have H:pr=a3:=by
   unfold progOf at l
   rw[Qhq c,hw] at l
   cases l;rfl
  subst H
  have K:f.row.toNat<pr.length:=by
   have:f.row≠pr.length:=λz=>nb #[c,z]
   omega
  have b:pr[f.row.toNat]?=some (pr[f.row.toNat]):=gQe K
  generalize pr[f.row.toNat]=r at b
  let#[a,J,I]:=vS o l
  let p:=I r (mQg b)
  have U:G9 w s h r (EW w s h r):=by
   cases r with
   |say t=>show#[_,L,(eC o x d u J p.2).2]
   |_=>rfl
  have F:eY w s h=(jw w {s with af:=s.af.set h (vs,fs.dropLast++ [{f with row:=f.row+1}])} h r,EW w s h r):=by
   unfold eY F8
   rw[P,Quq (λz=>z.1 c),l]
   simp only
   rw[Quq (λz=>nb #[c,z]),b,nh d]
  rw[F]
  let N:=x.goes d u l (m:=f.row+1) (!0) (!0)
  have hl:h<s.af.length:=(gQs.mp d).1
  let#[R,A]:=Cs (f:={f with row:=f.row+1}) (r:=r) (pr:=pr) o N hn (Qyq hl) (by simp) l (by show 1<=f.row+1;omega) (by show pr[(f.row+1-1).toNat]?=_;rw[show f.row+1-1=f.row by omega];show b)
  show#[uI d u (.inl c) l W b (!0) (!0) U R,A]
 ·
  rcases jI l with⟨c',_⟩|⟨i,j,r,dn,h1,h2,h3,h4⟩
  ·show absurd c' c
  let#[M,k,ri]:=x.wroom h3
  let br:=ri.br
  have ti:f.room.toNat=i:=by omega
  by_cases X:M.within=h
  ·have B:Here s h f:=.inr #[i,M,h1,k,X]
   by_cases ce:f.row=pr.length
   ·
    let Y:=fA u
    let R:=hi.hd
    rw[Y] at R
    let#[G,C,hg]:=R.two c
    have a1:fs=G++ [C,f]:=by rw[Y,hg];simp
    subst a1
    let#[a0,a4]:=hi.pop
    let#[a6,g,rn,a2,t,p1,p2,Z]:=a4
    have eo:yI s h={s with aj:=s.aj.set i (bq M),af:=s.af.set h (vs,G++ [C])}:=by
     unfold yI
     rw[P,e1,ti,iJ k]
     erw[qJ]
     rw[show G++ [C,f]=(G++ [C])++ [f] by simp,List.dropLast_concat]
    have ho:(yI s h).af[h]?=some (vs,G++ [C]):=by rw[eo];show Qyq (gQs.mp d).1
    have eb:BU w (yI s h) h=some (.do_ g rn a2 t):=by
     unfold BU
     rw[mY ho (f:=C) (by simp),p1]
     show Z
    have F:eY w s h=(xq w s h,none):=by
     unfold eY
     rw[P,ti,iJ k,Quq (λz=>z.2 X),l]
     simp only
     rw[Qhq ce]
    have N:bT w n {s with aj:=s.aj.set i (bq M),af:=s.af.set h (vs,G++ [C])}:=(x.hand hw a0).room h3 ri.leave
    let#[a,J,I]:=vS o p1
    let p:=I _ (mQg Z)
    have hl:h<s.af.length:=(gQs.mp d).1
    cases g with
    | none=>
      have ee:xq w s h={s with aj:=s.aj.set i (bq M),af:=s.af.set h (vs,G++ [C])}:=by unfold xq;rw[eb];show eo
      rw[F,ee]
      show#[oo d u B l ce λS Q q=>ir d h1 k (!0) (!0) p1 p2 Z (λ_ e=>e.symm) q,N.mono (Nat.le_succ n)]
    | some y=>
      let#[H,A]:=B2 (y:=y) (v:=f.told) o N (Qyq hl) (by simp) J (p.1 y L) fi.tv
      have ee:xq w s h=qL w {s with aj:=s.aj.set i (bq M),af:=s.af.set h (vs,G++ [C])} h y f.told:=by unfold xq;rw[eb,eo,P]
      rw[F,ee]
      show#[oo d u B l ce λS Q q=>ir d h1 k (!0) (!0) p1 p2 Z (λ_ e=>by rw[e];show H) q,A.mono (Nat.le_succ n)]
   ·
    have K:f.row.toNat<pr.length:=by omega
    have b:pr[f.row.toNat]?=some (pr[f.row.toNat]):=gQe K
    generalize pr[f.row.toNat]=r' at b
    let p:=((o.rm _ (mQg h3)).pr _ (mQg h4)).1 r' (mQg b)
    have he:G9 w s h r' none:=by
     cases r' with
     |say t=>show absurd p.1 (show¬(false=true) by decide)
     |_=>rfl
    let N:=x.goes d u l (m:=f.row+1) (!0) (!0)
    have hl:h<s.af.length:=(gQs.mp d).1
    have F:eY w s h=(jw w {s with af:=s.af.set h (vs,fs.dropLast++ [{f with row:=f.row+1}])} h r',none):=by
     unfold eY F8
     rw[P,ti,iJ k,Quq (λz=>z.2 X),l]
     simp only
     rw[Quq ce,b,nh d]
     show congrArg (Prod.mk _) ?_
     cases r' with
     |say t=>show absurd p.1 (show¬(false=true) by decide)
     |_=>rfl
    rw[F]
    let#[R,A]:=Cs (f:={f with row:=f.row+1}) (r:=r') (pr:=pr) o N hn (Qyq hl) (by simp) l (by show 1<=f.row+1;omega) (by show pr[(f.row+1-1).toNat]?=_;rw[show f.row+1-1=f.row by omega];show b)
    show#[uI d u B l W b (!0) (!0) he R,A]
  ·
   have F:eY w s h=({s with aj:=s.aj.set i (eO M h)},none):=by
    unfold eY
    rw[P,ti,iJ k,Qhq #[c,X]]
    rfl
   rw[F]
   show#[vd d u h1 k X (!0) (!0),(x.mono (Nat.le_succ n)).room h3 ri.come]
end
theorem i4{α b:Type}{f:α->List b}:∀{l:List α} {i:Nat} {a:α},l[i]?=some a->(l.flatMap f).Perm (f a++(l.eraseIdx i).flatMap f)
 | [],_,_,h=>by simp at h
 | x::l,0,a,h=>by
   simp at h
   subst h
   show List.Perm.refl _
 | x::l,i+1,a,h=>by
   let c:=i4 (f:=f) (l:=l) (i:=i) (by simpa using h)
   rw[QSq,List.eraseIdx_cons_succ,QSq]
   show(List.Perm.append_left (f x) c).trans (by
     rw[<-Qvq,<-Qvq]
     show QJq _ List.perm_append_comm)
theorem vD{α:Type}{b:α}:∀{l:List α} {i:Nat},(l.set i b).eraseIdx i=l.eraseIdx i
 | [],_=>rfl
 |_::_,0=>rfl
 | x::l,i+1=>by
   erw[List.set_cons_succ,List.eraseIdx_cons_succ]
   rw[vD]
def iE{α c:Type}{f:α->List c}{l:List α}{i:Nat}{a b:α}(h:l[i]?=some a):((l.set i b).flatMap f).Perm (f b++(l.eraseIdx i).flatMap f):=by
 have:=i4 (f:=f) (l:=l.set i b) (i:=i) (Qyq (gQs.mp h).1)
 rw[vD] at this
 show this
noncomputable def Ox(r:bO):List Int:=r.ag++r.aa.flatMap λl=>l.map (·.2)
def ib{r:bO}{y:Int}(h:y∈Ox r):y∈aI r:=by
 unfold aI
 rw[Qvq]
 show mQa.mpr (.inr h)
structure Q2(w:bD)(N:Nat)(ps:List (Int×List Int))(rs:List bO)(fr:Nat->List Int):Prop where
 fo:∀g,g<N->(fr g).head? =some (-1)
 nd:(ps.flatMap (·.2)++rs.flatMap aI).Nodup
 hv:∀x∈ps.flatMap (·.2)++rs.flatMap aI,∃g:Nat,x=g/\g<N
 pv:∀p∈ps,(0<=p.1/\p.1<=9)/\(p.1=0\/p.2= [])
 pl:∀p∈ps,∀g:Nat,(g:Int)∈p.2->fr g= [-1]
 rl:∀(i:Nat) (r:bO),rs[i]?=some r->∀g:Nat,(g:Int)∈aI r->(fr g).getLast? =some (i:Int)
 r1:∀(i:Nat) (r:bO),rs[i]?=some r->r.within= -1->r.row= []/\r.ag= []
 r2:∀(i:Nat) (r:bO),rs[i]?=some r->r.within= -1\/∃g:Nat,r.within=g/\g<N/\(i:Int)∈fr g
 r3:∀(i:Nat) (r:bO) (rm:Rm),rs[i]?=some r->w.aj[i]?=some rm->rm.ah="when free" ->r.ag= []
 r4:∀(i:Nat) (r:bO) (rm:Rm),rs[i]?=some r->w.aj[i]?=some rm->∀(b:Nat) (l:List (Int×Int)) (nm so:Str),r.aa[b]?=some l->rm.aa[b]?=some (nm,so)->(l.map (·.1)).Pairwise (·<=·)/\(so="row" ->∀p∈l,p.1=0)
 r5:∀(i:Nat) (r:bO),rs[i]?=some r->∀y∈Ox r,r.within≠y
noncomputable def hl(ps:List (Int×List Int))(rs:List bO):List Int:=ps.flatMap (·.2)++rs.flatMap aI
section
variable{w:bD}{N:Nat}{ps:List (Int×List Int)}{rs:List bO}{fr a:Nat->List Int}{h:Nat}
def qW{i:Nat}{r nr:bO}(c:rs[i]?=some r):∃b,(hl ps rs).Perm (aI r++b)/\(hl ps (rs.set i nr)).Perm (aI nr++b):=by
 show#[ps.flatMap (·.2)++(rs.eraseIdx i).flatMap aI,?_,?_]
 ·show(List.Perm.append_left _ (i4 c)).trans (by rw[<-Qvq,<-Qvq];show QJq _ List.perm_append_comm)
 ·show(List.Perm.append_left _ (iE c)).trans (by rw[<-Qvq,<-Qvq];show QJq _ List.perm_append_comm)
def yi{i:Nat}{p np:Int×List Int}(c:ps[i]?=some p):∃b,(hl ps rs).Perm (p.2++b)/\(hl (ps.set i np) rs).Perm (np.2++b):=by
 show#[(ps.eraseIdx i).flatMap (·.2)++rs.flatMap aI,?_,?_]
 ·rw[<-Qvq];show QJq _ (i4 (f:=λp:Int×List Int=>p.2) c)
 ·rw[<-Qvq];show QJq _ (iE (f:=λp:Int×List Int=>p.2) c)
structure R2(w:bD)(N i:Nat)(fr:Nat->List Int)(r:bO):Prop where
 rl:∀g:Nat,(g:Int)∈aI r->(fr g).getLast? =some (i:Int)
 r1:r.within= -1->r.row= []/\r.ag= []
 r2:r.within= -1\/∃g:Nat,r.within=g/\g<N/\(i:Int)∈fr g
 r3:∀rm:Rm,w.aj[i]?=some rm->rm.ah="when free" ->r.ag= []
 r4:∀rm:Rm,w.aj[i]?=some rm->∀(b:Nat) (l:List (Int×Int)) (nm so:Str),r.aa[b]?=some l->rm.aa[b]?=some (nm,so)->(l.map (·.1)).Pairwise (·<=·)/\(so="row" ->∀p∈l,p.1=0)
 r5:∀y∈Ox r,r.within≠y
def Q2.at(x:Q2 w N ps rs fr){i:Nat}{r:bO}(b:rs[i]?=some r):R2 w N i fr r:=#[x.rl i r b,x.r1 i r b,x.r2 i r b,λc=>x.r3 i r c b,λc=>x.r4 i r c b,x.r5 i r b]
def Q2.room(x:Q2 w N ps rs fr){i:Nat}{r nr:bO}(p:rs[i]?=some r)(f:R2 w N i fr nr)(m:∀b:List Int,(aI r++b).Nodup->(h:Int)∉aI r++b->(aI nr++b).Nodup)(k:∀y∈aI nr,y∈aI r\/y=(h:Int))(q:h<N)(o:(h:Int)∉hl ps rs):Q2 w N ps (rs.set i nr) fr:=by
 let#[b,l,n]:=qW (ps:=ps) (nr:=nr) p
 show#[x.fo,n.nodup_iff.mpr (m b (l.nodup_iff.mp x.nd) λz=>o (l.mem_iff.mpr z)),λy e=>?_,x.pv,x.pl,λj d c=>?_,λj d c=>?_,λj d c=>?_,λj d g c=>?_,λj d g c=>?_,λj d c=>?_]
 ·rcases mQa.mp (n.mem_iff.mp e) with e|e
  ·rcases k y e with e|rfl
   ·show x.hv y (l.mem_iff.mpr (mQa.mpr (.inl e)))
   ·show#[h,L,q]
  ·show x.hv y (l.mem_iff.mpr (mQa.mpr (.inr e)))
 all_goals rcases get_set c with⟨rfl,rfl⟩|⟨_,c⟩
 ·show f.rl
 ·show x.rl j d c
 ·show f.r1
 ·show x.r1 j d c
 ·show f.r2
 ·show x.r2 j d c
 ·show f.r3 g
 ·show x.r3 j d g c
 ·show f.r4 g
 ·show x.r4 j d g c
 ·show f.r5
 ·show x.r5 j d c
end
section
variable{w:bD}{N:Nat}{ps:List (Int×List Int)}{rs:List bO}{fr d:Nat->List Int}{h:Nat}
def Q2.room0(x:Q2 w N ps rs fr){i:Nat}{r nr:bO}(o:rs[i]?=some r)(e:R2 w N i fr nr)(m:∀a:List Int,(aI r++a).Nodup->(aI nr++a).Nodup)(f:∀y∈aI nr,y∈aI r):Q2 w N ps (rs.set i nr) fr:=by
 let#[a,l,n]:=qW (ps:=ps) (nr:=nr) o
 show#[x.fo,n.nodup_iff.mpr (m a (l.nodup_iff.mp x.nd)),λy g=>?_,x.pv,x.pl,λj c b=>?_,λj c b=>?_,λj c b=>?_,λj c k b=>?_,λj c k b=>?_,λj c b=>?_]
 ·rcases mQa.mp (n.mem_iff.mp g) with g|g
  ·show x.hv y (l.mem_iff.mpr (mQa.mpr (.inl (f y g))))
  ·show x.hv y (l.mem_iff.mpr (mQa.mpr (.inr g)))
 all_goals rcases get_set b with⟨rfl,rfl⟩|⟨_,b⟩
 ·show e.rl
 ·show x.rl j c b
 ·show e.r1
 ·show x.r1 j c b
 ·show e.r2
 ·show x.r2 j c b
 ·show e.r3 k
 ·show x.r3 j c k b
 ·show e.r4 k
 ·show x.r4 j c k b
 ·show e.r5
 ·show x.r5 j c b
def rL{a b c:List Int}{k:Int}(p:b.Perm (k::a))(n:(a++c).Nodup)(e:k∉a++c):(b++c).Nodup:=by
 show(QJq c p).nodup_iff.mpr ?_
 rw[List.cons_append]
 show List.nodup_cons.mpr #[e,n]
def sI{a b c:List Int}{k:Int}(p:a.Perm (k::b))(n:(a++c).Nodup):(b++c).Nodup:=by
 have:=(QJq c p).nodup_iff.mp n
 rw[List.cons_append] at this
 show(List.nodup_cons.mp this).2
def gF(x:Q2 w N ps rs fr){i:Nat}{r:bO}(b:rs[i]?=some r){y:Int}(a:y∈aI r):y∈hl ps rs:=mQa.mpr (.inr (QOq.mpr #[r,mQg b,a]))
def leave_held(r:bO):(∃a,(aI r).Perm (a::aI (bq r))/\(bq r).within=a)\/(aI (bq r)=aI r/\(bq r).within= -1/\r.row= []/\r.ag= []):=by
 let#[e,c,b,f,g]:=r
 cases f with
 | cons a l=>
   show .inl #[a,?_,L]
   show(b++(a::l)++_).Perm (a::(b++l++_))
   rw[Qvq,Qvq]
   show List.perm_middle
 | nil=>
   cases b with
   |cons a l=>show .inl #[a,List.Perm.refl _,L]
   |nil=>show .inr #[L,L,L,L]
def mw{r:bO}(h:r.ag= []):(bq r).ag= []:=by
 let#[c,a,b,e,f]:=r
 cases h
 cases b <;>rfl
def kj(r:bO):(bq r).aa=r.aa:=by
 let#[e,b,c,f,g]:=r
 cases f with
 |cons a l=>rfl
 |nil=>cases c <;>rfl
def qX(x:Q2 w N ps rs fr){i:Nat}{r:bO}(c:rs[i]?=some r):(aI r).Nodup:=by
 let#[a,b,_]:=qW (ps:=ps) (nr:=r) c
 show(List.nodup_append.mp (b.nodup_iff.mp x.nd)).1
def xG{a:Int}{l m:List Int}(b:l.Perm (a::m))(n:l.Nodup){y:Int}(c:y∈m):a≠y:=λz=>by
 subst z
 show(List.nodup_cons.mp (b.nodup_iff.mp n)).1 c
def Ci{r:bO}{b:Nat}{l nl:List (Int×Int)}{y:Int}(g:r.aa[b]?=some l)(i:∀z∈nl.map (·.2),z∈l.map (·.2))(a:y∈Ox {r with aa:=r.aa.set b nl}):y∈Ox r:=by
 rcases mQa.mp a with a|a
 ·show mQa.mpr (.inl a)
 ·let#[m,f,c]:=QOq.mp a
  let#[j,e]:=List.getElem?_of_mem f
  rcases get_set e with⟨rfl,rfl⟩|⟨_,e⟩
  ·show mQa.mpr (.inr (QOq.mpr #[l,mQg g,i y c]))
  ·show mQa.mpr (.inr (QOq.mpr #[m,mQg e,c]))
def Q2.leave(x:Q2 w N ps rs fr){i:Nat}{r:bO}(p:rs[i]?=some r):Q2 w N ps (rs.set i (bq r)) fr:=by
 let m:=x.at p
 rcases leave_held r with⟨a,t,o⟩|⟨u,o,c,q⟩
 ·have I:a∈aI r:=t.mem_iff.mpr (QBq ..)
  have e:∀y∈aI (bq r),y∈aI r:=λy j=>t.mem_iff.mpr (Qpq _ j)
  let#[g,rfl,H]:=x.hv a (gF x p I)
  show x.room0 p #[λC f=>m.rl C (e _ f),λz=>by rw[o] at z;omega,.inr #[g,o,H,QcQ (m.rl g I)],λk c q=>mw (m.r3 k c q),λk c b l nm A B F=>m.r4 k c b l nm A (by rw[<-kj];show B) F,λy j=>by rw[o];show xG t (qX x p) (ib j)] (λs n=>sI t n) e
 ·show x.room0 p #[λC f=>m.rl C (by rw[<-u];show f),λ_=>?_,.inl o,λk c q=>mw (m.r3 k c q),λk c b l nm A B F=>m.r4 k c b l nm A (by rw[<-kj];show B) F,λy j=>by let#[g,H,_]:=x.hv y (gF x p (by rw[<-u];show ib j));rw[o];omega] (λs n=>by rw[u];show n) (λy j=>by rw[<-u];show j)
  let#[G,v,J,M,K]:=r
  cases c
  cases q
  show#[L,L]
def Q2.come(x:Q2 w N ps rs fr){i:Nat}{r:bO}(k:rs[i]?=some r)(p:h<N)(o:(h:Int)∉hl ps rs)(m:(fr h).getLast? =some (i:Int)):Q2 w N ps (rs.set i (eO r h)) fr:=by
 let a:=x.at k
 unfold eO
 by_cases c:r.within= -1
 ·rw[Qhq c]
  show x.room0 k #[a.rl,λz=>by have z:(h:Int)= -1:=z;omega,.inr #[h,L,p,QcQ m],a.r3,a.r4,λy e z=>o (gF x k (by have z:(h:Int)=y:=z;rw[z];show ib e))] (λf n=>n) (λy e=>e)
 ·rw[Quq c]
  have l:(aI {r with row:=r.row++ [(h:Int)]}).Perm ((h:Int)::aI r):=by
   show((r.row++ [(h:Int)])++r.ag++_).Perm ((h:Int)::(r.row++r.ag++_))
   rw[Qvq,Qvq,Qvq]
   show List.perm_middle
  have b:∀y∈aI {r with row:=r.row++ [(h:Int)]},y∈aI r\/y=(h:Int):=λy e=>by
   rcases Qsq.mp (l.mem_iff.mp e) with rfl|e
   ·show .inr L
   ·show .inl e
  show x.room k #[λg j=>?_,λz=>absurd z c,a.r2,a.r3,a.r4,a.r5] (λf n q=>rL l n q) b p o
  rcases b _ j with j|j
  ·show a.rl g j
  ·have:g=h:=by omega
   subst this
   show m
def sP{α:Type}{A B C:List α}:(A++(B++C)).Perm (B++(A++C)):=by
 rw[<-Qvq,<-Qvq]
 show QJq _ List.perm_append_comm
def mV{r:bO}{b:Nat}{l nl:List (Int×Int)}(c:r.aa[b]?=some l):∃a,(aI r).Perm (l.map (·.2)++a)/\(aI {r with aa:=r.aa.set b nl}).Perm (nl.map (·.2)++a):=by
 show#[(r.row++r.ag)++(r.aa.eraseIdx b).flatMap λl=>l.map (·.2),?_,?_]
 ·show(List.Perm.append_left (r.row++r.ag) (i4 (f:=λl:List (Int×Int)=>l.map (·.2)) c)).trans sP
 ·show(List.Perm.append_left (r.row++r.ag) (iE (f:=λl:List (Int×Int)=>l.map (·.2)) (b:=nl) c)).trans sP
def El{l:List (Int×Int)}{t k:Int}:((gk l t k).map (·.2)).Perm (k::l.map (·.2)):=by
 unfold gk
 generalize (l.filter λp=>decide (p.1<=t)).length=n
 have e:l.map (·.2)=(l.take n).map (·.2)++(l.drop n).map (·.2):=by rw[<-Qzq,List.take_append_drop]
 rw[e,Qvq,Qzq]
 show List.perm_middle
theorem tx{t:Int}:∀{l:List (Int×Int)},(l.map (·.1)).Pairwise (·<=·)->(∀p∈l.take (l.filter λp=>decide (p.1<=t)).length,p.1<=t)/\∀p∈l.drop (l.filter λp=>decide (p.1<=t)).length,t<p.1
 | [],_=>#[λp b=>by simp at b,λp b=>by simp at b]
 | a::l,hs=>by
   rw[QDq,List.pairwise_cons] at hs
   by_cases c:a.1<=t
   · rw[List.filter_cons_of_pos (by simpa using c),Qnq,List.take_succ_cons,List.drop_succ_cons]
     let#[i,g]:=tx (t:=t) hs.2
     show#[λp b=>?_,g]
     rcases Qsq.mp b with rfl|b
     · show c
     · show i p b
   · have f:∀p∈a::l,t<p.1:=λp b=>by
       rcases Qsq.mp b with rfl|b
       · omega
       · have:=hs.1 p.1 (Qkq.mpr #[p,b,L])
         omega
     have e:((a::l).filter λp=>decide (p.1<=t))= []:=List.filter_eq_nil_iff.mpr λp b=>by
       have:=f p b
       simpa using this
     rw[e]
     show#[λp b=>by simp at b,λp b=>f p (by simpa using b)]
def Au{l:List (Int×Int)}{t k:Int}(g:(l.map (·.1)).Pairwise (·<=·)):((gk l t k).map (·.1)).Pairwise (·<=·):=by
 let#[i,f]:=tx (t:=t) g
 unfold gk
 generalize (l.filter λp=>decide (p.1<=t)).length=n at i f|-
 rw[Qvq,Qzq,Qzq,List.pairwise_append]
 have s:((l.take n).map (·.1)).Pairwise (·<=·):=by rw[List.map_take];show g.sublist (List.take_sublist ..)
 have j:((l.drop n).map (·.1)).Pairwise (·<=·):=by rw[List.map_drop];show g.sublist (List.drop_sublist ..)
 show#[s,?_,λa r b c=>?_]
 ·show(t::(l.drop n).map (·.1)).Pairwise (·<=·)
  rw[List.pairwise_cons]
  show#[λb c=>?_,j]
  let#[p,e,rfl]:=Qkq.mp c
  have:=f p e
  omega
 ·let#[p,e,rfl]:=Qkq.mp r
  let m:=i p e
  rcases Qsq.mp (show b∈t::(l.drop n).map (·.1) from c) with rfl|c
  ·show m
  ·let#[q,o,rfl]:=Qkq.mp c
   have:=f q o
   omega
def Gc{l:List (Int×Int)}{t k:Int}{p:Int×Int}(h:p∈gk l t k):p∈l\/p=(t,k):=by
 unfold gk at h
 rcases mQa.mp h with h|h
 ·rcases mQa.mp h with h|h
  ·show .inl (List.mem_of_mem_take h)
  ·show .inr (Qfq.mp h)
 ·show .inl (List.mem_of_mem_drop h)
def Q2.wait(x:Q2 w N ps rs fr){i b:Nat}{r:bO}{rm:Rm}{l:List (Int×Int)}{t:Int}{nm W:Str}(H:rs[i]?=some r)(hm:w.aj[i]?=some rm)(hb:r.aa[b]?=some l)(hs:rm.aa[b]?=some (nm,W))(ht:W="row" ->t=0)(hN:h<N)(hh:(h:Int)∉hl ps rs)(hf:(fr h).getLast? =some (i:Int)):
  Q2 w N ps (rs.set i (bq {r with aa:=r.aa.set b (gk l t h)})) fr:=by
 let Q:=x.at H
 let#[k,p1,p2]:=mV (nl:=gk l t h) hb
 have s:(aI {r with aa:=r.aa.set b (gk l t h)}).Perm ((h:Int)::aI r):=by
  show p2.trans ((QJq k El).trans ?_)
  rw[List.cons_append]
  show List.Perm.cons _ p1.symm
 have f:∀y∈aI {r with aa:=r.aa.set b (gk l t h)},y∈aI r\/y=(h:Int):=λy e=>by
  rcases Qsq.mp (s.mem_iff.mp e) with rfl|e
  ·show .inr L
  ·show .inl e
 have C:∀g:Nat,(g:Int)∈aI {r with aa:=r.aa.set b (gk l t h)}->(fr g).getLast? =some (i:Int):=λg A=>by
  rcases f _ A with A|A
  ·show Q.rl g A
  ·have:g=h:=by omega
   subst this
   show hf
 have K:∀c:Rm,w.aj[i]?=some c->∀(I:Nat) (P:List (Int×Int)) (F q:Str),(bq {r with aa:=r.aa.set b (gk l t h)}).aa[I]?=some P->c.aa[I]?=some (F,q)->(P.map (·.1)).Pairwise (·<=·)/\(q="row" ->∀p∈P,p.1=0):=λc u I P F q o v=>by
  rw[kj] at o
  rcases get_set o with⟨rfl,rfl⟩|⟨_,o⟩
  ·rw[hm] at u
   cases u
   rw[hs] at v
   cases v
   let#[e1,e2]:=Q.r4 rm hm I l nm W hb hs
   show#[Au e1,λz p s=>?_]
   rcases Gc s with s|rfl
   ·show e2 z p s
   ·show ht z
  ·show Q.r4 c u I P F q o v
 have J:∀y∈aI {r with aa:=r.aa.set b (gk l t h)},∃g:Nat,y=g/\g<N:=λy e=>by
  rcases f y e with e|rfl
  ·show x.hv y (gF x H e)
  ·show#[h,L,hN]
 have n':(aI {r with aa:=r.aa.set b (gk l t h)}).Nodup:=s.nodup_iff.mpr (List.nodup_cons.mpr #[λz=>hh (gF x H z),qX x H])
 have M:∀c:Rm,w.aj[i]?=some c->c.ah="when free" ->(bq {r with aa:=r.aa.set b (gk l t h)}).ag= []:=λc Y U=>mw (Q.r3 c Y U)
 rcases leave_held {r with aa:=r.aa.set b (gk l t h)} with⟨a,m,G⟩|⟨R,G,Y,U⟩
 ·have ha:a∈aI {r with aa:=r.aa.set b (gk l t h)}:=m.mem_iff.mpr (QBq ..)
  have j:∀y∈aI (bq {r with aa:=r.aa.set b (gk l t h)}),y∈aI {r with aa:=r.aa.set b (gk l t h)}:=λy e=>m.mem_iff.mpr (Qpq _ e)
  let#[g,rfl,A]:=J a ha
  show x.room H #[λZ B=>C Z (j _ B),λz=>by rw[G] at z;omega,.inr #[g,G,A,QcQ (C g ha)],M,K,λy e=>by rw[G];show xG m n' (ib e)] (λk n X=>sI m (rL s n X)) (λy e=>f y (j y e)) hN hh
 ·show x.room H #[λZ B=>C Z (by rw[<-R];show B),λ_=>?_,.inl G,M,K,λy e=>by let#[g,A,_]:=J y (by rw[<-R];show ib e);rw[G];omega] (λk n X=>by rw[R];show rL s n X) (λy e=>f y (by rw[<-R];show e)) hN hh
  let#[a0,S,a1,ag,aa]:=r
  cases Y
  cases U
  show#[L,L]
def Q2.all(x:Q2 w N ps rs fr){i b:Nat}{r:bO}{l:List (Int×Int)}(A:rs[i]?=some r)(u:r.aa[b]?=some l):Q2 w N ps (rs.set i {r with aa:=r.aa.set b []}) fr:=by
 let f:=x.at A
 let#[C,v,t]:=mV (nl:= []) u
 have c:∀y∈aI {r with aa:=r.aa.set b []},y∈aI r:=λy o=>v.mem_iff.mpr (mQa.mpr (.inr (by simpa using t.mem_iff.mp o)))
 show x.room0 A #[λg G=>f.rl g (c _ G),f.r1,f.r2,f.r3,λm j F I q s e k=>?_,λy o=>f.r5 y (Ci u (λ_ z=>by simp at z) o)] (λa n=>?_) c
 ·rcases get_set e with⟨rfl,rfl⟩|⟨_,e⟩
  ·show#[.nil,λ_ p H=>by cases H]
  ·show f.r4 m j F I q s e k
 ·let B:=(QJq a v).nodup_iff.mp n
  show(QJq a t).nodup_iff.mpr ?_
  rw[Qvq] at B
  show(List.nodup_append.mp B).2.1
def Q2.call(x:Q2 w N ps rs fr){i b:Nat}{r:bO}{S:Rm}{l:List (Int×Int)}(u:rs[i]?=some r)(hm:w.aj[i]?=some S)(Q:r.aa[b]?=some l)(hN:h<N)(U:(h:Int)∉hl ps rs)(hf:(fr h).getLast? =some (i:Int)):
  Q2 w N ps (rs.set i (nB (decide (S.ah="when free")) r b h)) fr:=by
 let v:=x.at u
 unfold nB
 rw[Q]
 cases l with
 | nil=>
   have e:rs.set i r=rs:=by
     apply List.ext_getElem?
     intro j
     rw[List.getElem?_set]
     split
     · rename_i c
       subst c
       rw[u]
       have:=(gQs.mp u).1
       simp[this]
     · rfl
   rw[e]
   show x
 | cons p l=>
   let#[B,p1,Y]:=mV (nl:=l) Q
   have G:(aI r).Perm (p.2::aI {r with aa:=r.aa.set b l}):=by
     show p1.trans ?_
     rw[QDq,List.cons_append]
     show List.Perm.cons _ Y.symm
   have K:p.2∈aI r:=G.mem_iff.mpr (QBq ..)
   have f:∀y∈aI {r with aa:=r.aa.set b l},y∈aI r:=λy a=>G.mem_iff.mpr (Qpq _ a)
   have W:∀m:Rm,w.aj[i]?=some m->∀(J:Nat) (P:List (Int×Int)) (A t:Str),(r.aa.set b l)[J]?=some P->m.aa[J]?=some (A,t)->(P.map (·.1)).Pairwise (·<=·)/\(t="row" ->∀p∈P,p.1=0):=λm o J P A t C I=>by
     rcases get_set C with⟨rfl,rfl⟩|⟨_,C⟩
     · let#[X,e2]:=v.r4 m o J _ A t Q I
       rw[QDq,List.pairwise_cons] at X
       show#[X.2,λz q Z=>e2 z q (Qpq _ Z)]
     · show v.r4 m o J P A t C I
   dsimp only[bF,aW,bH,cO,c_,iO]
   by_cases c:S.ah="when free"
   · rw[Qeq c,Qhq L]
     show x.room0 u #[λg K=>v.rl g (f _ K),v.r1,v.r2,v.r3,W,λy a=>v.r5 y (Ci Q (λ_ z=>Qpq _ z) a)] (λB n=>sI G n) f
   · rw[Qdq c,Quq (!1)]
     have M:(aI {r with aa:=r.aa.set b l,within:=p.2,ag:=r.ag++ [(h:Int)]}).Perm ((h:Int)::aI {r with aa:=r.aa.set b l}):=by
       show(r.row++(r.ag++ [(h:Int)])++_).Perm ((h:Int)::(r.row++r.ag++_))
       rw[<-Qvq,Qvq]
       show List.perm_middle
     have s:∀y∈aI {r with aa:=r.aa.set b l,within:=p.2,ag:=r.ag++ [(h:Int)]},y∈aI r\/y=(h:Int):=λy a=>by
       rcases Qsq.mp (M.mem_iff.mp a) with rfl|a
       · show .inr L
       · show .inl (f y a)
     let#[g,H,R]:=x.hv p.2 (gF x u K)
     show x.room u #[λk F=>?_,λz=>?_,.inr #[g,H,R,QcQ (v.rl g (by rw[<-H];show K))],λm o z=>?_,W,λy a=>?_] (λB n F=>?_) s hN U
     · rcases s _ F with F|F
       · show v.rl k F
       · have:k=h:=by omega
         subst this
         show hf
     · have z:p.2= -1:=z
       omega
     · rw[hm] at o
       cases o
       show absurd z c
     · show p.2≠y
       rcases mQa.mp a with a|a
       · rcases mQa.mp a with a|a
         · show xG G (qX x u) (ib (mQa.mpr (.inl a)))
         · rw[Qfq.mp a]
           show λz=>U (gF x u (z▸K))
       · show xG G (qX x u) (ib (mQa.mpr (.inr a)))
     · show rL M (sI G n) λz=>F ?_
       rcases mQa.mp z with z|z
       · show mQa.mpr (.inl (f _ z))
       · show mQa.mpr (.inr z)
end
section
variable{w:bD}{N:Nat}{ps:List (Int×List Int)}{rs:List bO}{fr b:Nat->List Int}{h:Nat}
def Q2.take(x:Q2 w N ps rs fr){j:Nat}{p:Int×List Int}(s:ps[j]?=some p)(C:h<N)(B:(h:Int)∉hl ps rs)(A:fr h= [-1]):Q2 w N (ps.set j (dY p h)) rs fr:=by
 let#[#[F,v],o]:=x.pv p (mQg s)
 let#[u,r,t]:=yi (rs:=rs) (np:=dY p h) s
 have m:(dY p h).2=p.2\/(dY p h).2=p.2++ [(h:Int)]:=by
  unfold dY
  split
  ·show .inl L
  ·show .inr L
 have f:∀y∈(dY p h).2,y∈p.2\/y=(h:Int):=λy d=>by
  rcases m with e|e
  ·rw[e] at d;show .inl d
  ·rw[e] at d
   rcases mQa.mp d with d|d
   ·show .inl d
   ·show .inr (Qfq.mp d)
 show#[x.fo,t.nodup_iff.mpr ?_,λy d=>?_,λq i=>?_,λq i g l=>?_,x.rl,x.r1,x.r2,x.r3,x.r4,x.r5]
 ·let n:=r.nodup_iff.mp x.nd
  rcases m with e|e
  ·rw[e];show n
  ·rw[e]
   show rL (a:=p.2) (k:=(h:Int)) (by rw[<-List.append_nil p.2];simpa using List.perm_middle (l₁:=p.2) (a:=(h:Int)) (l₂:= [])) n λz=>B (r.mem_iff.mpr z)
 ·rcases mQa.mp (t.mem_iff.mp d) with d|d
  ·rcases f y d with d|rfl
   ·show x.hv y (r.mem_iff.mpr (mQa.mpr (.inl d)))
   ·show#[h,L,C]
  ·show x.hv y (r.mem_iff.mpr (mQa.mpr (.inr d)))
 ·rcases QTq i with i|rfl
  ·show x.pv q i
  ·unfold dY
   split
   ·rename_i c
    show#[#[by show 0<=p.1-1;omega,by show p.1-1<=9;omega],.inr ?_]
    rcases o with o|o
    ·omega
    ·show o
   ·rename_i c
    show#[#[F,v],.inl (by show p.1=0;omega)]
 ·rcases QTq i with i|rfl
  ·show x.pl q i g l
  ·rcases f _ l with l|l
   ·show x.pl p (mQg s) g l
   ·have:g=h:=by omega
    subst this
    show A
def Q2.give(x:Q2 w N ps rs fr){j:Nat}{p:Int×List Int}(m:ps[j]?=some p):Q2 w N (ps.set j (cZ p)) rs fr:=by
 let#[#[r,z],f]:=x.pv p (mQg m)
 let#[u,o,s]:=yi (rs:=rs) (np:=cZ p) m
 let i:=x.pl p (mQg m)
 let#[v,l]:=p
 have d:∀y∈(cZ (v,l)).2,y∈l:=λy c=>by
  unfold cZ at c
  cases l with
  |nil=>cases c
  |cons a l=>show Qpq _ c
 show#[x.fo,s.nodup_iff.mpr ?_,λy c=>?_,λq e=>?_,λq e g t=>?_,x.rl,x.r1,x.r2,x.r3,x.r4,x.r5]
 ·let n:=o.nodup_iff.mp x.nd
  unfold cZ
  cases l with
  |nil=>show n
  |cons a l=>show sI (k:=a) (List.Perm.refl _) n
 ·rcases mQa.mp (s.mem_iff.mp c) with c|c
  ·show x.hv y (o.mem_iff.mpr (mQa.mpr (.inl (d y c))))
  ·show x.hv y (o.mem_iff.mpr (mQa.mpr (.inr c)))
 ·rcases QTq e with e|rfl
  ·show x.pv q e
  ·unfold cZ
   cases l with
   | nil=>
     show#[?_,.inr L]
     show 0<=(if 9<v+1 then 9 else v+1)/\(if 9<v+1 then 9 else v+1)<=9
     have r:0<=v:=r
     split <;>omega
   | cons a l=>
     show#[#[r,z],.inl ?_]
     rcases f with f|f
     · show f
     · cases f
 ·rcases QTq e with e|rfl
  ·show x.pl q e g t
  ·show i g (d _ t)
def Q2.frames(x:Q2 w N ps rs fr)(d:∀g,g≠h->b g=fr g)(m:(h:Int)∉hl ps rs)(l:∀(i:Nat) (r:bO),rs[i]?=some r->r.within=(h:Int)->(i:Int)∈b h)(n:(b h).head? =some (-1)):Q2 w N ps rs b:=by
 have k:∀g:Nat,(g:Int)∈hl ps rs->b g=fr g:=λg a=>d g λz=>m (by rw[<-z];show a)
 show#[λg a=>?_,x.nd,x.hv,x.pv,λp j g a=>?_,λi r f g a=>?_,x.r1,λi r f=>?_,x.r3,x.r4,x.r5]
 ·by_cases c:g=h
  ·subst c
   show n
  ·rw[d g c]
   show x.fo g a
 ·rw[k g (mQa.mpr (.inl (QOq.mpr #[p,j,a])))]
  show x.pl p j g a
 ·rw[k g (gF x f a)]
  show x.rl i r f g a
 ·rcases x.r2 i r f with z|⟨g,e,a,o⟩
  ·show .inl z
  ·show .inr #[g,e,a,?_]
   by_cases c:g=h
   ·subst c
    show l i r f e
   ·rw[d g c]
    show o
end
noncomputable def rc(f:bG):Int:=if f.room= -1 then(if f.deed= -1/\f.given=0/\f.told=0 then -1 else -2) else f.room
def lA{f:bG}(h:f.room≠-1):rc f=f.room:=Quq h
noncomputable def yb(s:aE)(g:Nat):List Int:=((s.af[g]?).map λp=>p.2.map rc).getD []
def lQ(w:bD)(s:aE):Prop:=Q2 w s.af.length s.ai s.aj (yb s)
section
variable{w:bD}{n h:Nat}{s:aE}{vs:List Int}{fs:List bG}{f:bG}
def ka(a:s.af[h]?=some (vs,fs)):yb s h=fs.map rc:=by
 unfold yb
 rw[a]
 rfl
def wY{p:List Int×List bG}{g:Nat}(a:g≠h):yb {s with af:=s.af.set h p} g=yb s g:=by
 unfold yb
 rw[QKq (Ne.symm a)]
def wX{p:List Int×List bG}(hl:h<s.af.length):yb {s with af:=s.af.set h p} h=p.2.map rc:=by
 unfold yb
 rw[Qyq hl]
 rfl
def lQ.quiet(x:lQ w s){b:List Int}{a:List bG}(d:s.af[h]?=some (vs,fs))(e:a.map rc=fs.map rc):lQ w {s with af:=s.af.set h (b,a)}:=by
 let hl:=(gQs.mp d).1
 have i:yb {s with af:=s.af.set h (b,a)}=yb s:=by
  funext g
  by_cases c:g=h
  ·subst c
   rw[wX hl,ka d]
   show e
  ·show wY c
 unfold lQ
 rw[i]
 show Q2 w (s.af.set h (b,a)).length s.ai s.aj (yb s)
 rw[List.length_set]
 show x
def lQ.share(x:lQ w s){a:List Int}:lQ w {s with ak:=a}:=x
def lQ.vals(x:lQ w s){i:Nat}{r:bO}{d:List Int}(b:s.aj[i]?=some r):lQ w {s with aj:=s.aj.set i {r with vals:=d}}:=by
 let a:=Q2.at x b
 show Q2.room0 x b #[a.rl,a.r1,a.r2,a.r3,a.r4,a.r5] (λc n=>n) (λy e=>e)
def lQ.begun(o:bX w):lQ w (bz w):=by
 have j:∀(i:Nat) (r:bO),(bz w).aj[i]?=some r->∃c,w.aj[i]?=some c/\r=cv c:=λi r j=>by
  erw[bz,gQm] at j
  let#[c,G,B]:=oQm.mp j
  show#[c,G,B.symm]
 have u:∀c:Rm,∀l∈(cv c).aa,l= []:=λc l hl=>by
  erw[cv,Qkq] at hl
  let#[_,_,e]:=hl
  show e.symm
 have t:∀c:Rm,aI (cv c)= []:=λc=>by
  unfold aI
  have:(cv c).aa.flatMap (λl=>l.map (·.2))= []:=List.flatMap_eq_nil_iff.mpr λl hl=>by rw[u c l hl];rfl
  rw[this]
  rfl
 have A:hl (bz w).ai (bz w).aj= []:=by
  unfold hl
  rw[List.append_eq_nil_iff,List.flatMap_eq_nil_iff,List.flatMap_eq_nil_iff]
  show#[λp d=>?_,λr a=>?_]
  ·erw[bz,Qkq] at d
   let#[q,_,rfl]:=d
   rfl
  ·erw[bz,Qkq] at a
   let#[q,_,rfl]:=a
   show t q
 have z:(bz w).ai.flatMap (·.2)++(bz w).aj.flatMap aI= []:=A
 show#[λg k=>?_,by rw[z];show .nil,(λx v=>by rw[z] at v;cases v),?_,λp d g k=>?_,λi r a g k=>?_,λi r a _=>?_,λi r a=>?_,λi r c a _ _=>?_,λi r c a _ b l nm I C _=>?_,λi r a y H=>by let#[c,_,rfl]:=j i r a;have:=ib H;rw[t] at this;cases this]
 ·have m:g<w.af.length:=by simpa [bz] using k
  unfold yb
  erw[bz,gQm,gQe m,Option.map_some,Option.getD_some]
  rfl
 ·intro p d
  erw[bz,Qkq] at d
  let#[q,F,rfl]:=d
  have:=o.pv q F
  show#[#[by show(0:Int)<=(q.2:Int);omega,by show(q.2:Int)<=9;omega],.inr L]
 ·erw[bz,Qkq] at d
  let#[q,_,rfl]:=d
  cases k
 ·let#[c,_,rfl]:=j i r a
  rw[t] at k
  cases k
 ·let#[c,_,rfl]:=j i r a
  show#[L,L]
 ·let#[c,_,rfl]:=j i r a
  show .inl L
 ·let#[c,_,rfl]:=j i r a
  rfl
 ·let#[c,_,rfl]:=j i r a
  rw[u c l (mQg C)]
  show⟨.nil,λ_ p d=>by cases d⟩
end
section
variable{w:bD}{n h:Nat}{s:aE}{vs:List Int}{fs:List bG}{f:bG}{d:Sc}
def lz{f':bG}(a:fs.getLast? =some f)(e:rc f'=rc f):(fs.dropLast++ [f']).map rc=fs.map rc:=by
 conv=>rhs;rw[fA a]
 rw[Qzq,Qzq]
 show _++ [rc f']=_++ [rc f]
 rw[e]
def pN{w:bD}{s:aE}{h:Nat}{t:Tr}(x:(0<=dQ w s h t/\dQ w s h t<=9)/\x9 w s h t (dQ w s h t)):∃v,(0<=v/\v<=9)/\x9 w s h t v:=⟨_,x⟩
def Et(h:Nat)(r a:bO):Prop:=r.within≠h->0<=r.within->a.within=r.within/\(a.row=r.row\/a.row=r.row++ [(h:Int)])
def Kp(h:Nat)(s s':aE):Prop:=s'.af.length=s.af.length/\s'.aj.length=s.aj.length/\∀(i:Nat) (r a:bO),s.aj[i]?=some r->s'.aj[i]?=some a->Et h r a
def Ji(s s':aE):Prop:=s'.af.length=s.af.length/\s'.aj.length=s.aj.length/\∀(i:Nat) (r a:bO),s.aj[i]?=some r->s'.aj[i]?=some a->a.within=r.within/\a.row=r.row
def Ji.aj{s s':aE}(b:s'.af.length=s.af.length)(e:s'.aj=s.aj):Ji s s':=⟨b,by rw[e],λi r g c a=>by rw[e,c] at a;cases a;show⟨rfl,L⟩⟩
def Ji.kp{h:Nat}{s s':aE}(x:Ji s s'):Kp h s s':=⟨x.1,x.2.1,λi r a c b _ _=>⟨(x.2.2 i r a c b).1,.inl (x.2.2 i r a c b).2⟩⟩
def Kp.aj{h:Nat}{s s':aE}(a:s'.af.length=s.af.length)(e:s'.aj=s.aj):Kp h s s':=(Ji.aj a e).kp
def Kp.room{h i:Nat}{s s':aE}{r l:bO}(m:s'.af.length=s.af.length)(o:s.aj[i]?=some r)(e:s'.aj=s.aj.set i l)(k:Et h r l):Kp h s s':=⟨m,by rw[e,List.length_set],λj a b g c=>by
 rw[e] at c
 rcases get_set c with⟨rfl,rfl⟩|⟨_,c⟩
 ·rw[o] at g;cases g;show k
 ·rw[g] at c;cases c;show λ_ _=>⟨rfl,.inl L⟩⟩
def Kp.v{h:Nat}{s b s':aE}(x:Kp h s b)(y:Ji b s'):Kp h s s':=⟨y.1.trans x.1,y.2.1.trans x.2.1,λi r j c k p q=>by
 let hl:=(gQs.mp c).1
 obtain⟨a,e⟩:∃a,b.aj[i]?=some a:=#[_,gQe (by rw[x.2.1];show hl)]
 let#[m,o]:=x.2.2 i r a c e p q
 let#[g,l]:=y.2.2 i a j e k
 rw[g,l]
 show#[m,o]⟩
def Et.come{h:Nat}{r:bO}:Et h r (eO r h):=λb a=>by
 unfold eO
 split
 ·omega
 ·show#[L,.inr L]
def Et.own{h:Nat}{r a:bO}(e:r.within=h):Et h r a:=λb _=>absurd e b
def Dr{y:Str}{v:Int}(o:bX w)(x:bT w n s)(q:lQ w s)(t:s.af[h]?=some (vs,fs))(B:fs.getLast? =some f)(F:BK w h f=some d)(G:y∈d.ps)(C:0<=v/\v<=9):∃s',Puts w s h y v s'/\bT w n s'/\lQ w s'/\Ji s s':=by
 let#[H,W,p,u]:=x.whand t
 let J:=o.hd _ (mQg p)
 let N:=u.fr f (QcQ B)
 let P:=o.l1
 let U:=o.l3
 let K:=J.l1
 let X:=o.l4
 let lr:=x.lr
 let Z:=x.lh
 rcases e_ F with⟨c,I,M,k,rfl⟩|⟨c,r,hr,rfl⟩
 ·rw[p] at k
  cases k
  show#[kq w s h H vs fs y v,λS Q q=>Cz p t B c x.ls u.lv (!0) (by dsimp only at K;omega) (!0) G q,?_]
  unfold kq
  split
  ·let#[i,l]:=fF (ns:=w.ak.map (·.1)) (y:=y) x.sv C
   show#[x.share i l,q.share,Ji.aj L L]
  ·let#[i,l]:=fF (ns:=H.map (·.1)) (y:=y) u.vv C
   show#[x.hand p (u.vals i l),q.quiet t L,Ji.aj (by simp) L]
 ·let#[Y,e,g]:=x.wroom hr
  let z:=o.rm r (mQg hr)
  let R:=z.l1
  show#[_,λS Q q=>yT t B (gP N c) hr e g.lv (!0) (!0) G q,?_]
  let#[i,l]:=fF (ns:=r.ao.map (·.1)) (y:=y) g.vv C
  show⟨x.room hr ⟨by rw[g.lv,<-i],g.lb,l,g.br,g.bl,g.bb⟩,q.vals e,L,by simp,λj a b A m=>by
   rcases get_set m with⟨rfl,rfl⟩|⟨_,m⟩
   ·rw[e] at A;cases A;show#[L,L]
   ·rw[A] at m;cases m;show#[L,L]⟩
def Ed(hi:iu fs)(g:fs.getLast? =some f)(c:f.room= -1)(b:(fs.map rc).head? =some (-1)):fs.map rc= [-1]:=by
 let i:=fA g
 rw[i] at hi b|-
 cases e:fs.dropLast with
 | nil=>
   rw[e] at b
   rw[List.nil_append]
   have b:some (rc f)=some (-1):=b
   show [rc f]= [-1]
   rw[QdQ b]
 | cons a l=>
   rw[e] at hi
   show absurd c (hi.2 f (mQa.mpr (.inr (Qfq.mpr L))))
def JR{r:Rw}{pr:List Rw}(o:bX w)(x:bT w n s)(P:lQ w s)(J:(h:Int)∉held s)(hn:n<=800)(a9:Here s h f)(C:s.af[h]?=some (vs,fs))(I:fs.getLast? =some f)(hp:progOf w h f=some pr)(h1:1<=f.row)(a4:pr[(f.row-1).toNat]?=some r):∃s',JD w s h r s'/\bT w (n+1) s'/\lQ w s'/\Kp h s s':=by
 let#[d,K,c6]:=vS o hp
 let b:=c6 r (mQg a4)
 let#[ts,a5,hw,hi]:=x.whand C
 let fi:=hi.fr f (QcQ I)
 have hl:h<s.af.length:=(gQs.mp C).1
 let b1:=o.l1
 let b2:=o.l2
 let b3:=o.l3
 let b4:=o.l4
 let lr:=x.lr
 let lp:=x.lp
 let lh:=x.lh
 let lf:=hi.lf
 let x1:=x.mono (Nat.le_succ n)
 have Z:f.room≠-1->(yb s h).getLast? =some f.room:=λc=>by rw[ka C,QfQ,I];show congrArg some (lA c)
 let f0:=P.fo h hl
 have G:d.own=false->∃(i:Nat) (r:Rm) (rs:bO),f.room=i/\w.aj[i]?=some r/\s.aj[i]?=some rs/\i_ n r rs/\Lb (dJ w.aj) r/\d.bs=r.aa.map (·.1)/\rs.within=h:=λho=>by
  rcases e_ K with⟨c,a7,a5,b0,rfl⟩|⟨c,r,U,rfl⟩
  ·cases ho
  ·let#[rs,k,N]:=x.wroom U
   show#[_,r,rs,gP fi c,U,k,N,o.rm r (mQg U),L,?_]
   rcases a9 with c'|⟨i,d5,d7,c0,d2⟩
   ·show absurd c' c
   ·let e:=gP fi c
    have:i=f.room.toNat:=by omega
    subst this
    rw[k] at c0
    cases c0
    show d2
 have H:d.own=true->d.ts=w.ai.map (·.1)/\yb s h= [-1]:=λho=>by
  rcases e_ K with⟨c,a7,a5,b0,rfl⟩|⟨c,r,U,rfl⟩
  ·show#[L,by rw[ka C] at f0|-;show Ed hi.hd I c f0]
  ·cases ho
 have F:∀y,y∈w.ai.map (·.1)->∀ps:List (Int×List Int),w.ai.length=ps.length->∃p,ps[cp (w.ai.map (·.1)) y]?=some p:=λy B ps hl=>by
  have:=(gr B).1
  rw[lQm] at this
  show#[_,gQe (!0)]
 have a2:∀p:Int×List Int,p.2.length<=n->(dY p h).2.length<=n+1:=λp hp=>by
  unfold dY
  split
  ·show p.2.length<=_;omega
  ·simp;omega
 have Y:∀p:Int×List Int,p.2.length<=n->(cZ p).2.length<=n:=λp hp=>by
  let#[v,l]:=p
  unfold cZ
  cases l with
  |nil=>simp
  |cons a l=>simp at hp;show l.length<=n;omega
 cases r with
 | put y t=>
   let#[v,hv,U]:=pN<|eC o x C I K b.2
   let#[s',A,c5,d3,c4]:=Dr o x P C I K b.1 hv
   show#[s',λS Q q=>wb U A q,c5.mono (Nat.le_succ n),d3,c4.kp]
 | unl t m=>
   let#[v,hv,U]:=pN<|eC o x C I K b.1
   show#[_,λS Q q=>oF U C I (!0) (!0) q,?_]
   split
   · show#[x1.goes C I hp (!0) (by have:=b.2;omega),P.quiet C (lz I L),Kp.aj (by simp) L]
   · show#[x1,P,Kp.aj L L]
 |go m=>show#[_,λS Q q=>yK C I (!0) (!0) q,x1.goes C I hp (!0) (by have:m<=pr.length:=b;omega),P.quiet C (lz I L),Kp.aj (by simp) L]
 | do_ g rn dn t=>
   let#[v,hv,U]:=pN<|eC o x C I K b.2.2
   have c9:d.gs=dJ w.aj:=by
     rcases e_ K with⟨c,a7,a5,b0,rfl⟩|⟨c,r,U,rfl⟩ <;>rfl
   let c2:=b.2.1
   rw[c9] at c2
   let#[a3,r,u,a8]:=CV o c2
   let#[rs,k,N]:=x.wroom u
   let R:=o.rm r (mQg u)
   let b5:=R.l3
   let b6:=N.br
   show⟨_,λS Q q=>Ae U C a3 u k a8 (!0) (!0) (!0) (!0) (!0) (!0) q,?_⟩
   let c8:=gr a8
   let b8:=c8.1
   rw[lQm] at b8
   obtain⟨⟨d6,c1⟩,d1⟩:∃p,r.ae[cp (r.ae.map (·.1)) dn]?=some p:=#[_,gQe b8]
   have pf:progOf w h ⟨(cp (w.aj.map (·.name)) rn:Nat),(cp (r.ae.map (·.1)) dn:Nat),0,v,0⟩=some c1:=vZ L L u d1
   let hh:=hi.push (f':=#[(cp (w.aj.map (·.name)) rn:Nat),(cp (r.ae.map (·.1)) dn:Nat),0,v,0]) I #[pr,g,rn,dn,t,hp,h1,a4] (by show((cp (w.aj.map (·.name)) rn:Nat):Int)≠-1;omega) #[#[c1,pf,by show(0:Int)<=0;omega,by show(0:Int)<=_;omega],hv,by show(0:Int)<=0/\(0:Int)<=9;omega]
   show#[(x1.hand hw hh).room u N.come,?_,Kp.room (by simp) k L Et.come]
   generalize cp (r.ae.map (·.1)) dn=dd
   generalize cp (w.aj.map (·.name)) rn=i at k
   have eo:yb {s with af:=s.af.set h (vs,fs++ [(#[i,dd,0,v,0]:bG)]),aj:=s.aj.set i (eO rs h)} h=fs.map rc++ [(i:Int)]:=by
     have:=wX (s:={s with aj:=s.aj.set i (eO rs h)}) (h:=h) (p:=(vs,fs++ [(#[i,dd,0,v,0]:bG)])) hl
     rw[Qzq] at this
     rw[show [(i:Int)]= [(#[i,dd,0,v,0]:bG)].map rc by show _= [rc _];rw[lA (by show(i:Int)≠-1;omega)]]
     show this
   have q3:Q2 w s.af.length s.ai s.aj (yb {s with af:=s.af.set h (vs,fs++ [(#[i,dd,0,v,0]:bG)]),aj:=s.aj.set i (eO rs h)}):=by
     show Q2.frames P (h:=h) (λg hg=>?_) J (λj r' hj e=>?_) ?_
     · show wY (s:={s with aj:=s.aj.set i (eO rs h)}) hg
     · rw[eo]
       rcases P.r2 j r' hj with z|⟨g,e',_,hm⟩
       · omega
       · have:g=h:=by omega
         subst this
         rw[ka C] at hm
         show mQa.mpr (.inl hm)
     · rw[eo]
       rw[ka C] at f0
       cases b9:fs.map rc with
       |nil=>rw[b9] at f0;cases f0
       |cons a l=>rw[b9] at f0;show f0
   let q4:=q3.come (h:=h) k hl J (by rw[eo];simp)
   unfold lQ
   show Q2 w (s.af.set h _).length s.ai (s.aj.set i (eO rs h)) _
   rw[List.length_set]
   show q4
 | wait y t=>
   let#[i,r,rs,M,u,k,N,R,X,a1]:=G b.1
   let#[v,hv,U]:=pN<|eC o x C I K b.2.2
   let B:=b.2.1
   rw[X] at B
   let b6:=R.l2
   let lb:=N.lb
   let#[k1,k2]:=gr B
   rw[lQm] at k1
   rw[gQm] at k2
   let#[#[y',so],k3,k4]:=oQm.mp k2
   have k4:y'=y:=k4
   subst k4
   obtain⟨a0,W⟩:∃l,rs.aa[cp (r.aa.map (·.1)) y']?=some l:=#[_,gQe (!0)]
   let ll:=N.bb a0 (mQg W)
   show#[_,λS Q q=>sE C I M u k (!0) lb (!0) B k3 W (!0) U q,?_]
   show#[x1.room u (((N.mono (Nat.le_succ n)).line (by rw[Af];omega)).leave),?_,Kp.room L k L (Et.own a1)]
   show Q2.wait P (h:=h) k u W k3 (λz=>by rw[z,Quq (by decide +kernel)]) hl J (by rw[Z (!0),M])
 | call y=>
   let#[i,r,rs,M,u,k,N,R,X,a1]:=G b.1
   let B:=b.2
   rw[X] at B
   let b6:=R.l2
   let b7:=N.bl
   let lb:=N.lb
   let k1:=(gr B).1
   rw[lQm] at k1
   obtain⟨a0,W⟩:∃l,rs.aa[cp (r.aa.map (·.1)) y]?=some l:=#[_,gQe (!0)]
   show#[_,λS Q q=>rN C I M u k (!0) N.lb (!0) (!0) B q,?_]
   show#[x1.room u N.call,Q2.call P (h:=h) k u W hl J (by rw[Z (!0),M]),Kp.room L k L (Et.own a1)]
 | all y=>
   let#[i,r,rs,M,u,k,N,R,X,a1]:=G b.1
   let B:=b.2
   rw[X] at B
   let b6:=R.l2
   let lb:=N.lb
   let k1:=(gr B).1
   rw[lQm] at k1
   obtain⟨a0,W⟩:∃l,rs.aa[cp (r.aa.map (·.1)) y]?=some l:=#[_,gQe (!0)]
   show#[_,λS Q q=>vT C I M u k (!0) N.lb (!0) B q,?_]
   show#[x1.room u ((N.mono (Nat.le_succ n)).line (by simp)),Q2.all P k W,Kp.room L k L (Et.own a1)]
 | tell t=>
   let#[v,hv,U]:=pN<|eC o x C I K b.2
   show⟨_,λS Q q=>t9 U C I (!0) (!0) q,x1.tells C I hv,P.quiet C (lz I (by
     have a3:f.room≠-1:=by let#[i,r,rs,M,_]:=G b.1;omega
     rw[lA a3];show lA (f:={f with told:=v}) a3)),Kp.aj (by simp) L⟩
 | take y=>
   let B:=b.2
   rw[(H b.1).1] at B
   let#[p,A]:=F y B s.ai lp
   let pl:=x.ps p (mQg A)
   show#[_,λS Q q=>tH B A (!0) (!0) (!0) q,x1.pass (a2 p pl),Q2.take P A hl J (H b.1).2,Kp.aj L L]
 | give y=>
   let B:=b.2
   rw[(H b.1).1] at B
   let#[p,A]:=F y B s.ai lp
   let pl:=x.ps p (mQg A)
   show#[_,λS Q q=>rM B A (!0) (!0) q,x1.pass (Nat.le_succ_of_le (Y p pl)),Q2.give P A,Kp.aj L L]
 | pass y z=>
   let B:=b.2.1
   let hz:=b.2.2
   rw[(H b.1).1] at B hz
   let#[p,A]:=F y B s.ai lp
   let pl:=x.ps p (mQg A)
   have x2:bT w n _:=x.pass (i:=cp (w.ai.map (·.1)) y) (Y p pl)
   let#[p2,a6]:=F z hz (s.ai.set (cp (w.ai.map (·.1)) y) (cZ p)) (by simpa using lp)
   let c3:=x2.ps p2 (mQg a6)
   let q3:=Q2.give P A
   show#[_,λS Q q=>uG B hz A (!0) (!0) (!0) a6 q,(x2.mono (Nat.le_succ n)).pass (a2 p2 c3),Q2.take q3 a6 hl ?_ (H b.1).2,Kp.aj L L]
   intro zz
   let#[d4,e1,e2]:=yi (rs:=s.aj) (np:=cZ p) A
   show J (e1.mem_iff.mpr ?_)
   rcases mQa.mp (e2.mem_iff.mp zz) with zz|zz
   · show mQa.mpr (.inl ?_)
     let#[v,l]:=p
     unfold cZ at zz
     cases l with
     |nil=>cases zz
     |cons a l=>show Qpq _ zz
   · show mQa.mpr (.inr zz)
 |say t=>show#[s,λS Q q=>ve (sd:=.non) q,x1,P,Kp.aj L L]
def Jf(o:bX w)(x:bT w n s)(q2:lQ w s)(hn:n<=800)(hm:h∈jE w s)(A:s.af[h]?=some (vs,fs))(G:fs.getLast? =some f):∃s' e,gU w s h s' e/\bT w (n+1) s'/\lQ w s'/\Kp h s s':=by
 let#[ts,b7,hw,hi]:=x.whand A
 let fi:=hi.fr f (QcQ G)
 let#[pr,M,a8,b2]:=fi.pr
 have hl:h<s.af.length:=(gQs.mp A).1
 let b1:=o.l1
 let b4:=o.l4
 let lr:=x.lr
 let lh:=x.lh
 let lf:=hi.lf
 let mm:=(List.mem_filter.mp hm).2
 rw[QCq] at mm
 have B:(h:Int)∉held s:=by
  intro z
  have:=mm.1
  rw[Qeq z] at this
  cases this
 have nb:¬(f.room= -1/\f.row=pr.length):=by
  rintro⟨c1,c2⟩
  have hb:se w s h=true:=by
   unfold se zL
   rw[A]
   show(match fs.getLast? with|some f=>_|none=>_)=_
   rw[G]
   erw[M,Option.getD_some,c1,c2,decide_true,Bool.and_true]
  rw[hb] at mm
  show absurd mm.2 (!1)
 have row:∀(r:Rw) (e:Xb),Here s h f->pr[f.row.toNat]?=some r->G9 w s h r e->∃s' e,gU w s h s' e/\bT w (n+1) s'/\lQ w s'/\Kp h s s':=λr e u b X=>by
  let I:=(gQs.mp b).1
  let x2:=x.goes A G M (m:=f.row+1) (!0) (!0)
  have q3:lQ w {s with af:=s.af.set h (vs,fs.dropLast++ [{f with row:=f.row+1}])}:=q2.quiet A (lz G L)
  let#[s',hd,N,W,F]:=JR (f:={f with row:=f.row+1}) (r:=r) (pr:=pr) o x2 q3 B hn u (Qyq hl) (by simp) M (by show 1<=f.row+1;omega) (by show pr[(f.row+1-1).toNat]?=_;rw[show f.row+1-1=f.row by omega];show b)
  show#[s',e,uI A G u M a8 b (!0) (!0) X hd,N,W,#[F.1.trans (by simp),F.2.1,F.2.2]]
 let#[d,a6,a5]:=vS o M
 have K:∀r,pr[f.row.toNat]?=some r->∃e,G9 w s h r e:=λr b=>by
  let Y:=a5 r (mQg b)
  cases r with
  | say t=>
    let#[v,hv,hr]:=pN<|eC o x A G a6 Y.2
    show#[some v,v,L,hr]
  |_=>show#[none,L]
 by_cases c:f.room= -1
 ·have I:f.row.toNat<pr.length:=by
   have:f.row≠pr.length:=λz=>nb #[c,z]
   omega
  have b:pr[f.row.toNat]?=some (pr[f.row.toNat]):=gQe I
  let#[e,X]:=K _ b
  show row _ e (.inl c) b X
 ·rcases jI M with⟨c',_⟩|⟨i,j,r,dn,h1,h2,h3,h4⟩
  ·show absurd c' c
  let#[C,p,ri]:=x.wroom h3
  let br:=ri.br
  have U:(yb s h).getLast? =some (i:Int):=by rw[ka A,QfQ,G,<-h1];show congrArg some (lA c)
  by_cases cw:C.within=h
  ·have u:Here s h f:=.inr #[i,C,h1,p,cw]
   by_cases ce:f.row=pr.length
   ·let a1:=fA G
    let hd:=hi.hd
    rw[a1] at hd
    let#[H,J,hg]:=hd.two c
    have a7:fs=H++ [J,f]:=by rw[a1,hg];simp
    subst a7
    let#[a4,a9]:=hi.pop
    let#[b6,g,rn,b5,t,p1,p2,p3]:=a9
    have x2:bT w n {s with aj:=s.aj.set i (bq C),af:=s.af.set h (vs,H++ [J])}:=(x.hand hw a4).room h3 ri.leave
    let ql:=Q2.leave q2 p
    have R:(h:Int)∉W28.hl s.ai (s.aj.set i (bq C)):=by
     intro z
     let#[b0,e1,e2]:=qW (ps:=s.ai) (nr:=bq C) p
     show B (e1.mem_iff.mpr ?_)
     rcases mQa.mp (e2.mem_iff.mp z) with z|z
     ·show mQa.mpr (.inl ?_)
      rcases leave_held C with⟨a,P,_⟩|⟨X,_⟩
      ·show P.mem_iff.mpr (Qpq _ z)
      ·rw[<-X];show z
     ·show mQa.mpr (.inr z)
    have q3:lQ w {s with aj:=s.aj.set i (bq C),af:=s.af.set h (vs,H++ [J])}:=by
     have eo:yb {s with aj:=s.aj.set i (bq C),af:=s.af.set h (vs,H++ [J])} h=(H++ [J]).map rc:=wX (s:={s with aj:=s.aj.set i (bq C)}) hl
     unfold lQ
     show Q2 w (s.af.set h _).length s.ai (s.aj.set i (bq C)) _
     rw[List.length_set]
     show Q2.frames ql (h:=h) (λg hg=>wY (s:={s with aj:=s.aj.set i (bq C)}) hg) R (λj r' hj e=>?_) ?_
     ·rw[eo]
      rcases get_set hj with⟨rfl,rfl⟩|⟨hne,hj⟩
      ·exfalso
       rcases leave_held C with⟨a,P,Z⟩|⟨_,Z,_⟩
       ·rw[Z] at e
        show B (gF (fr:=yb s) q2 p ?_)
        rw[<-e]
        show P.mem_iff.mpr (QBq ..)
       ·rw[Z] at e
        omega
      ·rcases q2.r2 j r' hj with z|⟨g',e',_,k⟩
       ·omega
       ·have:g'=h:=by omega
        subst this
        rw[ka A,show H++ [J,f]=(H++ [J])++ [f] by simp,Qzq] at k
        rcases mQa.mp k with k|k
        ·show k
        ·let k:=Qfq.mp (show(j:Int)∈[rc f] from k)
         rw[lA c,h1] at k
         show absurd (by omega:j=i) hne
     ·rw[eo]
      let f0:=q2.fo h hl
      rw[ka A] at f0
      cases H with
      |nil=>show f0
      |cons a l=>show f0
    let#[b3,a2,a0]:=vS o p1
    let Y:=a0 _ (mQg p3)
    cases g with
    | none=>
      show#[_,none,oo A G u M ce λS Q q=>ir A h1 p (!0) (!0) p1 p2 p3 (λ_ e=>e.symm) q,x2.mono (Nat.le_succ n),q3,Kp.room (by simp) p L (Et.own cw)]
    | some y=>
      let#[s',a3,N,W,F]:=Dr (y:=y) (v:=f.told) o x2 q3 (Qyq hl) (by simp) a2 (Y.1 y L) fi.tv
      show#[s',none,oo A G u M ce λS Q q=>ir A h1 p (!0) (!0) p1 p2 p3 (λ_ e=>by rw[e];show a3) q,N.mono (Nat.le_succ n),W,(Kp.room (s':={s with aj:=s.aj.set i (bq C),af:=s.af.set h (vs,H++ [J])}) (by simp) p L (Et.own cw)).v F]
   ·have I:f.row.toNat<pr.length:=by omega
    have b:pr[f.row.toNat]?=some (pr[f.row.toNat]):=gQe I
    let#[e,X]:=K _ b
    show row _ e u b X
  ·show#[_,none,vd A G h1 p cw (!0) (!0),(x.mono (Nat.le_succ n)).room h3 ri.come,Q2.come q2 (h:=h) p hl B U,Kp.room L p L Et.come]
end
end W28
namespace DL
open L2
section
variable{a:cf}{S:az}
def Kc{f:dU}{Q:(List D×(az->Prop))->az->Prop}(h:E f a S λp b=>Q (oA 0 p.1,λc=>p.2.stays c p.1) b):E (Cp f) a S Q:=by
 let#[p,b,d,q]:=h
 show#[_,b,by unfold Cp;rw[d];rfl,q]
def KZ{f:dU}{Q:D->az->Prop}(h:E f a S λp b=>p.2.isL=true/\∃bs,M0 p.1=some bs/\Q (.bl (bs.all id)) b):E (He f) a S Q:=by
 let#[p,b,c,l,bs,d,q]:=h
 show#[_,b,by unfold He;rw[c];erw[Qbq];rw[Qhq l,d];rfl,q]
def NJ{i j:Int}{Q:D->Prop}(h:GW i j)(q:Q (.int (i^j.toNat))):Op (Ke S (.int i) (.int j)) Q:=#[_,by erw[Ke,intD];rw[Qhq h],q]
end
theorem tV:∀n:Nat,M0 (List.replicate n (.bl true))=some (List.replicate n true)
 |0=>rfl
 |n+1=>by erw[QNq,M0];rw[tV n];rfl
end DL
namespace W28
open L2 DL
section
variable{S a:az}{Q:Res->az->Prop}
def vy(l:List Nat):l.map fS=(l.map λh:Nat=>(h:Int)).map D.int:=by rw[QPq];rfl
end
end W28
namespace DL
open L2
def FR{S:az}{k:Nat}{ds:List D}{Q:List D×Tag->Prop}(a:S[k]?=some (.frz ds))(q:Q (ds,.fz k)):Op (t_ S (.ref k)) Q:=#[_,by erw[t_,a],q]
def OO{S:az}{k:Nat}{ds:List D}{i:Int}{d:D}{Q:D->Prop}(a:S[k]?=some (.frz ds))(h:nT ds i=some d)(q:Q d):Op (qT S (.ref k) (.int i)) Q:=#[_,by erw[qT,a];show h,q]
def KY{i:Int}{Q:D->Prop}(q:Q (.int (if i<0 then -i else i))):Op (Gk [.int i]) Q:=#[_,L,q]
end DL
namespace W28
open L2 DL
section
variable{S:az}{Q:Res->az->Prop}
def Lo{ns:List Int}{k:Nat}(e:k<100)(f:S[0]?=some (.frz (ns.map D.int)))(q:∀a b:Int,Q (.l [.int a,.int b,.int 0]) S):Fn lE [.ref 0,.int k] S Q:=by
 show bP ?_
 unfold p7
 show aK (eZ (uO ?_))
 show aK (T.mono (Q:=λo=>∃d:Int,o=.nx [some (.ref 0),some (.int k),some (.int d)] S) ?_ ?_)
 ·apply ed (cu (fh (aA L (tM (fP (aA L (FR f ?_)))))))
  rw[lQm]
  by_cases c:(k:Int)<ns.length
  ·rw[Qeq c,Qhq L]
   have e:k<ns.length:=by omega
   symm
   show OO f (aP (x:=.int ns[k]) (by rw[gQm,gQe e];rfl)) ?_
   show#[_,L]
  ·rw[Qdq c,Quq (!1)]
   show cq #[_,L]
 rintro _ ⟨d,rfl⟩
 dsimp only[bF,aW,bH,cO,c_,iO]
 symm
 apply KY ?_
 apply KY ?_
 show NJ #[by decide,by decide,by decide] ?_
 generalize (10:Int)^(18:Int).toNat=c2
 generalize (if d<0 then -d else d)=c1
 symm
 show Gm ?_
 have g:HY c1 (if decide (c2<=c1)=true then 1 else 0):=by
  right
  split <;>decide
 generalize (if decide (c2<=c1)=true then(1:Int) else 0)=c3 at g|-
 apply jR g ?_
 apply j6 (!1) ?_
 apply jR (.inl #[by decide,by decide]) ?_
 have h:0<=d%2147483629:=Int.emod_nonneg _ (!1)
 have i:d%2147483629<2147483629:=Int.emod_lt_of_pos _ (!1)
 apply jR (.inl #[by omega,by omega]) ?_
 apply jR (.inr #[by decide,by decide]) ?_
 apply j6 (!1) ?_
 show#[by show 3<=_;decide,?_]
 show FE L (q _ _)
end
end W28
namespace DL
open L2
section
variable{a:cf}{S:az}
def N_{f g h:aU}{Q:Out->Prop}(w:E h a S λd c=>E f a c λx S2=>E g a S2 λy b=>∃k l z,x=.ref k/\y=.int z/\b[k]?=some (.dct l)/\l.length<sizeLine/\Q (.nx a (b.set k (.dct (putD l (.inl z) d))))):T (MO f g h) a S Q:=by
 let#[d,c,e,x,S2,j,y,b,i,k,l,z,rfl,rfl,h1,h2,q]:=w
 show#[_,by unfold MO;rw[e];erw[Qbq];rw[j];erw[Qbq];rw[i];erw[Qbq,h1,oH];rw[Qhq h2],q]
def NN{f g:aU}{Q:D->az->Prop}(h:E f a S λx b=>E g a b λy S2=>∃k l z v,x=.ref k/\y=.int z/\S2[k]?=some (.dct l)/\g8 l (.inl z)=some v/\Q v S2):E (Ky f g) a S Q:=by
 let#[x,b,c,y,S2,d,k,l,z,v,rfl,rfl,h1,h2,q]:=h
 show#[_,_,by unfold Ky;rw[c];erw[Qbq];rw[d];erw[Qbq,h1,oH];rw[h2];rfl,q]
def LH{f g:aU}{Q:D->az->Prop}(h:E f a S λy b=>E g a b λx S2=>∃k l z,x=.ref k/\y=.int z/\S2[k]?=some (.dct l)/\Q (.bl (g8 l (.inl z)).isSome) S2):E (GO f g) a S Q:=by
 let#[y,b,c,x,S2,d,k,l,z,rfl,rfl,h1,q]:=h
 show#[_,_,by unfold GO;rw[c];erw[Qbq];rw[d];erw[Qbq,h1,oH],q]
def LI{f:aU}{Q:D->az->Prop}(h:E f a S λx b=>∃k l,x=.ref k/\b[k]?=some (.dct l)/\Q (.int l.length) b):E (IT f) a S Q:=by
 let#[x,b,c,k,l,rfl,h1,q]:=h
 show#[_,_,by unfold IT;rw[c];erw[Qbq,Aa,h1],q]
theorem K2{c:iH}{b:cH}{Q:Out->Prop}(I:Nat->cf->az->Prop)(l:∀m a S,I m a S->E c a S λk g=>if k=true then T b a g λo=>match o with|.nx e S2=>∃f,m=f+1/\I f e S2|.rt d S2=>Q (.rt d S2)|_=>False else Q (.nx a g)):
  ∀(n m:Nat) (a:cf) (S:az),m<n->I m a S->T (AH c b n) a S Q
 |0,_,_,_,h,_=>absurd h (Nat.not_lt_zero _)
 | n+1,m,a,S,h,hi=>by
   let#[k,g,i,q]:=l m a S hi
   cases k with
   |false=>show#[_,by erw[AH];rw[i];rfl,q]
   | true=>
     let#[o,j,q]:=(q:T b a g _)
     cases o with
     | nx e S2=>
       let#[f,rfl,q]:=(q:∃f,m=f+1/\I f e S2)
       let#[o,p,q]:=K2 I l n f e S2 (!0) q
       show#[o,by erw[AH];rw[i];erw[Qbq,if_true];rw[j];show p,q]
     |rt d S2=>show#[_,by erw[AH];rw[i];erw[Qbq,if_true];rw[j];rfl,q]
     |_=>show q.elim
def NS{n:Nat}{b:cH}{ds:List D}{S:az}{Q:Res->az->Prop}(h:T b (ds.map some++List.replicate (n-ds.length) none) S λo=>match o with|.nx _ c=>Q (.d .non) c|.rt d c=>Q (.d d) c|.rl l c=>Q (.l l) c|_=>False):Fn (M8 n b) ds S Q:=by
 let#[o,e,q]:=h
 cases o with
 |nx _ c=>show#[_,_,by unfold M8;rw[e];rfl,q]
 |rt d c=>show#[_,_,by unfold M8;rw[e];rfl,q]
 |rl l c=>show#[_,_,by unfold M8;rw[e];rfl,q]
 |_=>show q.elim
end
theorem fW{α:Type}{f:α->D}{g:α->PyData}:∀{l:List α},(∀a∈l,fj (f a)=some (g a))->dH (l.map f)=some (l.map g)
 | [],_=>rfl
 | a::l,h=>by
   erw[QDq,dH]
   rw[h a (QBq ..),fW λb c=>h b (Qpq _ c)]
   rfl
theorem iq{α:Type}{g:α->PyData}{n:Nat}:∀{l:List α},(∀a∈l,ST.nu n (g a)=true)->ST.lR n (l.map g)=true
 | [],_=>by simp[ST.lR]
 | a::l,h=>by
   erw[QDq,ST.lR,QCq]
   show#[h a (QBq ..),iq λb c=>h b (Qpq _ c)]
theorem map_inj{α d:Type}{g:α->d}(c:∀a b,g a=g b->a=b):∀{l m:List α},l.map g=m.map g->l=m
 | [],[],_=>rfl
 | a::l,b::m,h=>by
   erw[QDq,List.cons.injEq] at h
   rw[c a b h.1,map_inj c h.2]
 | [],_::_,h=>by simp at h
 |_::_,[],h=>by simp at h
end DL
namespace W28
open L2 DL
noncomputable def jk(l:List Int):PyData:=.tuple (l.map .int)
noncomputable def bG.p(f:bG):PyData:=.tuple [.int f.room,.int f.deed,.int f.row,.int f.given,.int f.told]
noncomputable def qi(p:Int×Int):PyData:=.tuple [.int p.1,.int p.2]
noncomputable def oB(l:List (Int×Int)):PyData:=.tuple (l.map qi)
noncomputable def bO.p(r:bO):PyData:=.tuple [jk r.vals,.int r.within,jk r.row,jk r.ag,.tuple (r.aa.map oB)]
noncomputable def Ic(p:Int×List Int):PyData:=.tuple [.int p.1,jk p.2]
noncomputable def Jq(h:List Int×List bG):PyData:=.tuple [jk h.1,.tuple (h.2.map bG.p)]
noncomputable def aE.p(s:aE):PyData:=.tuple [.tuple (s.aj.map bO.p),.tuple (s.ai.map Ic),jk s.ak,.tuple (s.af.map Jq)]
def ja(l:List Int):fj (bQ l)=some (jk l):=by
 unfold bQ jk
 erw[fj]
 rw[fW (g:=PyData.int) λ_ _=>rfl]
 rfl
def kX(n:Nat)(l:List Int):ST.nu (n+1) (jk l)=true:=by
 unfold jk
 erw[ST.nu]
 show iq λ_ _=>by simp[ST.nu]
def Jk(f:bG):fj f.d=some f.p:=by simp[bG.d,bG.p,fj,dH]
def MR(n:Nat)(f:bG):ST.nu (n+1) f.p=true:=by simp[bG.p,ST.nu,ST.lR]
def Gj(p:Int×Int):fj (pairD p)=some (qi p):=by simp[pairD,qi,fj,dH]
def Hi(l:List (Int×Int)):fj (dC l)=some (oB l):=by
 unfold dC oB
 erw[fj]
 rw[fW (g:=qi) λp _=>Gj p]
 rfl
def JO(n:Nat)(l:List (Int×Int)):ST.nu (n+2) (oB l)=true:=by
 unfold oB
 erw[ST.nu]
 show iq λ_ _=>by simp[qi,ST.nu,ST.lR]
def IW(r:bO):fj r.d=some r.p:=by
 unfold bO.d bO.p
 erw[fj,dH]
 rw[ja,ja,ja,fW (g:=oB) λl _=>Hi l]
 rfl
def LF(n:Nat)(r:bO):ST.nu (n+4) r.p=true:=by
 unfold bO.p
 erw[ST.nu,ST.lR,QCq]
 show#[kX _ _,trivial,kX _ _,kX _ _,iq λl _=>JO n l,trivial]
def Ms(p:Int×List Int):fj (AD p)=some (Ic p):=by
 unfold AD Ic
 erw[fj,dH]
 rw[ja]
 rfl
def PH(n:Nat)(p:Int×List Int):ST.nu (n+2) (Ic p)=true:=by
 unfold Ic
 erw[ST.nu,ST.lR,QCq]
 show#[trivial,kX _ _,trivial]
def Nc(h:List Int×List bG):fj (AF h)=some (Jq h):=by
 unfold AF Jq
 erw[fj,dH]
 rw[ja,fW (g:=bG.p) λf _=>Jk f]
 rfl
def Pm(n:Nat)(h:List Int×List bG):ST.nu (n+3) (Jq h)=true:=by
 unfold Jq
 erw[ST.nu,ST.lR,QCq]
 show#[kX _ _,iq λf _=>MR n f,trivial]
def aE.num(s:aE):fj s.d=some s.p:=by
 unfold aE.d aE.p
 erw[fj,dH]
 rw[fW (g:=bO.p) λr _=>IW r,fW (g:=Ic) λp _=>Ms p,ja,fW (g:=Jq) λh _=>Nc h]
 rfl
def aE.nu(s:aE):ST.nu 8 s.p=true:=by
 unfold aE.p
 erw[ST.nu,ST.lR,QCq]
 show#[iq λr _=>LF 2 r,iq λp _=>PH 4 p,kX _ _,iq λh _=>Pm 3 h,trivial]
def jn{l m:List Int}(h:jk l=jk m):l=m:=by
 unfold jk at h
 injection h with h
 show map_inj (λa b e=>by injection e) h
def Fo(a b:Int×Int)(h:qi a=qi b):a=b:=by
 let#[e,d]:=a
 let#[c,f]:=b
 simp[qi] at h
 rw[h.1,h.2]
def FZ(l m:List (Int×Int))(h:oB l=oB m):l=m:=by
 unfold oB at h
 injection h with h
 show map_inj Fo h
def Il(a b:bG)(h:a.p=b.p):a=b:=by
 let#[g,f,k,c,m]:=a
 let#[d,i,l,j,e]:=b
 simp[bG.p] at h
 let#[rfl,rfl,rfl,rfl,rfl]:=h
 rfl
def Je(a b:bO)(h:a.p=b.p):a=b:=by
 let#[m,l,q,i,s]:=a
 let#[j,n,r,o,k]:=b
 unfold bO.p at h
 injection h with h
 erw[List.cons.injEq,and_true] at h
 let#[f,c,g,e,d]:=h
 injection c with c
 injection d with d
 rw[jn f,jn g,jn e,map_inj FZ d,c]
def Ln(a b:Int×List Int)(h:Ic a=Ic b):a=b:=by
 let#[g,f]:=a
 let#[e,i]:=b
 unfold Ic at h
 injection h with h
 erw[List.cons.injEq,and_true] at h
 let#[c,d]:=h
 injection c with c
 rw[jn d,c]
def ME(a b:List Int×List bG)(h:Jq a=Jq b):a=b:=by
 let#[g,f]:=a
 let#[e,i]:=b
 unfold Jq at h
 injection h with h
 erw[List.cons.injEq,and_true] at h
 let#[d,c]:=h
 injection c with c
 rw[jn d,map_inj Il c]
def aE.inj{a b:aE}(h:a.p=b.p):a=b:=by
 let#[k,j,n,g]:=a
 let#[i,l,o,m]:=b
 unfold aE.p at h
 injection h with h
 erw[List.cons.injEq,and_true] at h
 let#[e,c,f,d]:=h
 injection e with e
 injection c with c
 injection d with d
 rw[map_inj Je e,map_inj Ln c,jn f,map_inj ME d]
def aE.injD{a b:aE}(h:a.d=b.d):a=b:=by
 have:=a.num
 rw[h,b.num] at this
 show(aE.inj (QdQ this)).symm
def Cd{b:List aE}{s:aE}:oz (b.map aE.d) s.p=true↔s∈b:=by
 unfold oz
 rw[List.any_map,List.any_eq_true]
 constructor
 ·rintro⟨a,c,e⟩
  have e:(match fj a.d with|some q=>PyData.eqv q s.p|none=>false)=true:=e
  rw[a.num] at e
  have:=aE.inj (ST.HB a.nu s.nu e)
  subst this
  show c
 ·intro h
  show#[s,h,?_]
  show(match fj s.d with|some q=>PyData.eqv q s.p|none=>false)=true
  rw[s.num]
  show SeqAt.eqv_refl _ (ST.mC s.nu).1
def pq{w:bD}{s c b:aE}{h:Nat}{f e:Xb}(k:gU w s h c f)(j:gU w s h b e):c=b:=by
 let#[m,p,l,i]:=k [] (λr _=>r=.d (J0 c h f)) L
 let#[o,n,g,a]:=j [] (λr _=>r=.d (J0 b h e)) L
 rw[l] at g
 cases g
 rw[i] at a
 unfold J0 at a
 injection a with a
 injection a with a
 erw[List.cons.injEq] at a
 show aE.injD a.1
def Nx(w:bD)(s s':aE):Prop:=∃h e,h∈jE w s/\gU w s h s' e
inductive Rc(w:bD)(s:aE):aE->Prop
 |refl:Rc w s s
 |step {s1 s2:aE}:Rc w s s1->Nx w s1 s2->Rc w s s2
def Gd(w:bD)(n:Nat)(s:aE):Prop:=bT w n s/\lQ w s
def Gd.mono{w:bD}{n m:Nat}{s:aE}(x:Gd w n s)(l:n<=m):Gd w m s:=⟨x.1.mono l,x.2⟩
def Gd.next{w:bD}{n h:Nat}{s:aE}(o:bX w)(x:Gd w n s)(l:n<=800)(b:h∈jE w s):∃s' e,gU w s h s' e/\Gd w (n+1) s'/\Kp h s s':=by
 have hl:h<s.af.length:=List.mem_range.mp (List.mem_filter.mp b).1
 obtain⟨⟨m,t⟩,a⟩:∃p,s.af[h]?=some p:=#[_,gQe hl]
 let#[u,q,r,k]:=x.1.whand a
 let#[f,i,v]:=k.last
 let#[s',e,g,c,j,d]:=Jf o x.1 x.2 l b a i
 show#[s',e,g,#[c,j],d]
noncomputable def Em(p:aE×Int×Int):D:=.tup [p.1.d,.int p.2.1,.int p.2.2]
structure Cm(w:bD)(n:Nat)(s0:aE)(k:Nat)(fs:List (aE×Int×Int)):Prop where
 hd:∃o h,fs[0]?=some (s0,o,h)
 nd:(fs.map (·.1)).Nodup
 rc:∀(i:Nat) (p:aE×Int×Int),fs[i]?=some p->Rc w s0 p.1/\Gd w (n+i) p.1
 cl:∀(i:Nat) (p:aE×Int×Int),i<k->fs[i]?=some p->∀s',Nx w p.1 s'->s'∈fs.map (·.1)
section
variable{w:bD}{n:Nat}{s0:aE}{S:az}{Q:Res->az->Prop}
def Cm.all{fs:List (aE×Int×Int)}(x:Cm w n s0 fs.length fs){s:aE}(h:Rc w s0 s):s∈fs.map (·.1):=by
 induction h with
 | refl=>
   let#[o,h,e]:=x.hd
   show Qkq.mpr #[_,mQg e,L]
 | step _ d c=>
   let#[p,b,rfl]:=Qkq.mp c
   let#[i,a]:=List.getElem?_of_mem b
   show x.cl i p (gQs.mp a).1 a _ d
def JS(o:bX w){s:aE}(x:bT w n s):(jE w s).length<=4:=by
 let a:=List.length_filter_le (λh:Nat=> !decide ((h:Int)∈held s)&& !se w s h) (List.range s.af.length)
 let b:=x.lh
 let c:=o.l4
 rw[QVq] at a
 unfold jE
 omega
def Cm.add{k:Nat}{fs:List (aE×Int×Int)}{s':aE}{a b:Int}(x:Cm w n s0 k fs)(s:s'∉fs.map (·.1))(q:Rc w s0 s')(l:Gd w (n+fs.length) s')(u:k<=fs.length):Cm w n s0 k (fs++ [(s',a,b)]):=by
 show#[?_,?_,λi p f=>?_,λi p r f m j=>?_]
 ·let#[o,h,e]:=x.hd
  show#[o,h,by rw[QHq (gQs.mp e).1];show e]
 ·rw[Qzq,List.nodup_append]
  show#[x.nd,by simp,λc t d g=>?_]
  have g:d=s':=by simpa using g
  subst g
  show λz=>s (z▸t)
 ·by_cases c:i<fs.length
  ·rw[QHq c] at f
   show x.rc i p f
  ·rw[QQq (!0)] at f
   have z:i-fs.length=0:=by have:=(gQs.mp f).1;simp at this;omega
   rw[z] at f
   cases f
   have:i=fs.length:=by omega
   subst this
   show#[q,l]
 ·rw[QHq (!0)] at f
  rw[Qzq]
  show mQa.mpr (.inl (x.cl i p r f m j))
def Kf(o:bX w)(x:Gd w n s0){a:Nat}(hm:a<=400)(hn:n<=300)
  (q:∀(fs:List (aE×Int×Int)) (g:az),lL S g->g[S.length+1]?=some (.lst (fs.map Em))->(∃k,Cm w n s0 k fs/\(fs.length<=a->k=fs.length))->fs.length<=500->Q (.d (if fs.length<=a then .ref (S.length+1) else .non)) g):Fn nq [w.d,s0.d,.int a] S Q:=by
 show NS ?_
 unfold y9
 show aK (eZ (QX ?_))
 show aK (si (K7 (aA L #[_,_,L,aX,aA L #[_,_,s0.p,L,aX,s0.num,#[s0.nu,Nat.zero_le _],?_]])))
 have e0:(S++ [O.sett []]).set S.length (.sett (if oz [] s0.p=true then [] else []++ [s0.d]))=S++ [O.sett [s0.d]]:=by
  rw[List.set_append_right _ _ (Qmq _)]
  simp[oz]
 show T _ _ ((S++ [O.sett []]).set S.length (.sett (if oz [] s0.p=true then [] else []++ [s0.d]))) _
 rw[e0]
 show aK (eZ (l8 (k_ (aQ (vX (aQ (aA L (aQ (qw (uO #[_,L,aQ (qw (uO #[_,L,cG #[by show 3<=_;decide,cG #[by show 1<=_;decide,?_]]]))]))))))))))
 show aK (eZ (uO ?_))
 have R:(S++ [O.sett [s0.d]]).length=S.length+1:=by simp
 have a1:((S++ [O.sett [s0.d]])++ [O.lst [Em (s0,-1,-1)]])[S.length]?=some (.sett [s0.d]):=di aX
 have W:((S++ [O.sett [s0.d]])++ [O.lst [Em (s0,-1,-1)]])[S.length+1]?=some (.lst [Em (s0,-1,-1)]):=by rw[<-R];show aX
 have a4:lL S ((S++ [O.sett [s0.d]])++ [O.lst [Em (s0,-1,-1)]]):=lL.refl.app.app
 show T _ [some w.d,some s0.d,some (.int a),some (.ref S.length),some (.ref (S++ [O.sett [s0.d]]).length),some (.int 0),none,none,none,none] ((S++ [O.sett [s0.d]])++ [O.lst [Em (s0,-1,-1)]]) _
 rw[R]
 generalize (S++ [O.sett [s0.d]])++ [O.lst [Em (s0,-1,-1)]]=S1 at a1 W a4|-
 have b4:Cm w n s0 0 [(s0,-1,-1)]:=by
  show#[#[_,_,L],by simp,λi p J=>?_,λi p hi=>absurd hi (Nat.not_lt_zero _)]
  cases i with
  |zero=>cases J;show#[.refl,x]
  |succ i=>simp at J
 have a3:∀(fs:List (aE×Int×Int)) (g:az) (k:Nat) (a5 a6 M K Z:Option D),lL S g->g[S.length+1]?=some (.lst (fs.map Em))->Cm w n s0 k fs->(fs.length<=a->k=fs.length)->fs.length<=500->
   T (cQ (tf (aS (bf Nn (hZ (bL (ar 4))) (ar 2))) (ar 4) (cF .non))) [some w.d,some s0.d,some (.int a),some (.ref S.length),some (.ref (S.length+1)),a5,a6,M,K,Z] g (λo=>match o with|.nx _ g=>Q (.d .non) g|.rt d g=>Q (.d d) g|.rl l g=>Q (.l l) g|_=>False):=by
  intro fs g k a5 a6 M K Z X hf I hk hl
  let qq:=q fs g X hf #[k,I,hk] hl
  show gA (PB (cu (fh (tM (fP (aA L (dj hf (aA L (ua ?_)))))))))
  rw[lQm]
  show aY (λc=>?_) (λc=>?_)
  ·have c:fs.length<=a:=by have:=QZq c;omega
   rw[Qhq c] at qq
   show aA L qq
  ·have c:¬fs.length<=a:=λz=>by have:=QaQ c;omega
   rw[Quq c] at qq
   show uO qq
 show aK (Lm (λm r g=>∃(fs:List (aE×Int×Int)) (k:Nat) (a6 M K Z:Option D),r= [some w.d,some s0.d,some (.int a),some (.ref S.length),some (.ref (S.length+1)),some (.int k),a6,M,K,Z]/\lL S g/\g[S.length]?=some (.sett ((fs.map (·.1)).map aE.d))/\g[S.length+1]?=some (.lst (fs.map Em))/\Cm w n s0 k fs/\k<=fs.length/\m+k=a/\fs.length<=a+4) (λm r g hI=>?_) 500 a _ _ (!0) #[[(s0,-1,-1)],0,_,_,_,_,L,a4,a1,W,b4,Nat.zero_le _,L,by simp])
 let#[fs,k,a6,M,K,Z,rfl,X,hS,hF,I,hk,hmk,hfl]:=hI
 show wc (cu (fh (aA L (tM (fP (aA L (dj hF (ua ?_))))))))
 rw[lQm]
 show aY (λc=>?_) (λc=>?_)
 ·have c:k<fs.length:=by have:=QZq c;omega
  show cu (fh (tM (fP (aA L (dj hF (aA L (ua ?_)))))))
  rw[lQm]
  show aY (λH=>?_) (λH=>?_)
  ·have H:fs.length<=a:=by have:=QZq H;omega
   obtain⟨m',rfl⟩:∃m',m=m'+1:=⟨m-1,by omega⟩
   show⟨m',L,?_⟩
   obtain⟨p,J⟩:∃p,fs[k]?=some p:=#[_,gQe c]
   let#[b1,F]:=I.rc k p J
   show aK (eZ (fh (fh (aA L (aA L (ie (d:=Em p) hF (aP (by rw[gQm,J];rfl)) (uO (av (d:=p.1.d) L ?_))))))))
   let G:=F.1.mays o (!0)
   let b5:=JS o F.1
   show aK (kN (uA (sO (q_ (aQ (aA L (aQ (aA L (cG ?_)))))))))
   show G _ _ ?_
   show#[λj r t=>∃(b:List (aE×Int×Int)) (b7 b8 b9:Option D),r= [some w.d,some s0.d,some (.int a),some (.ref S.length),some (.ref (S.length+1)),some (.int k),some p.1.d,b7,b8,b9]/\lL S t/\t[S.length]?=some (.sett ((b.map (·.1)).map aE.d))/\t[S.length+1]?=some (.lst (b.map Em))/\Cm w n s0 k b/\fs <+: b/\b.length<=fs.length+j/\∀i h,i<j->(jE w p.1)[i]?=some h->∀f e,gU w p.1 h f e->f∈b.map (·.1),#[fs,_,_,_,L,X,hS,hF,I,List.prefix_refl _,Qmq _,λi h hi=>absurd hi (Nat.not_lt_zero _)],λ_ _ _ _=>trivial,?_,?_]
   ·rintro j d r t hd ⟨b,b7,b8,b9,rfl,be2,hS2,hF2,cm2,pre,gl,done⟩
    rw[gQm] at hd
    let#[h,hh,rfl]:=oQm.mp hd
    let hj:=(gQs.mp hh).1
    let A:=mQg hh
    let#[f,e,s,b0,_]:=F.next o (!0) A
    let b3:=pre.length_le
    have U:∀(v:List (aE×Int×Int)),b <+: v->f∈v.map (·.1)->∀i h0,i<j+1->(jE w p.1)[i]?=some h0->∀s1 e1,gU w p.1 h0 s1 e1->s1∈v.map (·.1):=λv u b2 i h0 hi h1 s1 e1 B=>by
     by_cases ci:i=j
     ·subst ci
      rw[hh] at h1
      cases h1
      rw[pq B s]
      show b2
     ·show(List.IsPrefix.map (·.1) u).subset (done i h0 (!0) h1 s1 e1 B)
    show aN ?_
    show aK (L_ (gn (aQ (aA L (aQ (aA L (aQ (aA L (cG ?_)))))))))
    show s _ _ ?_
    show d_ L (au (aN (au (aN (aZ ?_)))))
    show ed (cu (Og (aA L (aA L #[_,_,_,f.p,L,L,hS2,f.num,#[f.nu,by rw[lQm,lQm];omega],?_]))))
    show aY (λC=>?_) (λC=>?_)
    ·have C:¬oz ((b.map (·.1)).map aE.d) f.p=true:=by simpa using C
     have a0:f∉b.map (·.1):=λz=>C (Cd.mpr z)
     show aK (si (K7 (aA L #[_,_,L,hS2,aA L #[_,_,f.p,L,hS2,f.num,#[f.nu,by rw[lQm,lQm];omega],?_]])))
     rw[Quq C]
     have y:(t.set S.length (.sett ((b.map (·.1)).map aE.d++ [f.d])))[S.length+1]?=some (.lst (b.map Em)):=mq (!0) hF2
     have P:(t.set S.length (.sett ((b.map (·.1)).map aE.d++ [f.d])))[S.length]?=some (.sett ((b.map (·.1)).map aE.d++ [f.d])):=jK hS2
     have a2:lL S (t.set S.length (.sett ((b.map (·.1)).map aE.d++ [f.d]))):=be2.put (Qmq _)
     show T _ _ (t.set S.length (.sett ((b.map (·.1)).map aE.d++ [f.d]))) _
     generalize t.set S.length (.sett ((b.map (·.1)).map aE.d++ [f.d]))=S3 at y P a2|-
     show si (AN (aA L #[_,_,L,y,aQ (vX (aQ (aA L (aQ (aA L (aQ (aA L (cG #[by show 3<=_;decide,cG ?_]))))))))]))
     show#[_,y,oT (by rw[lQm];show bj (!0)) ?_]
     show#[b++ [(f,(k:Int),(h:Int))],_,_,_,L,a2.put (!0),mq (!0) (by rw[Qzq,Qzq];show P),?_,cm2.add a0 (.step b1 #[h,e,A,s]) (b0.mono (!0)) (!0),pre.trans (List.prefix_append _ _),by rw[lQa];simp;omega,U _ (List.prefix_append _ _) (by rw[Qzq];simp)]
     rw[jK y,Qzq]
     rfl
    ·have C:oz ((b.map (·.1)).map aE.d) f.p=true:=by simpa using C
     show cq #[b,_,_,_,L,be2,hS2,hF2,cm2,pre,by omega,U b (List.prefix_refl _) (Cd.mp C)]
   ·rintro r t ⟨b,b7,b8,b9,rfl,be2,hS2,hF2,cm2,pre,gl,done⟩
    rw[lQm] at gl done
    show Rn (m:=(k:Int)) L (uO #[1,L,?_])
    let b3:=pre.length_le
    show#[b,k+1,_,_,_,_,L,be2,hS2,hF2,#[cm2.hd,cm2.nd,cm2.rc,λi p' hi u f Y=>?_],by omega,by omega,by omega]
    by_cases ci:i=k
    ·subst ci
     have:p'=p:=by
      have:=cn pre J
      rw[u] at this
      show QdQ this
     subst this
     let#[h,e,A,s]:=Y
     let#[i',N]:=List.getElem?_of_mem A
     show done i' h (gQs.mp N).1 N f e s
    ·show cm2.cl i p' (!0) u f Y
  ·have H:¬fs.length<=a:=λz=>by have:=QaQ H;omega
   show a3 fs g k _ _ _ _ _ X hF I (λz=>absurd z H) (!0)
 ·have c:¬k<fs.length:=λz=>by have:=QaQ c;omega
  show a3 fs g k _ _ _ _ _ X hF I (λ_=>by omega) (!0)
end
section
variable{w:bD}{n h:Nat}{s:aE}{S:az}{Q:Res->az->Prop}
def Dh(o:bX w)(x:bT w n s)(k:n<=800)(q:Q (.l ((held s).map D.int)) S):Fn bZ [s.d] S Q:=by
 let m:=o.l1
 let t:=o.l2
 let p:=x.lr
 let r:=x.lp
 show jj k (!0) (!0) x.ps (λc b=>?_) q
 let#[i,j,e]:=QbQ b
 have g:s.aj[i]?=some c:=by rw[gQe j,e]
 have f:w.aj[i]?=some (w.aj[i]'(!0)):=gQe (!0)
 let a:=x.rm i _ c f g
 have:=(o.rm _ (mQg f)).l2
 have:=a.lb
 show#[a.br,a.bl,by omega,a.bb]
def Jn(o:bX w)(x:Gd w n s):(held s).length<=4:=by
 let j:=o.l4
 let k:=x.1.lh
 have d:((held s).map Int.toNat).Nodup:=by
  rw[List.nodup_iff_pairwise_ne,List.pairwise_map]
  show List.Pairwise.imp_of_mem (λ{a b} c hb ne z=>?_) (List.nodup_iff_pairwise_ne.mp (Q2.nd x.2))
  let#[g,f,_]:=Q2.hv x.2 a c
  let#[l,i,_]:=Q2.hv x.2 b hb
  show ne (!0)
 have:=ST.nF d (m:=List.range s.af.length) λy e=>by
  let#[a,c,rfl]:=Qkq.mp e
  let#[g,f,hl]:=Q2.hv x.2 a c
  show List.mem_range.mpr (!0)
 rw[lQm,QVq] at this
 omega
def NH(w:bD)(s:aE)(g:List Int):Prop:=∀y,y∈g↔∀a,Rc w s a->y∈held a
def J4{l:List Int}(c:l.Nodup):(fe l).Pairwise (·<·):=by
 let e:=iS l
 have d:(fe l).Nodup:=(fR l).nodup_iff.mpr c
 show(e.and (List.nodup_iff_pairwise_ne.mp d)).imp λ⟨a,b⟩=>by omega
def Kj(o:bX w)(x:Gd w n s)(hn:n<=300){b:Nat}(hm:b<=400)
  (q1:∀g:List Int,NH w s g->g.Pairwise (·<·)->g.length<=4->(∃fs:List aE,fs.Nodup/\fs.length<=b/\∀s',Rc w s s'->s'∈fs)->(∀s',Rc w s s'->Gd w (n+b) s')->Q (.d (bQ g)) S)
  (q2:(∃fs:List aE,fs.Nodup/\b<fs.length/\∀s'∈fs,Rc w s s')->Q (.d .non) S):Fn zD [w.d,s.d,.int b] S Q:=by
 show bP ?_
 unfold Hl
 show aK (eZ (gn (aQ (aA L (aQ (aA L (aQ (aA L (cG ?_)))))))))
 show Kf o x hm hn λfs W I J F Y=>?_
 let#[k,l,G]:=F
 by_cases c:fs.length<=b
 ·let G:=G c
  subst G
  rw[Qhq c]
  show aK (ed (cu (fh (aA L (uO (oI ?_))))))
  show uT ?_
  show aY (λc=>by cases c) (λ_=>cq ?_)
  show aK (eZ (l8 (LR (sO (q_ (aQ (aA L (cG ?_))))))))
  show Dh o x.1 (!0) ?_
  let K:=Jn o x
  show#[L,held s,L,by omega,?_]
  have a0:(fe (held s)).length<=4:=by rw[(fR _).length_eq];show K
  let bl:=I.len
  have U:S.length+1<W.length:=(gQs.mp J).1
  show aK (kN (uA (fP (aA L (dj (di J) ?_)))))
  show#[λj e m=>∃(r:Nat) (B C A v:Option D),e= [some w.d,some s.d,some (.int b),some (.ref (S.length+1)),some (.ref r),B,C,A,v]/\lL S m/\m[S.length+1]?=some (.lst (fs.map Em))/\m[r]?=some (.lst (((fe (held s)).filter λy=>(fs.take j).all λp=>decide (y∈held p.1)).map D.int)),?_,λ_ _ _ h=>?_,?_,?_]
  ·show#[W.length,_,_,_,_,L,I.app,di J,?_]
   rw[List.filter_eq_self.mpr (λ_ _=>by rw[List.take_zero];rfl)]
   show aX
  ·let#[r,B,C,A,v,_,_,h,_]:=h
   show h
  ·rintro j d e m R ⟨r,B,C,A,v,rfl,be2,hF2,hr2⟩
   rw[gQm] at R
   let#[p,f,rfl]:=oQm.mp R
   let#[Z,P]:=l.rc j p f
   let hj:=(gQs.mp f).1
   show d_ L (au (aN (au (aN (au (aN (aZ ?_)))))))
   show aK (eZ (l8 (q_ (aQ (aA L (cG ?_))))))
   show Dh o P.1 (!0) ?_
   have u:(m++ [O.lst ((held p.1).map D.int)])[r]?=some (.lst (((fe (held s)).filter λy=>(fs.take j).all λp=>decide (y∈held p.1)).map D.int)):=di hr2
   show eZ (l8 (fN (α:=Int) (λe=>∃a,e= [a,some (.ref m.length)]) D.int D.int (λy=>decide (y∈held p.1)) #[none,L] (uA (fP (aA L (dj u ?_))))))
   show#[(fe (held s)).filter λy=>(fs.take j).all λp=>decide (y∈held p.1),L,u,by have:=List.length_filter_le (λy=>(fs.take j).all λp=>decide (y∈held p.1)) (fe (held s));omega,λy N e M=>?_,?_]
   ·let#[a,rfl]:=M
    show aN #[L,#[_,L],?_]
    show cu (I_ (aA L (fP (aA L (dj aX #[_,_,L,g7 _,?_])))))
    show _/\Fc (.int y) ((held p.1).map V.int)=_/\_
    rw[yo]
    show#[L,L,λ_=>aA L #[L,L]]
   ·show#[(m++ [O.lst ((held p.1).map D.int)]).length,_,_,_,_,L,be2.app.app,di (di hF2),?_]
    rw[aX,List.filter_filter]
    congr 3
    show List.filter_congr λy _=>?_
    rw[QYq,f]
    simp[Bool.and_comm]
  ·rintro e m ⟨r,B,C,A,v,rfl,be2,hF2,hr2⟩
   rw[lQm,QEq] at hr2
   show gA (oP (oZ (fP (aA L (dj hr2 #[L,?_])))))
   show qc be2 (λk z=>(nomatch z)) (i6 _) (q1 _ (λy=>?_) ((J4 (Q2.nd x.2)).filter _) ?_ #[fs.map (·.1),l.nd,by rw[lQm];show c,λs' H=>l.all H] λs' H=>?_)
   ·rw[List.mem_filter,QUq]
    constructor
    ·rintro⟨_,X⟩ s' q
     let#[p,f,rfl]:=Qkq.mp (l.all q)
     show QZq (X p f)
    ·intro N
     show#[(fR _).mem_iff.mpr (N s .refl),λp f=>Qeq ?_]
     let#[i,t]:=List.getElem?_of_mem f
     show N p.1 (l.rc i p t).1
   ·have:=List.length_filter_le (λy=>fs.all λp=>decide (y∈held p.1)) (fe (held s))
    omega
   ·let#[p,f,rfl]:=Qkq.mp (l.all H)
    let#[i,t]:=List.getElem?_of_mem f
    have:=(gQs.mp t).1
    show(l.rc i p t).2.mono (!0)
 ·rw[Quq c]
  show aK (ed (cu (fh (aA L (uO (oI ?_))))))
  show uT ?_
  show aY (λ_=>?_) (λc=>by cases c)
  show gA (uO ?_)
  show qc I (λk z=>(nomatch z)) L (q2 #[fs.map (·.1),l.nd,by rw[lQm];omega,λs' q=>?_])
  let#[p,f,rfl]:=Qkq.mp q
  let#[i,t]:=List.getElem?_of_mem f
  show(l.rc i p t).1
end
end W28
namespace DL
open L2
def Li{b:cf}{S:az}{T U:String}{f:aU}{Q:D->az->Prop}(h:E f b S λd a=>Op (sS a T d) λk=>Op (sS a U d) λl=>Q (.bl (k||l)) a):E (zJ T U f) b S Q:=by
 let#[d,a,c,k,g,l,e,q]:=h
 show#[_,a,by unfold zJ;rw[c];erw[Qbq];rw[g];erw[Qbq];rw[e];rfl,q]
def nW{g:cf}{S:az}{T U:String}{f:aU}{d:D}{b c:Bool}{Q:Bool->az->Prop}(h:E f g S λx e=>x=d/\e=S)(i:sS S T d=some b)(a:sS S U d=some c)(q:Q (b||c) S):E (kG (zJ T U f)) g S Q:=by
 show yM (Li (h.mono λx e k=>?_))
 let#[j,l]:=k
 subst j l
 show#[_,i,_,a,pR q]
def G6{S:az}{a:Bool}{Q:D->Prop}(q:Q (.bl false)):Op (gJ true S (.bl a) (.bl a)) Q:=#[_,by cases a <;>rfl,q]
end DL
namespace W28
open L2 DL
section
variable{S e:az}{Q:Res->az->Prop}
def Pl:Nat->D->Prop
 |0,_=>False
 |_+1,.int _=>True
 |_+1,.str _=>True
 |_+1,.non=>True
 |n+1,.tup ds=>ds.length<=1000/\∀d∈ds,Pl n d
 |_+1,_=>False
theorem z9:∀ds:List D,u_ ds ds=ds.map λd=>D.tup [d,d]
 | []=>rfl
 | d::ds=>by
   have:=z9 ds
   erw[u_,List.zipWith_cons_cons,QDq] at this|-
   rw[this]
theorem rh:∀(n:Nat) (d:D) {S:az} {Q:Res->az->Prop},Pl n d->Q (.d (.bl true)) S->Fn (dP n) [d,d] S Q
 |0,_,_,_,h,_=>h.elim
 | n+1,.int i,S,Q,_,q=>by
   show bP ?_
   unfold fw
   show aK (ed (nW (d:=.int i) (aA L #[L,L]) L L ?_))
   show aY (λc=>by cases c) (λ_=>cq ?_)
   show aK (ed (cu (fh (aA L (uO (oI ?_))))))
   show uT ?_
   show aY (λc=>by cases c) (λ_=>cq ?_)
   show aK (ed (fc (d:=.int i) (aA L #[L,L]) L ?_))
   show aY (λc=>by cases c) (λ_=>cq ?_)
   show gA (p9 (qy (aA L #[_,L,true,L,?_])))
   rw[Qhq L]
   show p9 (MD (qy (aA L #[_,L,false,L,true,L,?_])))
   rw[Qhq L]
   symm
   show fq ?_
   rw[Qeq L]
   show b_ (λk z=>(nomatch z)) L q
 | n+1,.non,S,Q,_,q=>by
   show bP ?_
   unfold fw
   show aK (ed (nW (d:=.non) (aA L #[L,L]) L L ?_))
   show aY (λc=>by cases c) (λ_=>cq ?_)
   show aK (ed (cu (fh (aA L (uO (oI ?_))))))
   show uT ?_
   show aY (λ_=>?_) (λc=>by cases c)
   show gA (fh (aA L (uO (oI ?_))))
   show b_ (λk z=>(nomatch z)) L q
 | n+1,.str i,S,Q,_,q=>by
   show bP ?_
   unfold fw
   show aK (ed (nW (d:=.str i) (aA L #[L,L]) L L ?_))
   show aY (λc=>by cases c) (λ_=>cq ?_)
   show aK (ed (cu (fh (aA L (uO (oI ?_))))))
   show uT ?_
   show aY (λc=>by cases c) (λ_=>cq ?_)
   show aK (ed (fc (d:=.str i) (aA L #[L,L]) L ?_))
   show aY (λ_=>?_) (λc=>by cases c)
   show gA (p9 (qy (aA L #[_,L,true,L,?_])))
   rw[Qhq L]
   symm
   show ix ?_
   rw[Qeq L]
   show b_ (λk z=>(nomatch z)) L q
 | n+1,.tup ds,S,Q,h,q=>by
   show bP ?_
   unfold fw
   show aK (ed (nW (d:=.tup ds) (aA L #[L,L]) L L ?_))
   show aY (λ_=>?_) (λc=>by cases c)
   show aK (ed (OE (cu (fh (qy (aA L #[_,L,qy (aA L #[_,L,G6 ?_])]))))))
   show uT ?_
   show aY (λc=>by cases c) (λ_=>?_)
   show cu (fh (qy (aA L #[_,L,qy (aA L #[_,L,G6 ?_])])))
   show uT ?_
   show aY (λc=>by cases c) (λ_=>cq ?_)
   show gA (p9 (fh (tM (fP (aA L (du (tM (fP (aA L (du (fq #[_,L,?_])))))))))))
   rw[Qeq L,Qhq L]
   show KZ (sO ?_)
   apply fN (α:=D) (λf=>∃a b,f= [a,b]) (λd=>D.tup [d,d]) (λ_=>.bl true) (λ_=>true) #[none,none,L] (xN ?_)
   show#[#[trivial,Qmq _],ds,z9 ds,#[trivial,trivial],h.1,λd j f g=>?_,?_]
   · let#[a,b,rfl]:=g
     show d_ L (au (aN (au (aN (aZ ?_)))))
     apply#[L,#[_,_,L],ke #[L,L,λ_=>?_]]
     show rh n d (h.2 d j) #[L,L]
   · show#[L,List.replicate ds.length true,?_,?_]
     · rw[<-tV]
       congr 1
       rw[List.filter_eq_self.mpr (λ_ _=>rfl),List.map_const']
     · have:(List.replicate ds.length true).all id=true:=by simp
       rw[this]
       show b_ (λk z=>(nomatch z)) L q
end
abbrev FP:=List (Nat×aE×Option Int)
noncomputable def gf(w:bD)(tr:FP):aE:=match tr.getLast? with
 |none=>bz w
 |some x=>x.2.1
noncomputable def vh(x:Nat×aE×Option Int):List (Nat×Int):=match x.2.2 with
 |none=> []
 |some v=> [(x.1,v)]
noncomputable def KO(tr:FP):List (Nat×Int):=tr.flatMap vh
noncomputable def Rk(p:Nat×Int):D:=.tup [.int p.1,.int p.2]
def uD(w:bD)(tr:FP):Prop:=∀(n:Nat) (h:Nat) (a:aE) (e:Xb),tr[n]?=some (h,a,e)->JF w (gf w (tr.take n))/\h∈jE w (gf w (tr.take n))/\gU w (gf w (tr.take n)) h a e
def D3{w:bD}{tr:FP}{n:Nat}{x:Nat×aE×Option Int}(h:tr[n]?=some x):gf w (tr.take (n+1))=x.2.1:=by
 unfold gf
 rw[QYq,h]
 simp
def Ap{w:bD}{tr:FP}{x:Nat×aE×Option Int}:gf w (tr++ [x])=x.2.1:=by
 unfold gf
 simp
def uD.app{w:bD}{tr:FP}{h:Nat}{s':aE}{e:Xb}(x:uD w tr)(i:JF w (gf w tr))(g:h∈jE w (gf w tr))(k:gU w (gf w tr) h s' e):uD w (tr++ [(h,s',e)]):=by
 intro n d f j a
 by_cases c:n<tr.length
 ·rw[QHq c] at a
  rw[List.take_append_of_le_length (!0)]
  show x n d f j a
 ·let hl:=(gQs.mp a).1
  have b:n=tr.length:=by simp at hl;omega
  subst b
  simp at a
  let#[rfl,rfl,rfl]:=a
  rw[List.take_append_of_le_length (!0),QEq]
  show#[i,g,k]
def Kq{tr:FP}:(KO tr).length<=tr.length:=by
 have:=kI (f:=vh) (n:=1) (l:=tr) λx _=>by unfold vh;split <;>simp
 unfold KO
 omega
noncomputable def yO(w:bD)(tr:FP):D:=.tup [(gf w tr).d,.tup ((KO tr).map Rk)]
section
variable{S f:az}{Q:Res->az->Prop}
def Eh{w:bD}{tr:FP}(o:bX w)(ok:uD w tr)(hl:tr.length<=900)(q:Q (.d (yO w tr)) S):Fn q0 [w.d,.tup ((tr.map (·.1)).map fS)] S Q:=by
 show bP ?_
 unfold xw
 symm
 apply FW o ?_
 show#[by decide,?_]
 apply aK (kN (Kc ?_))
 show#[λn i r=>(∃a b c,i= [some w.d,some (.tup ((tr.map (·.1)).map fS)),some (gf w (tr.take n)).d,some (.ref S.length),a,b,c])/\r=S++ [.lst ((KO (tr.take n)).map Rk)],#[#[_,_,_,L],L],λ_ _ _ _=>trivial,?_,?_]
 ·rintro n d i r C ⟨⟨a,b,c,rfl⟩,rfl⟩
  let#[x,A,rfl]:=pM C
  rw[gQm,gQm] at A
  let#[G,m,rfl]:=oQm.mp A
  let#[#[h,j,e],g,rfl]:=oQm.mp m
  let#[u,t,y]:=ok n h j e g
  have B:gf w (tr.take (n+1))=j:=D3 g
  have p:KO (tr.take (n+1))=KO (tr.take n)++vh (h,j,e):=lH g
  have F:(KO (tr.take n)).length<=900:=by
   have:=Kq (tr:=tr.take n)
   rw[Qxq] at this
   omega
  generalize gf w (tr.take n)=s at u t y|-
  generalize KO (tr.take n)=es at p F|-
  show d_ L (au (aN (au (aN (aZ ?_)))))
  apply aK (ed (cu (I_ ?_)))
  show u _ _ ?_
  dsimp only[bF,aW,bH,cO,c_,iO]
  show#[_,_,L,by rw[vy];show g7 _,?_]
  rw[yo,Qeq (Qkq.mpr #[h,t,L])]
  apply aY (λc=>by cases c) (λ_=>cq ?_)
  show y _ _ ?_
  apply d_ L (au (aN (au (aN (aZ ?_)))))
  show oI ?_
  cases e with
  | none=>
    show aY (λc=>by cases c) (λ_=>cq ?_)
    show#[#[_,_,_,by rw[B];rfl],?_]
    rw[p]
    simp[vh]
  | some v=>
    show aY (λ_=>?_) (λc=>by cases c)
    apply si (AN ?_)
    apply#[_,_,L,aX,?_]
    show#[_,aX,#[_,by unfold pO;show Qhq (by rw[lQm];show bj (!0)),?_]]
    show#[#[_,_,_,by rw[B];rfl],?_]
    rw[p]
    simp[vh,Rk,Qb]
 ·rintro i r ⟨⟨a,b,c,rfl⟩,rfl⟩
  have l:(oA 0 ((tr.map (·.1)).map fS)).length=tr.length:=by rw[oU];simp
  rw[l,QEq]
  symm
  show dj aX ?_
  apply#[L,?_]
  show#[by show 2<=_;decide,?_]
  show qc (d:=yO w tr) (lL.refl.app) (λk z=>(nomatch z)) ?_ q
  erw[yO,cc,bK,aE.low,Bool.and_true,Bool.true_and]
  show bg λ_ _=>rfl
end
structure Sg(σ:Str->Str):Prop where
 inj:∀a b,σ a=σ b->a=b
 gv:σ "given"="given"
noncomputable def kU(σ:Str->Str):Tr->Tr
 |.num n=>.num n
 |.word x=>.word (σ x)
 |.waits b=>.waits (σ b)
 |.no t=>.no (kU σ t)
 |.two o a b=>.two o (kU σ a) (kU σ b)
noncomputable def iT(σ:Str->Str):Rw->Rw
 |.put x t=>.put (σ x) (kU σ t)
 |.unl t n=>.unl (kU σ t) n
 |.go n=>.go n
 |.do_ g r d t=>.do_ (g.map σ) (σ r) (σ d) (kU σ t)
 |.wait b t=>.wait (σ b) (kU σ t)
 |.call b=>.call (σ b)
 |.all b=>.all (σ b)
 |.tell t=>.tell (kU σ t)
 |.take p=>.take (σ p)
 |.give p=>.give (σ p)
 |.pass p q=>.pass (σ p) (σ q)
 |.say t=>.say (kU σ t)
noncomputable def lM{a:Type}(σ:Str->Str)(p:Str×a):Str×a:=(σ p.1,p.2)
noncomputable def Ew(σ:Str->Str)(p:Str×List Rw):Str×List Rw:=(σ p.1,p.2.map (iT σ))
noncomputable def Be(σ:Str->Str)(r:Rm):Rm:=#[σ r.name,r.ah,r.ao.map (lM σ),r.aa.map (lM σ),r.ae.map (Ew σ)]
noncomputable def AX(σ:Str->Str)(h:List (Str×Nat)×List Rw):List (Str×Nat)×List Rw:=(h.1.map (lM σ),h.2.map (iT σ))
noncomputable def bC(σ:Str->Str)(w:bD):bD:=#[w.aj.map (Be σ),w.ai.map (lM σ),w.ak.map (lM σ),w.af.map (AX σ)]
noncomputable def CP(σ:Str->Str):Key->Key
 |.inr x=>.inr (σ x)
 |.inl i=>.inl i
noncomputable def km(σ:Str->Str)(l:List (Key×D)):List (Key×D):=l.map λa=>(CP σ a.1,a.2)
def ig{a:Type}{σ:Str->Str}(l:List (Str×a)):(l.map (lM σ)).map (·.1)=(l.map (·.1)).map σ:=by rw[QPq,QPq];rfl
section
variable{σ:Str->Str}(g:Sg σ)
include g
def q5{a b:Key}:CP σ a=CP σ b↔a=b:=by
 constructor
 ·intro h
  cases a <;>cases b <;>erw[CP] at h
  ·show h
  ·cases h
  ·cases h
  ·show congrArg Sum.inr (g.inj _ _ (Sum.inr.inj h))
 ·intro h;rw[h]
theorem xC(x:Str):∀ns:List Str,kf (.str (σ x)) ((ns.map σ).map V.str)=kf (.str x) (ns.map V.str)
 | []=>rfl
 | a::ns=>by
   erw[QDq,kf]
   rw[xC x ns]
   have:pT (.str (σ a)) (.str (σ x))=pT (.str a) (.str x):=by
     show(σ a==σ x)=(a==x)
     by_cases c:a=x
     · rw[c];simp
     · have:σ a≠σ x:=λh=>c (g.inj _ _ h)
       show(beq_false_of_ne this).trans (beq_false_of_ne c).symm
   rw[this]
def gE(x:Str)(ns:X6):cp (ns.map σ) (σ x)=cp ns x:=by unfold cp;rw[xC g]
def GF(k:Key):∀l:List (Key×D),g8 (km σ l) (CP σ k)=g8 l k:=λl=>by
 unfold g8 km
 rw[List.find?_map]
 have:((λa:Key×D=>decide (a.1=CP σ k))∘λa:Key×D=>(CP σ a.1,a.2))=λa=>decide (a.1=k):=by
  funext a
  show decide_eq_decide.mpr (q5 g)
 rw[this]
 cases l.find? λa=>decide (a.1=k) <;>rfl
def zQ(k:Key)(v:D)(l:List (Key×D)):putD (km σ l) (CP σ k) v=km σ (putD l k v):=by
 unfold putD km
 have b:((l.map λa:Key×D=>(CP σ a.1,a.2)).any λa=>decide (a.1=CP σ k))=l.any λa=>decide (a.1=k):=by
  rw[List.any_map]
  congr 1
  funext a
  show decide_eq_decide.mpr (q5 g)
 rw[b]
 split
 ·rw[QPq,QPq]
  show List.map_congr_left λa _=>?_
  erw[Function.comp]
  by_cases c:a.1=k
  ·rw[Qhq c,Qhq ((q5 g).mpr c)]
  ·rw[Quq c,Quq λh=>c ((q5 g).mp h)]
 ·rw[Qzq];rfl
theorem jP:∀(m l:List (Key×D)),bU (km σ l) (km σ m)=km σ (bU l m)
 | [],l=>rfl
 | a::m,l=>by
   show bU (putD (km σ l) (CP σ a.1) a.2) (km σ m)=km σ (bU (putD l a.1 a.2) m)
   rw[zQ g,jP m]
def tO(ts:List (Str×Nat))(vs:List Int):df (ts.map (lM σ)) vs=km σ (df ts vs):=by
 unfold df
 rw[ig]
 have:∀(l:X6) (b:List D),((l.map σ).map Sum.inr).zip b=km σ ((l.map Sum.inr).zip b):=by
  intro l
  induction l with
  |nil=>intro b;rfl
  | cons a l c=>
    intro b
    cases b with
    |nil=>rfl
    | cons u b=>
      show congr (congrArg List.cons L) (c b)
 rw[this]
 show jP g _ []
def pQ(x:Str)(l:List (Key×D)):numAt (km σ l) (σ x)=numAt l x:=by
 unfold DL.numAt
 rw[show(Sum.inr (σ x):Key)=CP σ (.inr x) from L,GF g]
omit g in
theorem nE{th wt c d:Str->Int}(f:∀x,c (σ x)=th x)(e:∀x,d (σ x)=wt x):∀t:Tr,sh c d (kU σ t)=sh th wt t
 |.num n=>rfl
 |.word x=>f x
 |.waits b=>by erw[kU,sh];rw[e]
 |.no t=>by erw[kU,sh];rw[nE f e t]
 |.two o a b=>by erw[kU,sh];rw[nE f e a,nE f e b]
variable{w:bD}{s:aE}{h:Nat}
omit g in
def Ce:FX (bC σ w) h=AX σ (FX w h):=by
 unfold FX bC
 rw[gQm]
 cases w.af[h]? <;>rfl
omit g in
def sj(i:Nat):(qY (bC σ w) i).ao=(qY w i).ao.map (lM σ):=by
 unfold qY bC
 rw[gQm]
 cases w.aj[i]? <;>rfl
omit g in
def lu(i:Nat):(qY (bC σ w) i).aa=(qY w i).aa.map (lM σ):=by
 unfold qY bC
 rw[gQm]
 cases w.aj[i]? <;>rfl
omit g in
def DS(i:Nat):(qY (bC σ w) i).ae=(qY w i).ae.map (Ew σ):=by
 unfold qY bC
 rw[gQm]
 cases w.aj[i]? <;>rfl
omit g in
def BL(i:Nat):(qY (bC σ w) i).ah=(qY w i).ah:=by
 unfold qY bC
 rw[gQm]
 cases w.aj[i]? <;>rfl
omit g in
def DK:(bC σ w).aj.map (·.name)=(w.aj.map (·.name)).map σ:=by unfold bC;rw[QPq,QPq];rfl
omit g in
def DY(l:List (Str×List Rw)):(l.map (Ew σ)).map (·.1)=(l.map (·.1)).map σ:=by rw[QPq,QPq];rfl
def EU(r c:Rm)(rs:bO)(e:c.aa=r.aa.map (lM σ)):t5 c rs=km σ (t5 r rs):=by
 unfold t5
 rw[e]
 have:∀(l:List (Str×Str)) (b:List (List (Int×Int))),(((l.map (lM σ)).zip b).map λp=>((Sum.inr p.1.1:Key),D.int (p.2.length:Nat)))=km σ ((l.zip b).map λp=>(Sum.inr p.1.1,D.int (p.2.length:Nat))):=by
  intro l
  induction l with
  |nil=>intro b;rfl
  | cons a l d=>
    intro b
    cases b with
    |nil=>rfl
    | cons u b=>
      show congr (congrArg List.cons L) (d b)
 rw[this]
 show jP g _ []
def gM(t:Tr):dQ (bC σ w) s h (kU σ t)=dQ w s h t:=by
 unfold dQ
 split
 ·show nE (λx=>?_) (λx=>rfl) t
  unfold zO
  rw[Ce,show(bC σ w).ak=w.ak.map (lM σ) from L,show(AX σ (FX w h)).1=(FX w h).1.map (lM σ) from L,tO g,tO g,jP g,pQ g]
 ·show nE (λx=>?_) (λx=>?_) t
  ·unfold qm
   rw[sj,tO g,show(Sum.inr "given":Key)=CP σ (.inr "given") by show _=Sum.inr (σ _);rw[g.gv],zQ g,pQ g]
   rw[show CP σ (.inr "given")=(Sum.inr "given":Key) by show Sum.inr (σ _)=_;rw[g.gv]]
  ·unfold rZ
   rw[EU g _ _ _ (lu _),pQ g]
def kR(ns:X6)(vs:List Int)(x:Str)(v:Int):cV (ns.map σ) vs (σ x) v=cV ns vs x v:=by unfold cV;rw[xC g]
def DG{x:Str}{l:X6}:σ x∈l.map σ↔x∈l:=by
 constructor
 ·intro h
  let#[y,a,e]:=Qkq.mp h
  rw[<-g.inj _ _ e]
  show a
 ·intro h;show Qkq.mpr #[x,h,L]
def zf(x:Str)(v:Int):qL (bC σ w) s h (σ x) v=qL w s h x v:=by
 unfold qL
 split
 ·unfold kq
  rw[Ce,show(bC σ w).ak=w.ak.map (lM σ) from L,ig,show(AX σ (FX w h)).1=(FX w h).1.map (lM σ) from L,ig,kR g,kR g]
  by_cases c:x∈w.ak.map (·.1)
  ·rw[Qhq c,Qhq ((DG g).mpr c)]
  ·rw[Quq c,Quq λh=>c ((DG g).mp h)]
 ·rw[sj,ig,kR g]
def IY(r:Rw):jw (bC σ w) s h (iT σ r)=jw w s h r:=by
 have a:(bC σ w).ai.map (·.1)=(w.ai.map (·.1)).map σ:=ig _
 cases r with
 |put x t=>erw[iT,jw];rw[gM g,zf g]
 |unl t n=>erw[iT,jw];rw[gM g]
 |go n=>rfl
 |do_ d rn c t=>erw[iT,jw];rw[DK,gE g,DS,DY,gE g,gM g]
 | wait b t=>
   erw[iT,jw,GR]
   rw[gM g,lu,ig,gE g,gQm]
   cases (qY w (hX s h).room.toNat).aa[cp ((qY w (hX s h).room.toNat).aa.map (·.1)) b]? <;>rfl
 |call b=>erw[iT,jw];rw[lu,ig,gE g,BL]
 |all b=>erw[iT,jw];rw[lu,ig,gE g]
 |tell t=>erw[iT,jw];rw[gM g]
 |take p=>erw[iT,jw];rw[a,gE g]
 |give p=>erw[iT,jw];rw[a,gE g]
 |pass p q=>erw[iT,jw];rw[a,gE g,gE g]
 |say t=>rfl
omit g in
def mN(f:bG):progOf (bC σ w) h f=(progOf w h f).map (List.map (iT σ)):=by
 unfold progOf
 split
 ·unfold bC
  rw[gQm]
  cases w.af[h]? <;>rfl
 ·split
  ·unfold bC
   rw[gQm]
   cases w.aj[f.room.toNat]? with
   |none=>rfl
   | some r=>
     show Option.map _ ((r.ae.map (Ew σ))[f.deed.toNat]?)=_
     rw[gQm]
     cases a:r.ae[f.deed.toNat]? <;>simp[a,Ew]
  ·rfl
omit g in
def G7:BU (bC σ w) s h=(BU w s h).map (iT σ):=by
 unfold BU
 rw[mN]
 cases progOf w h (hX s h) with
 |none=>rfl
 |some a=>show(a.map (iT σ))[_]?=_;rw[gQm];rfl
def F4:xq (bC σ w) s h=xq w s h:=by
 unfold xq
 rw[G7]
 cases c:BU w (yI s h) h with
 |none=>rfl
 | some r=>
   cases r with
   | do_ a rn b t=>
     cases a with
     |none=>rfl
     |some x=>show zf g x _
   |_=>rfl
def GJ(r:Rw):EW (bC σ w) s h (iT σ r)=EW w s h r:=by
 cases r with
 |say t=>erw[iT,EW];rw[gM g]
 |_=>rfl
def vz:eY (bC σ w) s h=eY w s h:=by
 unfold eY
 rw[mN]
 split
 ·rfl
 ·cases progOf w h (hX s h) with
  |none=>rfl
  | some a=>
    erw[Option.map_some,lQm,gQm]
    rw[F4 g]
    split
    · rfl
    · cases a[(hX s h).row.toNat]? with
      |none=>rfl
      |some r=>erw[Option.map_some];rw[IY g,GJ g]
omit g in
def sr:jE (bC σ w) s=jE w s:=by
 unfold jE se
 congr 1
 funext k
 cases zL s k with
 |none=>rfl
 | some f=>
   simp only
   rw[mN]
   cases progOf w k f <;>simp
omit g in
def AI:bz (bC σ w)=bz w:=by
 have a:∀l:List (Str×Nat),dF (l.map (lM σ))=dF l:=λl=>by unfold dF;rw[QPq];rfl
 unfold bz bC
 erw[QPq,a]
 congr 1
 ·show List.map_congr_left λr _=>?_
  erw[Function.comp,cv,Be,a,QPq]
  rfl
 ·show List.map_congr_left λr _=>?_
  erw[Function.comp,AX,a]
end
end W28
namespace DL
open L2
theorem yH:∀{l m:List Int},l.Pairwise (·<·)->m.Pairwise (·<·)->(∀y,y∈l↔y∈m)->l=m
 | [],[],_,_,_=>rfl
 | [],b::m,_,_,h=>by have:=(h b).mpr (QBq ..);cases this
 |a::l,[],_,_,h=>by have:=(h a).mp (QBq ..);cases this
 | a::l,b::m,h1,h2,h=>by
   rw[List.pairwise_cons] at h1 h2
   have e:a=b:=by
     rcases Qsq.mp ((h a).mp (QBq ..)) with z|z
     · show z
     · rcases Qsq.mp ((h b).mpr (QBq ..)) with d|d
       · show d.symm
       · have:=h1.1 b d;have:=h2.1 a z;omega
   subst e
   rw[yH h1.2 h2.2 λy=>#[λc=>?_,λc=>?_]]
   · rcases Qsq.mp ((h y).mp (Qpq _ c)) with z|z
     · subst z;have:=h1.1 y c;omega
     · show z
   · rcases Qsq.mp ((h y).mpr (Qpq _ c)) with z|z
     · subst z;have:=h2.1 y c;omega
     · show z
end DL
namespace W28
open L2 DL
noncomputable def Qm(a b:bG):Decidable (a=b):=
 if h:a.row=b.row/\a.room=b.room/\a.deed=b.deed/\a.given=b.given/\a.told=b.told then .isTrue (by cases a;cases b;let#[f,c,i,d,g]:=h;simp only at f c i d g;subst f c i d g;rfl) else .isFalse λe=>h (by subst e;show#[L,L,L,L,L])
instance:DecidableEq bG:=Qm
noncomputable def QZ(a b:bO):Decidable (a=b):=
 if h:a.within=b.within/\a.row=b.row/\a.ag=b.ag/\a.aa=b.aa/\a.vals=b.vals then .isTrue (by cases a;cases b;let#[f,c,i,d,g]:=h;simp only at f c i d g;subst f c i d g;rfl) else .isFalse λe=>h (by subst e;show#[L,L,L,L,L])
instance:DecidableEq bO:=QZ
noncomputable def Qj(a b:aE):Decidable (a=b):=
 if h:a.af=b.af/\a.ai=b.ai/\a.aj=b.aj/\a.ak=b.ak then .isTrue (by cases a;cases b;let#[f,c,g,d]:=h;simp only at f c g d;subst f c g d;rfl) else .isFalse λe=>h (by subst e;show#[L,L,L,L])
instance:DecidableEq aE:=Qj
noncomputable def F3(w:bD)(s:aE):List aE:=(jE w s).map λh=>(eY w s h).1
noncomputable def Ff(w:bD):Nat->List aE->List aE->List aE
 |0,l,_=>l
 |n+1,l,fr=>Ff w n (l++(fr.flatMap (F3 w)).eraseDups.filter λt=> !decide (t∈l)) ((fr.flatMap (F3 w)).eraseDups.filter λt=> !decide (t∈l))
noncomputable def Qh(w:bD)(l:List aE):Bool:=l.all λt=>(F3 w t).all λu=>decide (u∈l)
noncomputable def LG(w:bD):aE->List Nat->Option aE
 |s,[]=>some s
 |s,h::hs=>if h∈jE w s then LG w (eY w s h).1 hs else none
noncomputable def AR(w:bD)(fs:List aE):List Int:=((List.range w.af.length).filter λi:Nat=>fs.all λs=>decide ((i:Int)∈held s)).map λi:Nat=>(i:Int)
section
variable{w:bD}{n h:Nat}{s:aE}
def Gd.stepR(o:bX w)(x:Gd w n s)(d:n<=800)(b:h∈jE w s):gU w s h (eY w s h).1 (eY w s h).2/\Gd w (n+1) (W28.eY w s h).1:=by
 let#[l,e,k,g,_]:=x.next o d b
 have hl:h<s.af.length:=List.mem_range.mp (List.mem_filter.mp b).1
 obtain⟨⟨m,t⟩,c⟩:∃p,s.af[h]?=some p:=#[_,gQe hl]
 let#[u,q,r,j]:=x.1.whand c
 let#[f,i,v]:=j.last
 let a:=(Jh o x.1 d b c i).1
 have:=pq a k
 rw[this]
 rw[this] at a
 show#[a,g]
def Gd.nxs(o:bX w)(x:Gd w n s)(e:n<=800){u:aE}(d:u∈F3 w s):Nx w s u/\Gd w (n+1) u:=by
 let#[h,a,rfl]:=Qkq.mp d
 let#[c,b]:=x.stepR o e a
 show#[#[h,_,a,c],b]
def Gd.nx'(o:bX w)(x:Gd w n s)(f:n<=800){u:aE}(d:Nx w s u):u∈W28.F3 w s:=by
 let#[h,e,a,b]:=d
 let#[c,g]:=x.stepR o f a
 rw[pq b c]
 show Qkq.mpr #[h,a,L]
theorem GU(o:bX w){s0:aE}:∀(k m:Nat) (l fr:List aE),m+k<=800->(∀t∈l,Rc w s0 t/\Gd w m t)->(∀t∈fr,Rc w s0 t/\Gd w m t)->∀t∈Ff w k l fr,Rc w s0 t/\Gd w (m+k) t
 |0,m,l,fr,_,h1,_,t,e=>h1 t e
 | k+1,m,l,fr,hm,h1,h2,t,e=>by
   have f:∀t∈((fr.flatMap (F3 w)).eraseDups.filter λt=> !decide (t∈l)),Rc w s0 t/\Gd w (m+1) t:=λt e=>by
     let#[u,g,i]:=QOq.mp (List.mem_eraseDups.mp (List.mem_filter.mp e).1)
     let#[a,b]:=h2 u g
     let#[c,d]:=b.nxs o (!0) i
     show#[.step a c,d]
   have:=GU o k (m+1) _ _ (!0) (λt e=>by
     rcases mQa.mp e with e|e
     · show#[(h1 t e).1,(h1 t e).2.mono (!0)]
     · show f t e) f t e
   rw[show m+(k+1)=m+1+k by omega]
   show this
theorem CB:∀(k:Nat) (l fr:List aE),∀t∈l,t∈Ff w k l fr
 |0,l,fr,t,ht=>ht
 |k+1,l,fr,t,ht=>CB k _ _ t (List.mem_append_left _ ht)
def JM(o:bX w){s0:aE}{m:Nat}{l:List aE}(b:m<=800)(d:s0∈l)(c:∀t∈l,Gd w m t)(e:Qh w l=true){t:aE}(h:Rc w s0 t):t∈l:=by
 induction h with
 |refl=>show d
 |step _ f a=>show QZq (QUq.mp (QUq.mp e _ a) _ ((c _ a).nx' o b f))
def Lp{fs:List aE}{g:List Int}(x:Gd w n s)(f:NH w s g)(d:g.Pairwise (·<·))(e:∀s'∈fs,Rc w s s')(b:∀s',Rc w s s'->s'∈fs):g=AR w fs:=by
 show yH d ?_ λy=>?_
 ·unfold AR
  rw[List.pairwise_map]
  show((List.pairwise_lt_range).filter _).imp λh=>by omega
 ·unfold AR
  rw[f y,Qkq]
  constructor
  ·intro h
   let#[i,c,hl]:=Q2.hv x.2 y (h s .refl)
   show#[i,List.mem_filter.mpr #[List.mem_range.mpr (by have:=x.1.lh;omega),QUq.mpr λs' a=>Qeq ?_],c.symm]
   rw[<-c]
   show h s' (e s' a)
  ·rintro⟨i,c,rfl⟩ s' a
   show QZq (QUq.mp (List.mem_filter.mp c).2 s' (b s' a))
theorem KG(o:bX w):∀(e:List Nat) (tr:FP) (m:Nat) (s':aE),m+e.length<=100->uD w tr->Gd w m (gf w tr)->LG w (gf w tr) e=some s'->∃d,uD w d/\d.map (·.1)=tr.map (·.1)++e/\gf w d=s'/\Gd w (m+e.length) s'/\d.length=tr.length+e.length
 | [],tr,m,s',_,h1,h2,h3=>by
   cases h3
   show#[tr,h1,by simp,L,h2,L]
 | h::e,tr,m,s',hm,h1,h2,h3=>by
   rw[Qnq] at hm
   unfold LG at h3
   split at h3
   · rename_i c
     let#[a,b]:=h2.stepR o (!0) c
     let ok:=h1.app (h2.1.mays o (!0)) c a
     let#[d,j,f,k,g,i]:=KG o e _ (m+1) s' (!0) ok (by rw[Ap];show b) (by rw[Ap];show h3)
     show#[d,j,by rw[f];simp,k,?_,by rw[i];simp;omega]
     rw[Qnq,show m+(e.length+1)=m+1+e.length by omega]
     show g
   · cases h3
def Hw(o:bX w):Gd w 1 (bz w):=#[Ep o,lQ.begun o]
end
def Ik(l:List Int)(h:l.length<=1000):Pl 10 (bQ l):=by
 show#[by rw[lQm];show h,λd a=>?_]
 let#[i,_,rfl]:=Qkq.mp a
 trivial
noncomputable def E9:List Str->List Str->Str->Str
 |k::ks,v::vs,x=>if x=k then v else E9 ks vs x
 |_,_,x=>"999999999" ++x
def IV(a b:Str):(a++b).length=a.length+b.length:=by show(a.cps++b.cps).size=_;rw[Array.size_append];rfl
def C6(d:Str):∀a b:Str,d++a=d++b->a=b:=by
 intro a b h
 have f:(d++a).cps.toList=(d++b).cps.toList:=by rw[h]
 have e:∀c:Str,(d++c).cps.toList=d.cps.toList++c.cps.toList:=λc=>by
  show(d.cps++c.cps).toList=_
  simp
 rw[e,e] at f
 show Str.ext' (Array.toList_inj.mp (List.append_cancel_left f))
def CN(x:Str):9<=("999999999" ++x).length:=by
 rw[IV]
 have:("999999999":Str).length=9:=by decide +kernel
 omega
theorem B8:∀(a vs:X6) (x:Str),E9 a vs x∈vs\/9<=(E9 a vs x).length
 | [],_,x=>.inr (CN x)
 |_::_,[],x=>.inr (CN x)
 | k::a,v::vs,x=>by
   unfold E9
   split
   · show .inl (QBq ..)
   · rcases B8 a vs x with h|h
     · show .inl (Qpq _ h)
     · show .inr h
theorem CZ:∀(a vs:X6),vs.Nodup->(∀v∈vs,v.length<=8)->∀x y,E9 a vs x=E9 a vs y->x=y
 | [],_,_,_,x,y,e=>C6 _ _ _ e
 |_::_,[],_,_,x,y,e=>C6 _ _ _ e
 | k::a,v::vs,nd,hl,x,y,e=>by
   rw[List.nodup_cons] at nd
   have d:∀z,E9 a vs z≠v:=λz e=>by
     rcases B8 a vs z with h|h
     · rw[e] at h;show nd.1 h
     · rw[e] at h;have:=hl v (QBq ..);omega
   unfold E9 at e
   by_cases c:x=k <;>by_cases b:y=k
   · rw[c,b]
   · rw[Qhq c,Quq b] at e;show absurd e.symm (d y)
   · rw[Quq c,Qhq b] at e;show absurd e (d x)
   · rw[Quq c,Quq b] at e;show CZ a vs nd.2 (λv f=>hl v (Qpq _ f)) x y e
section
variable{σ:Str->Str}(g:Sg σ){w:bD}{s:aE}
include g
def Cf:F3 (bC σ w) s=F3 w s:=by
 unfold F3
 rw[sr]
 congr 1
 funext h
 rw[vz g]
theorem xF:∀(k:Nat) (l fr:List aE),Ff (bC σ w) k l fr=Ff w k l fr
 |0,_,_=>rfl
 | k+1,l,fr=>by
   unfold Ff
   rw[show F3 (bC σ w)=F3 w from funext λs=>Cf g,xF k]
theorem Df:∀(a:List Nat) (s:aE),LG (bC σ w) s a=LG w s a
 | [],_=>rfl
 | h::a,s=>by
   unfold LG
   rw[sr,vz g,Df a]
end
end W28
namespace Rg
noncomputable def P_(g:Nat->Option Nat)(a f:Nat):Nat->Nat->List Nat->Option (List Nat)
 |0,_,_=>none
 | k+1,h,r=>match g h with
   |none=>none
   |some v=>if Nat.ble f h&&Nat.blt r.length a then if Nat.beq v f then some (r++ [h]) else P_ g a f k v (r++ [h]) else none
noncomputable def way(g:Nat->Option Nat)(a f:Nat):Option (List Nat):=P_ g a f 5 f []
end Rg
namespace DL
open L2
theorem wF{α:Type}(d:α):∀n:Nat,(List.replicate n [d]).flatten=List.replicate n d
 |0=>rfl
 |n+1=>by rw[QNq,QNq,List.flatten_cons,wF d n];rfl
def FC{a:cf}{S:az}{f:dU}{g:aU}{Q:List D->az->Prop}(h:E f a S λp b=>E g a b λr S2=>∃(n:Nat) (d:D),r=.int n/\p.1= [d]/\(p.2.isM=true/\p.2.stays S2 p.1/\n<=1000)/\Q (List.replicate n d) S2):E (FY f g) a S Q:=by
 let#[p,b,c,r,S2,e,n,d,rfl,h0,#[h1,h2,h3],q]:=h
 show#[_,S2,?_,q]
 unfold FY
 rw[c]
 erw[Qbq]
 rw[e]
 erw[Qbq]
 rw[Qhq #[h1,h2,by omega,by omega,by rw[h0];erw[Qnq,QGq,Int.toNat_natCast];show nQl (bj (!0))]]
 rw[h0,show((n:Int)).toNat=n by omega,wF]
theorem zip_map{α a:Type}(f:α->D)(g:a->D):∀(xs:List α) (ys:List a),u_ (xs.map f) (ys.map g)=(xs.zip ys).map λp=>D.tup [f p.1,g p.2]
 | [],_=>rfl
 |_::_,[]=>rfl
 | x::xs,y::ys=>by
   have:=zip_map f g xs ys
   erw[u_,QDq,List.zipWith_cons_cons,List.zip_cons_cons] at this|-
   rw[this]
end DL
namespace W28
open L2 DL
section
variable{S a:az}{k:Nat}{Q:Res->az->Prop}
def Hk{ds:List D}{n:Nat}{Q:D->Prop}(c:ds≠[])(b:ds.length*n<=sizeLine)(d:n<1000)(q:Q (.tup (List.replicate n ds).flatten)):Op (wM S (.tup ds) (.int n)) Q:=#[_,by erw[wM];rw[Qhq #[by omega,by omega,c,by simpa using b]];simp,q]
end
noncomputable def ent(p:Rm×bO):List (Int×Str×Int):=p.2.row.map λh=>(h,p.1.name,p.2.within)
noncomputable def ents(w:bD)(s:aE):List (Int×Str×Int):=(w.aj.zip s.aj).flatMap ent
noncomputable def Jl(e:Int×Str×Int):Key×D:=(.inl e.1,.tup [.str e.2.1,.int e.2.2])
noncomputable def nx(w:bD)(s:aE)(h:Nat):Option (Int×Str×Int):=(ents w s).find? λe=>decide (e.1=(h:Int))
noncomputable def Fd(w:bD)(s:aE)(h:Nat):Option Nat:=(nx w s h).map λe=>e.2.2.toNat
noncomputable def IH(w:bD)(s:aE)(h:Nat):Str:=((nx w s h).map λe=>e.2.1).getD ""
section
variable{w:bD}{n h:Nat}{s:aE}{S:az}{Q:Res->az->Prop}
theorem zip_rows:∀{a:List Rm} {b:List bO},b.length=a.length->((a.zip b).flatMap ent).map (·.1)=b.flatMap (·.row)
 | [],[],_=>rfl
 | x::a,y::b,h=>by
   rw[List.zip_cons_cons,QSq,Qzq,zip_rows (a:=a) (b:=b) (by simpa using h),QSq]
   congr 1
   show(y.row.map _).map _=_
   rw[QPq]
   show List.map_id' _
 | [],_::_,h=>by simp at h
 |_::_,[],h=>by simp at h
theorem Ax{α b:Type}{f g:α->List b}(h:∀a,(f a).Sublist (g a)):∀l:List α,(l.flatMap f).Sublist (l.flatMap g)
 | []=>QjQ _
 |a::l=>by rw[QSq,QSq];show(h a).append (Ax h l)
def Ct(x:bT w n s)(a:lQ w s):((ents w s).map (·.1)).Nodup:=by
 unfold ents
 rw[zip_rows x.lr.symm]
 show(Q2.nd a).sublist ?_
 show(Ax (g:=aI) (λr=>?_) s.aj).trans (List.sublist_append_right _ _)
 unfold aI
 rw[Qvq]
 show List.sublist_append_left _ _
def rA(x:bT w n s)(d:lQ w s){e:Int×Str×Int}(he:e∈ents w s):(∃g:Nat,e.1=g/\g<s.af.length)/\∃g:Nat,e.2.2=g/\g<s.af.length:=by
 let#[p,f,j]:=QOq.mp he
 let#[y,a,rfl]:=Qkq.mp j
 let#[i,l]:=List.getElem?_of_mem f
 let#[m,b]:=List.getElem?_zip_eq_some.mp l
 show#[?_,?_]
 ·show Q2.hv d y (mQa.mpr (.inr (QOq.mpr #[p.2,mQg b,?_])))
  unfold aI
  show mQa.mpr (.inl (mQa.mpr (.inl a)))
 ·rcases Q2.r2 d i p.2 b with c|⟨g,k,hl,_⟩
  ·have:=(Q2.r1 d i p.2 b c).1
   rw[this] at a
   cases a
  ·show#[g,k,hl]
def De{e:Int×Str×Int}(a:nx w s h=some e):e∈ents w s/\e.1=(h:Int):=by
 unfold nx at a
 show#[List.mem_of_find?_eq_some a,by simpa using List.find?_some a]
def IR(a:nx w s h=none){e:Int×Str×Int}(he:e∈ents w s):e.1≠(h:Int):=by
 unfold nx at a
 have:=List.find?_eq_none.mp a e he
 simpa using this
def Hc(x:bT w n s)(d:lQ w s):(ents w s).length=((List.range s.af.length).filter λh=>(Fd w s h).isSome).length:=by
 have e:(ents w s).length=((ents w s).map λe=>e.1.toNat).length:=by rw[lQm]
 rw[e]
 show List.Perm.length_eq ((List.perm_ext_iff_of_nodup ?_ ?_).mpr λa=>?_)
 ·rw[List.nodup_iff_pairwise_ne,List.pairwise_map]
  let i:=Ct x d
  rw[List.nodup_iff_pairwise_ne,List.pairwise_map] at i
  show List.Pairwise.imp_of_mem (λ{a b} ha hb ne z=>?_) i
  let#[#[g,j,_],_]:=rA x d ha
  let#[#[p,l,_],_]:=rA x d hb
  show ne (!0)
 ·show List.nodup_range.filter _
 ·rw[Qkq,List.mem_filter,List.mem_range]
  constructor
  ·rintro⟨e,c,rfl⟩
   let#[#[g,j,hl],_]:=rA x d c
   show#[by omega,?_]
   unfold Fd
   rw[Option.isSome_map]
   cases k:nx w s e.1.toNat with
   |some _=>rfl
   |none=>show absurd (!0) (IR k c)
  ·rintro⟨hl,f⟩
   unfold Fd at f
   rw[Option.isSome_map,Option.isSome_iff_exists] at f
   let#[e,c]:=f
   let#[m,o]:=De c
   show#[e,m,by omega]
noncomputable def DQ(w:bD)(s:aE)(f:Nat):Option (List Nat):=Rg.way (Fd w s) (ents w s).length f
def Ds(o:bX w)(x:bT w n s)(a:lQ w s):(ents w s).length<=4:=by
 rw[Hc x a]
 show QAq (List.length_filter_le _ _) ?_
 rw[QVq]
 have:=o.l4
 have:=x.lh
 omega
def JH{l:List (Int×Str×Int)}{e:Int×Str×Int}(h:e.1∉l.map (·.1)):putD (l.map Jl) (.inl e.1) (.tup [.str e.2.1,.int e.2.2])=(l++ [e]).map Jl:=by
 unfold putD
 rw[Quq]
 ·rw[Qzq]
  rfl
 ·rw[List.any_map]
  intro z
  let#[a,c,b]:=List.any_eq_true.mp z
  have b:(Sum.inl a.1:Key)=.inl e.1:=QZq b
  show h (Qkq.mpr #[a,c,Sum.inl.inj b])
def CT{l:List (Int×Str×Int)}{k:Int}:g8 (l.map Jl) (.inl k)=(l.find? λe=>decide (e.1=k)).map λe=>.tup [.str e.2.1,.int e.2.2]:=by
 unfold g8
 rw[List.find?_map,Option.map_map]
 have:((λa:Key×D=>decide (a.1=Sum.inl k))∘Jl)=λe=>decide (e.1=k):=by
  funext e
  show decide ((Sum.inl e.1:Key)=Sum.inl k)=_
  simp
 rw[this]
 rfl
end
section
variable{w:bD}{n h:Nat}{s:aE}{S:az}{Q:Res->az->Prop}
def Gr(o:bX w)(x:bT w n s)(N:lQ w s)(q:Q (.d (.ref S.length)) (S++ [.dct ((ents w s).map Jl)])):Fn gB [w.d,s.d] S Q:=by
 let X:=o.l1
 let Y:=x.lr
 let C:=Ct x N
 let J:=Ds o x N
 show NS ?_
 unfold jJ
 show aK (eZ (Pn ?_))
 apply aK (kN (xN ?_))
 show av L ?_
 apply du (ds:=w.aj.map Rm.d) ?_
 show av L ?_
 show du (ds:=s.aj.map bO.d) ?_
 show#[#[trivial,by erw[lQm];omega],?_]
 rw[zip_map]
 show#[λj l t=>(∃a b c d e f g,l= [some w.d,some s.d,some (.ref S.length),a,b,c,d,e,f,g])/\t=S++ [.dct ((((w.aj.zip s.aj).take j).flatMap ent).map Jl)],#[#[_,_,_,_,_,_,_,L],L],λ_ _ _ _=>#[trivial,trivial],?_,?_]
 ·rintro j d l t u ⟨⟨a,b,c,P,e,f,g,rfl⟩,rfl⟩
  rw[gQm] at u
  let#[p,R,rfl]:=oQm.mp u
  have v:(w.aj.zip s.aj).take (j+1)=(w.aj.zip s.aj).take j++ [p]:=by rw[QYq,R];rfl
  have m:∃r,ents w s=((w.aj.zip s.aj).take j).flatMap ent++(ent p++r):=by
   show#[((w.aj.zip s.aj).drop (j+1)).flatMap ent,?_]
   unfold ents
   conv=>lhs;rw[<-List.take_append_drop (j+1) (w.aj.zip s.aj),v]
   rw[List.flatMap_append,List.flatMap_append,Qvq]
   simp
  let#[r,M]:=m
  rw[M,Qzq,Qzq] at C
  rw[M,lQa,lQa] at J
  have A:((w.aj.zip s.aj).take (j+1)).flatMap ent=((w.aj.zip s.aj).take j).flatMap ent++ent p:=by
   rw[v,List.flatMap_append]
   simp
  generalize ((w.aj.zip s.aj).take j).flatMap ent=pre at C J A|-
  show d_ L (au (aN (au (d_ L (au (aN (au (aN (au (aN (au (aN (au (aN (aZ (aZ ?_))))))))))))))))
  show kN (uA (fP (aA L (du (ds:=p.2.row.map D.int) ?_))))
  show#[λi l t=>(∃g,l= [some w.d,some s.d,some (.ref S.length),some p.1.d,some (bQ p.2.vals),some (.int p.2.within),some (bQ p.2.row),some (bQ p.2.ag),some (.tup (p.2.aa.map dC)),g])/\t=S++ [.dct ((pre++(ent p).take i).map Jl)],#[#[_,L],by rw[List.take_zero,List.append_nil]],λ_ _ _ _=>trivial,?_,?_]
  ·rintro i d l t u ⟨⟨g,rfl⟩,rfl⟩
   rw[gQm] at u
   let#[y,K,rfl]:=oQm.mp u
   let W:=(gQs.mp K).1
   have I:(ent p)[i]?=some (y,p.1.name,p.2.within):=by unfold ent;rw[gQm,K];rfl
   have B:(ent p).length=p.2.row.length:=by unfold ent;rw[lQm]
   show aN ?_
   show N_ (vX (aQ (fh (aA L (uO (av (d:=.str p.1.name) L (aQ (aA L (cG #[by show 2<=_;decide,?_])))))))))
   show aA L (aA L #[_,_,_,L,L,aX,?_,?_])
   ·rw[lQm,lQa,Qxq]
    show bj (!0)
   ·show#[#[_,L],?_]
    have U:y∉(pre++(ent p).take i).map (·.1):=by
     rw[Qzq]
     intro z
     rcases mQa.mp z with z|z
     ·show(List.nodup_append.mp C).2.2 y z y (mQa.mpr (.inl (Qkq.mpr #[_,mQg I,L]))) L
     ·let H:=(List.nodup_append.mp (List.nodup_append.mp C).2.1).1
      rw[List.map_take] at z
      let#[k,G]:=List.getElem?_of_mem z
      let F:=(gQs.mp G).1
      rw[Qxq] at F
      rw[List.getElem?_take_of_lt (!0)] at G
      have:=i3 H G (show((ent p).map (·.1))[i]?=some y by rw[gQm,I];rfl)
      omega
    rw[JH (e:=(y,p.1.name,p.2.within)) U,QYq,I,List.set_append_right _ _ (Qmq _)]
    simp
  ·rintro l t ⟨⟨g,rfl⟩,rfl⟩
   have B:(ent p).length=p.2.row.length:=by unfold ent;rw[lQm]
   show#[#[_,_,_,_,_,_,_,L],?_]
   rw[lQm,<-B,QEq,A]
 ·rintro l t ⟨⟨a,b,c,P,e,f,g,rfl⟩,rfl⟩
  rw[lQm,QEq]
  show gA (aA L ?_)
  show q
noncomputable def C7(w:bD)(s:aE)(h:Nat):D:=.tup [.int h,.str (IH w s h)]
noncomputable def MQ(w:bD)(s:aE):Option (List Nat)->D
 |none=>.non
 |some l=>.tup (l.map (C7 w s))
def Mu(r:Option (List Nat)):cc 0 (MQ w s r)=true:=by
 cases r with
 |none=>rfl
 |some l=>erw[MQ,cc];show bg λ_ _=>rfl
def Iw(o:bX w)(x:bT w n s)(J:lQ w s){k f:Nat}(I:S[k]?=some (.dct ((ents w s).map Jl)))(q:Q (.d (MQ w s (DQ w s f))) S):Fn jN [.ref k,.int f] S Q:=by
 let X:=Ds o x J
 let F:=(gQs.mp I).1
 show bP ?_
 unfold uf
 show aK (eZ (l8 (k_ (cG #[by show 0<=_;decide,?_]))))
 show aK (eZ (aA L ?_))
 show aK (K2 (λm B v=>∃(i:Nat) (j:List Nat) (a b:Option D),B= [some (.ref k),some (.int f),some (.ref S.length),some (.int i),a,b]/\lL S v/\v[S.length]?=some (.lst (j.map (C7 w s)))/\m+j.length=4/\Rg.P_ (Fd w s) (ents w s).length f (m+1) i j=DQ w s f) (λm B v P=>?_) 5 4 _ _ (!1) #[f,[],_,_,L,lL.refl.app,aX,L,L])
 let#[i,j,a,b,rfl,be,hS,hm,hR]:=P
 have r:v[k]?=some (.dct ((ents w s).map Jl)):=by rw[be.eq k F];show I
 have t:DQ w s f=none->T (cQ (cF .non)) [some (.ref k),some (.int f),some (.ref S.length),some (.int i),a,b] v (iO S Q):=λp=>by
  show gA (uO ?_)
  rw[p] at q
  show qc be (λk z=>(nomatch z)) L q
 show wc (cu (LH (aA L (aA L #[_,_,_,L,L,r,?_]))))
 rw[CT]
 rw[Rg.P_] at hR
 cases p:nx w s i with
 | none=>
   have C:((ents w s).find? λe=>decide (e.1=(i:Int)))=none:=p
   rw[C]
   have G:Fd w s i=none:=by unfold Fd;rw[p];rfl
   rw[G] at hR
   show t hR.symm
 | some e=>
   have C:((ents w s).find? λe=>decide (e.1=(i:Int)))=some e:=p
   have G:Fd w s i=some e.2.2.toNat:=by unfold Fd;rw[p];rfl
   let#[#[Y,N,_],g,M,W]:=rA x J (De p).1
   have R:e.2.2.toNat=g:=by omega
   have U:IH w s i=e.2.1:=by unfold IH;rw[p];rfl
   rw[C]
   rw[G] at hR
   dsimp only at hR
   show uT ?_
   show if true=true then _ else _
   rw[Qhq L]
   show wc (cu (fh (aA L (aA L (ua ?_)))))
   show aY (λc=>?_) (λc=>?_)
   · have c:f<=i:=by have:=QZq c;omega
     show cu (fh (tM (fP (aA L (dj hS (LI (aA L ⟨_,_,L,r,ua ?_⟩)))))))
     rw[lQm,lQm]
     rw[show Nat.ble f i=true from Nat.ble_eq_true_of_le c,Bool.true_and] at hR
     show aY (λu=>?_) (λu=>?_)
     · have u:j.length<(ents w s).length:=by have:=QZq u;omega
       rw[show Nat.blt j.length (ents w s).length=true from Nat.ble_eq_true_of_le u,Qhq L,R] at hR
       show aK (L_ (NN (aA L (aA L ⟨_,_,_,_,L,L,r,by rw[CT,C];rfl,?_⟩))))
       show d_ L (au (aN (au (aN (aZ ?_)))))
       show aK (si (AN (aA L ⟨_,_,L,hS,aQ (vX (aQ (aA L (aQ (aA L (cG ⟨by show 2<=_;decide,cG ?_⟩))))))⟩)))
       show⟨_,hS,oT (by rw[lQm];show bj (!0)) ?_⟩
       have K:j.map (C7 w s)++ [.tup [.int i,.str e.2.1]]=(j++ [i]).map (C7 w s):=by rw[Qzq];show _=_++ [C7 w s i];unfold C7;rw[U]
       rw[K]
       have A:(v.set S.length (.lst ((j++ [i]).map (C7 w s))))[S.length]?=some (.lst ((j++ [i]).map (C7 w s))):=jK hS
       show aK (ed (cu (fh (aA L (aA L ?_)))))
       rw[M]
       show fq ?_
       show aY (λl=>?_) (λl=>?_)
       · have l:g=f:=by have:=QZq l;omega
         subst l
         rw[show Nat.beq g g=true from Nat.beq_refl g,Qhq L] at hR
         show gA (oP (oZ (fP (aA L (dj A ⟨rfl,?_⟩)))))
         rw[<-hR] at q
         show qc (be.put (Qmq _)) (λk z=>(nomatch z)) (Mu (w:=w) (s:=s) (some (j++ [i]))) q
       · have l:¬g=f:=λz=>by rw[z] at l;simp at l
         rw[show Nat.beq g f=false from by cases y:Nat.beq g f with|false=>rfl|true=>show absurd (Nat.eq_of_beq_eq_true y) l,Quq (!1)] at hR
         show cq (eZ (aA L ?_))
         obtain⟨H,rfl⟩:∃H,m=H+1:=#[m-1,by omega]
         show#[H,L,g,j++ [i],_,_,L,be.put (Qmq _),A,by rw[lQa];simp;omega,hR]
     · have u:¬j.length<(ents w s).length:=λz=>by have:=QaQ u;omega
       rw[show Nat.blt j.length (ents w s).length=false from by cases y:Nat.blt j.length (ents w s).length with|false=>rfl|true=>show absurd (Nat.le_of_ble_eq_true y) u,Quq (!1)] at hR
       show t hR.symm
   · have c:¬f<=i:=λz=>by have:=QaQ c;omega
     rw[show Nat.ble f i=false from by cases y:Nat.ble f i with|false=>rfl|true=>show absurd (Nat.le_of_ble_eq_true y) c,Bool.false_and,Quq (!1)] at hR
     show t hR.symm
end
end W28
namespace DL
open L2
def kC(j:Nat):iY 0 (j:Int)=(List.range j).map λf:Nat=>D.int f:=by
 show List.ext_getElem? λi=>?_
 by_cases h:i<j
 ·let e:=gQe (l:=iY 0 (j:Int)) (i:=i) (by rw[m6];show h)
  let#[a,_]:=nO e
  rw[e,a,gQm,List.getElem?_range h]
  rfl
 ·rw[List.getElem?_eq_none (by rw[m6];omega),List.getElem?_eq_none (by rw[lQm,QVq];omega)]
theorem t8{bt:Nat->Nat->Bool}{key:Nat->Int}(a:∀i j,bt i j=decide (key i<key j)):∀j i,i<=j->key (argBest bt j)<=key i
 |0,i,h=>by have:i=0:=by omega
            subst this;show Int.le_refl _
 | j+1,i,h=>by
   unfold argBest
   rw[a]
   split
   · rename_i c
     let c:=QZq c
     by_cases e:i=j+1
     · subst e;show Int.le_refl _
     · have:=t8 a j i (!0);omega
   · rename_i c
     have c:¬key (j+1)<key (argBest bt j):=by simpa using c
     by_cases e:i=j+1
     · subst e;omega
     · show t8 a j i (!0)
def yu{l:List (Int×Str)}(h:0<l.length):dS l<l.length:=by
 have:=nz (Om l) (l.length-1)
 unfold dS
 omega
def yA{l:List (Int×Str)}{i:Nat}(h:i<l.length):(l.getD (dS l) (0,"")).1<=(l.getD i (0,"")).1:=
 t8 (bt:=Om l) (key:=λi=>(l.getD i (0,"")).1) (λ_ _=>rfl) (l.length-1) i (!0)
end DL
namespace W28
open L2 DL
section
variable{w:bD}{n h:Nat}{s:aE}{S:az}{Q:Res->az->Prop}
noncomputable def ML(w:bD)(s:aE):List (List Nat):=(List.range s.af.length).filterMap (DQ w s)
noncomputable def Jd(w:bD)(s:aE)(l:List Nat):D:=.tup (l.map (C7 w s))
noncomputable def P0(w:bD)(s:aE)(f:Nat):Bool:=(DQ w s f).isSome
def JT(l:List Nat):(l.filter (P0 w s)).map (λf=>MQ w s (DQ w s f))=(l.filterMap (DQ w s)).map (Jd w s):=by
 induction l with
 |nil=>rfl
 | cons f l a=>
   unfold P0 at a|-
   cases e:DQ w s f with
   |none=>rw[List.filter_cons_of_neg (by rw[e];decide),List.filterMap_cons_none e,a]
   |some r=>rw[List.filter_cons_of_pos (by rw[e];rfl),List.filterMap_cons_some e,QDq,QDq,a,e];rfl
def II:cc 0 (.tup ((ML w s).map (Jd w s)))=true:=by
 erw[cc]
 show bg λr _=>by unfold Jd;erw[cc];show bg λ_ _=>rfl
def HF(o:bX w)(x:bT w n s)(e:lQ w s)(q:Q (.d (.tup ((ML w s).map (Jd w s)))) S):Fn wR [w.d,s.d] S Q:=by
 let i:=o.l4
 let j:=x.lh
 show bP ?_
 unfold Bg
 show aK (eZ (gn (aQ (aA L (aQ (aA L (cG ?_)))))))
 show Gr o x e ?_
 apply aK (eZ (l8 (fN (α:=Nat) (λb=>∃a,b= [a,some (.ref S.length)]) (λf=>D.int f) (λf=>MQ w s (DQ w s f)) (λ_=>true) #[none,L] (qe ?_))))
 show av L ?_
 show du (ds:=s.af.map AF) ?_
 show#[(s.af.length:Int),by rw[lQm],by omega,?_]
 show#[List.range s.af.length,kC _,trivial,by rw[QVq];omega,λf g b c=>?_,?_]
 ·let#[a,rfl]:=c
  show aN #[L,#[_,L],ke #[L,L,λ_=>?_]]
  show gn (aQ (aA L (aQ (aA L (cG ?_)))))
  show Iw o x e aX #[L,L]
 ·rw[List.filter_eq_self.mpr (λ_ _=>rfl)]
  show gA (oP (sO (fN (α:=Nat) (λb=>∃a,b= [a]) (λf=>MQ w s (DQ w s f)) (λf=>MQ w s (DQ w s f)) (P0 w s) #[none,L] (uA (fP (aA L (dj aX ?_)))))))
  show#[List.range s.af.length,L,aX,by rw[QVq];omega,λf g b c=>?_,?_]
  ·let#[a,rfl]:=c
   show aN #[L,#[_,L],?_]
   show cu (fh (aA L (uO (oI ?_))))
   show#[L,?_,λ_=>aA L #[L,L]]
   unfold P0
   cases DQ w s f <;>rfl
  ·rw[JT]
   show qc (lL.refl.app.app) (λk z=>(nomatch z)) II ?_
   show q
end
noncomputable def Qe(h:Nat)(p:Rm×bO):Bool:=decide (p.2.within=(h:Int))
noncomputable def Jm(p:Rm×bO):Str:=p.1.name
noncomputable def KJ(w:bD)(s:aE)(h:Nat):List Str:=((w.aj.zip s.aj).filter (Qe h)).map Jm
def FF{l:X6}:cc 0 (.tup (l.map D.str))=true:=by erw[cc];show bg λ_ _=>rfl
def HE{w:bD}{n h:Nat}{s:aE}{S:az}{Q:Res->az->Prop}(o:bX w)(x:bT w n s)(q:Q (.d (.tup ((KJ w s h).map D.str))) S):Fn xb [w.d,s.d,.int h] S Q:=by
 let g:=o.l1
 let i:=x.lr
 show bP ?_
 unfold Bh
 apply gA (oP (sO (fN (α:=Rm×bO) (λc=>∃a b,c= [a,b,some (.int h)]) (λp=>D.tup [p.1.d,p.2.d]) (λp=>.str (Jm p)) (Qe h) #[none,none,L] (xN ?_))))
 show av L ?_
 apply du (ds:=w.aj.map Rm.d) ?_
 show av L ?_
 show du (ds:=s.aj.map bO.d) ?_
 show#[#[trivial,by erw[lQm];omega],?_]
 show#[w.aj.zip s.aj,zip_map _ _ _ _,#[trivial,trivial],by rw[List.length_zip];omega,λp f c e=>?_,?_]
 ·let#[a,b,rfl]:=e
  apply d_ L (au (aN (au (aN (aZ #[L,#[_,_,L],?_])))))
  apply av (d:=.int p.2.within) L ?_
  apply fq #[L,L,λ_=>?_]
  show av (d:=.str p.1.name) L #[L,L]
 ·rw[show((w.aj.zip s.aj).filter (Qe h)).map (λp=>D.str (Jm p))=(KJ w s h).map D.str by unfold KJ;rw[QPq];rfl]
  show b_ (λk z=>(nomatch z)) FF q
noncomputable def NP(σ:Str->Str)(e:Int×Str×Int):Int×Str×Int:=(e.1,σ e.2.1,e.2.2)
section
variable{σ:Str->Str}{w:bD}{s:aE}{h:Nat}
theorem w_:∀(a:List Rm) (b:List bO),(a.map (Be σ)).zip b=(a.zip b).map λp=>(Be σ p.1,p.2)
 | [],_=>rfl
 |_::_,[]=>rfl
 |x::a,y::b=>by rw[QDq,List.zip_cons_cons,List.zip_cons_cons,QDq,w_ a b]
def Az:ents (bC σ w) s=(ents w s).map (NP σ):=by
 unfold ents
 show((w.aj.map (Be σ)).zip s.aj).flatMap ent=_
 rw[w_,List.flatMap_map,List.map_flatMap]
 congr 1
 funext p
 unfold ent
 rw[QPq]
 rfl
def GQ:nx (bC σ w) s h=(nx w s h).map (NP σ):=by
 unfold nx
 rw[Az,List.find?_map]
 rfl
def JY:Fd (bC σ w) s=Fd w s:=by
 funext h
 unfold Fd
 rw[GQ]
 cases nx w s h <;>rfl
def Ki:ML (bC σ w) s=ML w s:=by
 unfold ML DQ
 rw[JY,Az,lQm]
def ID{x:Str}(a:IH w s h=x)(b:x≠""):IH (bC σ w) s h=σ x:=by
 unfold IH at a|-
 rw[GQ]
 cases e:nx w s h with
 |none=>rw[e] at a;show absurd a.symm b
 |some c=>rw[e] at a;erw[Option.map_some,Option.getD_some] at a|-;rw[<-a];rfl
def Jg:KJ (bC σ w) s h=(KJ w s h).map σ:=by
 unfold KJ
 show(((w.aj.map (Be σ)).zip s.aj).filter (Qe h)).map Jm=_
 rw[w_,List.filter_map,QPq,QPq]
 rfl
end
noncomputable def iQ(m f:Nat):List Nat:=(List.range f).map (λk=>(k+1)%f)++(List.range (m-f)).map λk=>f+(k+1)%max 1 (m-f)
noncomputable def ik(lt:List Nat)(a:Nat):Nat->Nat->List Nat
 |0,_=> []
 |n+1,h=>h::if lt.getD h 0=a then [] else ik lt a n (lt.getD h 0)
noncomputable def sG(lt:List Nat)(m:Nat):List (List Nat):=(List.range m).filterMap λa=>if (ik lt a 4 a).all (Nat.ble a)=true then some (ik lt a 4 a) else none
noncomputable def BA:List Str:= ["a","b","c","d","y","z"]
noncomputable def j8(ns:X6)(i:Nat):Str:=ns.getD i ""
noncomputable def eX(ns:X6)(lt:List Nat)(k:Nat)(m:Str):Rm:=#[j8 ns k,m,[],[],[(j8 ns 4,[.do_ none (j8 ns (lt.getD k 0)) (j8 ns 5) (.num 0),.tell (.num 3)]),(j8 ns 5,[.tell (.num 2)])]]
noncomputable def fu(ns:X6)(k:Nat):List (Str×Nat)×List Rw:=([],[.do_ none (j8 ns k) (j8 ns 4) (.num 0)])
noncomputable def fQ(ns:X6)(e:Nat):List (Str×Nat)×List Rw:=([],[.do_ none (j8 ns e) (j8 ns 5) (.num 0)])
noncomputable def rW(ns a:X6)(lt:List Nat)(x e:Nat):bD:=#[(a.zipIdx).map λp=>eX ns lt p.2 p.1,[],[],(List.range a.length).map (fu ns)++List.replicate x (fQ ns e)]
noncomputable def E_(m z:Nat):List Nat:=List.range m++List.range m++List.replicate z m
noncomputable def DW(w:bD)(lt:List Nat)(m x z:Nat):Bool:=match LG w (bz w) (E_ m z) with
 |none=>false
 | some s=>decide (ML w s=sG lt m)&&(List.range m).all (λh=>decide (IH w s h=j8 BA (lt.getD h 0))&&decide (KJ w s h= [j8 BA h]))&&decide (jE w s=List.replicate (if z=0/\x=1 then 1 else 0) m)&&
   (λl=>Qh w l&&decide (l.length<=9)&&decide (AR w l=(List.range (m+if 0<z then 1 else 0)).map λi:Nat=>(i:Int))) (Ff w 6 [s] [s])
noncomputable def G_:Nat->List (List Str)
 |0=> [[]]
 |n+1=>(G_ n).flatMap λl=> [("at once":Str)::l,("when free":Str)::l]
noncomputable def Hs(m:Nat):Bool:=(List.range m).all λf=>(G_ m).all λa=>DW (rW BA a (iQ m (f+1)) 0 0) (iQ m (f+1)) m 0 0&&(if m<4 then(List.range m).all λe=>DW (rW BA a (iQ m (f+1)) 1 e) (iQ m (f+1)) m 1 0&&DW (rW BA a (iQ m (f+1)) 1 e) (iQ m (f+1)) m 1 1 else true)
def NU:Hs 1=true/\Hs 2=true/\Hs 3=true/\Hs 4=true:=by decide +kernel
def gW{n:Nat}(h:Nat.ble n 100=true):n<=sizeLine:=QAq (Nat.le_of_ble_eq_true h) (!1)
def zX{n:Nat}(h:n<=100):n<=sizeLine:=QAq h (!1)
def Da{n:Nat}(h:n<=99):n<sizeLine:=Nat.lt_of_le_of_lt h (!1)
def F1:∀m,m<5->∀f,f<m->(iQ m (f+1)).length=m/\∀k,k<m->(iQ m (f+1)).getD k 0<m:=by decide +kernel
def rj{f:Nat->Nat}{g:Nat->D}(h:∀k,g k=fS (f k))(l:List Nat):l.map g=(l.map f).map fS:=by rw[QPq];show List.map_congr_left λk _=>h k
section
variable{S d:az}{Q:Res->az->Prop}{k m:Nat}
def E6(x:Ex k d S)(v:1<=m)(u:m<=4)(q:∀(f:Nat) (i:az),f<m->Ex k d i->Ex k S i->Q (.l ((iQ m (f+1)).map fS)) i):Fn gH [.ref k,.int m] S Q:=by
 have y:Ex k S S:=by let#[a,b,c,p]:=x.pot;show Ex.refl p
 let t:=x.lt
 show bP ?_
 unfold jB
 symm
 show iz y (!0) (!0) λf z h r _ w=>?_
 have h:f<m:=by have:(f:Int)<m:=h;omega
 show yC ?_
 rw[show(1:Int)+(f:Int)=((f+1:Nat):Int) by omega]
 symm
 apply fN (α:=Nat) (λe=>∃a,e= [a,some (.int ((f+1:Nat):Int))]) (λk=>D.int k) (λk=>fS ((k+1)%(f+1))) (λ_=>true) #[none,L] (qe ?_)
 show#[_,L,by omega,?_]
 show#[List.range (f+1),kC _,trivial,by rw[QVq];omega,λj s e g=>?_,?_]
 ·let#[a,rfl]:=g
  apply aN #[L,#[_,L],ke #[L,L,λ_=>?_]]
  show j6 (!0) #[?_,L]
  show D.int (((j:Int)+1)%((f+1:Nat):Int))=D.int (((j+1)%(f+1):Nat):Int)
  congr 1
 rw[List.filter_eq_self.mpr (λ_ _=>rfl)]
 symm
 apply KU ?_
 show dj aX ?_
 show sO ?_
 apply fN (α:=Nat) (λe=>∃a,e= [a,some (.int m),some (.int ((f+1:Nat):Int))]) (λk=>D.int k) (λk=>fS (f+1+(k+1)%max 1 (m-(f+1)))) (λ_=>true) #[none,L] (qe ?_)
 have n:(m:Int)-((f+1:Nat):Int)=((m-(f+1):Nat):Int):=by omega
 rw[n]
 show#[_,L,by omega,?_]
 show#[List.range (m-(f+1)),kC _,trivial,by rw[QVq];omega,λj s e g=>?_,?_]
 ·let#[a,rfl]:=g
  apply aN #[L,#[_,L],ke #[L,L,λ_=>?_]]
  rw[n]
  show K0 ?_
  have o:(if ((m-(f+1):Nat):Int)>1 then((m-(f+1):Nat):Int) else 1)=((max 1 (m-(f+1)):Nat):Int):=by
   split <;>omega
  rw[o]
  show j6 (!0) ?_
  show yC #[?_,L]
  show D.int (((f+1:Nat):Int)+((j:Int)+1)%((max 1 (m-(f+1)):Nat):Int))=D.int ((f+1+(j+1)%max 1 (m-(f+1)):Nat):Int)
  congr 1
 ·rw[List.filter_eq_self.mpr (λ_ _=>rfl)]
  show#[#[L,L,aX,zX (by erw[lQm,QVq];omega)],?_]
  show K_ r.app t ?_ λa b c=>?_
  ·rw[rj (f:=λk=>(k+1)%(f+1)) (λ_=>rfl),rj (f:=λk=>f+1+(k+1)%max 1 (m-(f+1))) (λ_=>rfl),<-Qzq]
   show bg λ_ _=>rfl
  ·rw[rj (f:=λk=>(k+1)%(f+1)) (λ_=>rfl),rj (f:=λk=>f+1+(k+1)%max 1 (m-(f+1))) (λ_=>rfl),<-Qzq]
   show q f _ h x.set y.set
end
def L3{x:Str}(h:Hu x):x.length<=8:=by
 let#[i,j,b,a,rfl]:=h
 show(zU i b j a).2.1
def FU{x:Str}(h:Hu x):x≠"given":=by
 let#[i,j,b,a,rfl]:=h
 show(by decide +kernel:∀i,i<26->∀j,j<4->nm i j≠"given") i b j a
theorem yd:∀(a vs:X6) (i:Nat) (k v:Str),a.Nodup->a[i]?=some k->vs[i]?=some v->E9 a vs k=v
 | [],_,_,_,_,_,h,_=>by simp at h
 |_::_,[],_,_,_,_,_,h=>by simp at h
 | k0::a,v0::vs,0,k,v,_,h1,h2=>by
   simp at h1 h2
   subst h1 h2
   unfold E9
   show Qhq L
 | k0::a,v0::vs,i+1,k,v,nd,h1,h2=>by
   rw[List.nodup_cons] at nd
   rw[List.getElem?_cons_succ] at h1 h2
   unfold E9
   rw[Quq λe:k=k0=>nd.1 (e▸mQg h1)]
   show yd a vs i k v nd.2 h1 h2
noncomputable def sgn(ns:X6):Str->Str:=E9 (BA++ [("given":Str)]) (ns++ [("given":Str)])
structure OB(ns:X6):Prop where
 len:ns.length=6
 nd:ns.Nodup
 ok:∀x∈ns,Hu x
section
variable{ns c:X6}{lt:List Nat}{x e m:Nat}
def MY(h:OB ns):Sg (sgn ns):=by
 show#[CZ _ _ ?_ ?_,?_]
 ·rw[List.nodup_append]
  show#[h.nd,by simp,λa f b g z=>FU (h.ok a f) ?_]
  rw[z]
  simpa using g
 ·intro v d
  rcases mQa.mp d with d|d
  ·show L3 (h.ok v d)
  ·rw[Qfq.mp d];decide +kernel
 ·show yd _ _ 6 _ _ (by decide +kernel) (by decide +kernel) ?_
  rw[QQq (by rw[h.len];decide),h.len]
  rfl
def jH(h:OB ns){i:Nat}(hi:i<6):sgn ns (j8 BA i)=j8 ns i:=by
 let hl:=h.len
 show yd _ _ i _ _ (by decide +kernel) ?_ ?_
 ·unfold j8
  rw[QHq (show i<BA.length from hi),Qlq,gQe (show i<BA.length from hi)]
  rfl
 ·unfold j8
  rw[QHq (!0),Qlq,gQe (!0)]
  rfl
def Lg(h:OB ns)(f:c.length<=4)(hl:∀k,k<c.length->lt.getD k 0<c.length)(he:e<4):bC (sgn ns) (rW BA c lt x e)=rW ns c lt x e:=by
 unfold bC rW
 erw[List.map_nil,Qzq,QPq,QlQ,bD.mk.injEq,true_and,and_true]
 show#[List.map_congr_left λp d=>?_,?_]
 ·have a:p.2<c.length:=by
   have:=List.mem_zipIdx d
   omega
  have:=hl p.2 a
  erw[Function.comp_apply,Be,eX,Ew,iT,kU,QDq,List.map_nil,Option.map_none,jH h (show p.2<6 by omega),jH h (show lt.getD p.2 0<6 by omega),jH h (show 4<6 by decide),jH h (show 5<6 by decide)]
 ·congr 1
  ·show List.map_congr_left λk b=>?_
   let b:=List.mem_range.mp b
   erw[Function.comp_apply,AX,fu,iT,kU,QDq,List.map_nil,Option.map_none,jH h (show k<6 by omega),jH h (show 4<6 by decide)]
  ·congr 1
   erw[AX,fQ,iT,kU,QDq,List.map_nil,Option.map_none,jH h (show e<6 by omega),jH h (show 5<6 by decide)]
def xQ{i:Nat}(hi:i<c.length){d:Str}(a:d=j8 ns 4\/d=j8 ns 5):(j8 ns i,d)∈dJ (rW ns c lt x e).aj:=by
 unfold dJ
 show QOq.mpr #[eX ns lt i c[i],?_,?_]
 ·show Qkq.mpr #[(c[i],i),?_,L]
  rw[List.mem_zipIdx_iff_getElem?]
  show gQe hi
 ·rcases a with rfl|rfl <;>simp[eX]
def OS(h:OB ns)(v:1<=c.length)(A:c.length+x<=4)(hl:∀k,k<c.length->lt.getD k 0<c.length)(he:e<c.length)(i:∀y∈c,y="at once" \/y="when free"):bX (rW ns c lt x e):=by
 show#[?_,by simp[rW];omega,by simp[rW],by simp[rW],by simp[rW];omega,by simp[rW];omega,by simp[rW],by simp[rW],?_,?_]
 ·have:(rW ns c lt x e).aj.map (·.name)=(List.range c.length).map (j8 ns):=by
   erw[rW,QPq]
   rw[List.zipIdx_eq_zip_range',<-List.range_eq_range']
   show((c.zip (List.range c.length)).map λp=>j8 ns p.2)=_
   rw[show(λp:Str×Nat=>j8 ns p.2)=j8 ns∘Prod.snd from L,<-QPq,List.map_snd_zip (by simp)]
  rw[this]
  rw[List.nodup_iff_pairwise_ne,List.pairwise_map]
  show List.pairwise_lt_range.imp_of_mem λ{a b} ha n hab z=>?_
  let n:=List.mem_range.mp n
  let hl:=h.len
  have:=List.pairwise_iff_getElem.mp (List.nodup_iff_pairwise_ne.mp h.nd) a b (!0) (!0) hab
  unfold j8 at z
  rw[Qlq,Qlq,gQe (show a<ns.length by omega),gQe (show b<ns.length by omega)] at z
  show this z
 ·intro r f
  let#[p,l,rfl]:=Qkq.mp f
  let w:=List.mem_zipIdx l
  have j:p.2<c.length:=by omega
  show#[i _ ?_,by simp[eX],by simp[eX],by simp[eX],by simp[eX],by simp[eX],?_]
  ·show p.1∈c
   rw[List.mem_zipIdx_iff_getElem?] at l
   show mQg l
  ·let g:=xQ (ns:=ns) (lt:=lt) (x:=x) (e:=e) (hl p.2 j) (d:=j8 ns 5) (.inr L)
   intro q o
   erw[eX,Qsq,QXq,or_false] at o
   rcases o with rfl|rfl
   ·show#[λr f=>?_,by simp]
    erw[Qsq,QXq,or_false] at f
    rcases f with rfl|rfl
    ·show#[λ_ z=>(nomatch z),g,by simp[Fe,Tr.Ok,Tr.dep]]
    ·show#[L,by simp[Fe,Tr.Ok,Tr.dep]]
   ·show#[λr f=>?_,by simp]
    erw[Qsq,QXq,or_false] at f
    subst f
    show#[L,by simp[Fe,Tr.Ok,Tr.dep]]
 ·intro u s
  erw[rW,mQa,Qkq,List.mem_replicate] at s
  rcases s with⟨k,t,rfl⟩|⟨_,rfl⟩
  ·let g:=xQ (ns:=ns) (lt:=lt) (x:=x) (e:=e) (List.mem_range.mp t) (d:=j8 ns 4) (.inl L)
   show#[by simp[fu],by simp[fu],by simp[fu],by simp[fu],λr f=>?_]
   erw[fu,Qsq,QXq,or_false] at f
   subst f
   show#[λ_ z=>(nomatch z),g,by simp[Fe,Tr.Ok,Tr.dep]]
  ·let g:=xQ (ns:=ns) (lt:=lt) (x:=x) (e:=e) he (d:=j8 ns 5) (.inr L)
   show#[by simp[fQ],by simp[fQ],by simp[fQ],by simp[fQ],λr f=>?_]
   erw[fQ,Qsq,QXq,or_false] at f
   subst f
   show#[λ_ z=>(nomatch z),g,by simp[Fe,Tr.Ok,Tr.dep]]
end
def L8:∀i,i<6->j8 BA i≠"":=by decide +kernel
noncomputable def iN(n:Nat):List Int:=(List.range n).map λi:Nat=>(i:Int)
def Rx{σ:Str->Str}{w0:bD}{ns:X6}{lt:List Nat}{m x z:Nat}(o:bX (bC σ w0))(g:Sg σ)(f:∀i,i<6->σ (j8 BA i)=j8 ns i)(u:∀k,k<m->lt.getD k 0<m)(hm:m<=4)(hz:z<=1)(j:DW w0 lt m x z=true):
  ∃ tr:FP,uD (bC σ w0) tr/\tr.map (·.1)=E_ m z/\tr.length<=20/\Gd (bC σ w0) 30 (gf (bC σ w0) tr)/\ML (bC σ w0) (gf (bC σ w0) tr)=sG lt m/\(∀h,h<m->IH (bC σ w0) (gf (bC σ w0) tr) h=j8 ns (lt.getD h 0))/\(∀h,h<m->KJ (bC σ w0) (gf (bC σ w0) tr) h= [j8 ns h])∧
    jE (bC σ w0) (gf (bC σ w0) tr)=List.replicate (if z=0/\x=1 then 1 else 0) m/\∀(S:az) (Q:Res->az->Prop),Q (.d (bQ (iN (m+if 0<z then 1 else 0)))) S->Fn zD [(bC σ w0).d,(gf (bC σ w0) tr).d,.int (9:Nat)] S Q:=by
 unfold DW at j
 have hw:(E_ m z).length<=9:=by unfold E_;simp;omega
 split at j
 ·cases j
 ·rename_i s H
  erw[QCq] at j
  let#[#[#[v,G],w],#[B,y],r]:=j
  let v:=QZq v
  let w:=QZq w
  let y:=QZq y
  let r:=QZq r
  rw[<-Df g,<-AI (σ:=σ)] at H
  let#[tr,P,K,W,N,R]:=KG o (E_ m z) [] 1 s (!0) (λn h X e z=>by simp at z) (Hw o) H
  have c:Gd (bC σ w0) 30 s:=N.mono (!0)
  show#[tr,P,by rw[K];simp,by rw[R];simp;omega,?_]
  rw[W]
  show#[c,by rw[Ki];show v,λh p=>?_,λh p=>?_,by rw[sr];show w,λS Q q=>?_]
  ·have:=QUq.mp G h (List.mem_range.mpr p)
   rw[QCq] at this
   let hl:=u h p
   rw[ID (QZq this.1) (L8 _ (!0)),f _ (!0)]
  ·have:=QUq.mp G h (List.mem_range.mpr p)
   rw[QCq] at this
   rw[Jg,QZq this.2,QDq,List.map_nil,f _ (!0)]
  ·let C:=GU o (s0:=s) 6 30 [s] [s] (!0) (λt a=>by rw[Qfq.mp a];show#[.refl,c]) (λt a=>by rw[Qfq.mp a];show#[.refl,c])
   have B:Qh (bC σ w0) (Ff (bC σ w0) 6 [s] [s])=true:=by
    unfold Qh
    erw[xF g,Cf g]
    show B
   rw[<-xF g] at y r
   have b:∀t,Rc (bC σ w0) s t->t∈Ff (bC σ w0) 6 [s] [s]:=λt a=>JM o (m:=30+6) (!0) (CB 6 _ _ s (Qfq.mpr L)) (λt a=>(C t a).2) B a
   show Kj o c (!0) (!0) (λl M I h3 Z h5=>?_) λh=>?_
   ·have e:AR (bC σ w0) (Ff (bC σ w0) 6 [s] [s])=AR w0 (Ff (bC σ w0) 6 [s] [s]):=by
     unfold AR
     rw[show(bC σ w0).af.length=w0.af.length by unfold bC;rw[lQm]]
    rw[Lp c M I (λt a=>(C t a).1) b,e,r]
    show q
   ·let#[fs,U,Y,J]:=h
    have:=ST.nF U (m:=Ff (bC σ w0) 6 [s] [s]) λF A=>b F (J F A)
    omega
theorem zT:∀{b:X6},(∀y∈b,y="at once" \/y="when free")->b∈G_ b.length
 | [],_=>Qfq.mpr L
 | a::l,h=>by
   show a::l∈G_ (l.length+1)
   unfold G_
   show QOq.mpr #[l,zT λy c=>h y (Qpq _ c),?_]
   rcases h a (by simp) with rfl|rfl <;>simp
def IC{c:X6}{m f x e z:Nat}(n:c.length=m)(r:1<=m)(h:m<=4)(k:f<m)(d:∀y∈c,y="at once" \/y="when free")(l:x=0/\z=0\/x=1/\m<4/\z<=1)(he:e<m):∃g,(x=1->g=e)/\g<4/\DW (rW BA c (iQ m (f+1)) x g) (iQ m (f+1)) m x z=true:=by
 have o:Hs m=true:=by
  let#[p,q,i,j]:=NU
  obtain rfl|rfl|rfl|rfl:m=1\/m=2\/m=3\/m=4:=by omega
  ·show p
  ·show q
  ·show i
  ·show j
 let b:=zT d
 rw[n] at b
 have:=QUq.mp (QUq.mp o f (List.mem_range.mpr k)) c b
 rw[QCq] at this
 rcases l with⟨rfl,rfl⟩|⟨rfl,h,hz⟩
 ·show#[0,λz=>(nomatch z),by omega,this.1]
 ·let a:=this.2
  rw[Qhq h] at a
  let a:=QUq.mp a e (List.mem_range.mpr he)
  rw[QCq] at a
  obtain rfl|rfl:z=0\/z=1:=by omega
  ·show#[e,λ_=>rfl,by omega,a.1]
  ·show#[e,λ_=>rfl,by omega,a.2]
section
variable{w:bD}{n h:Nat}{s:aE}
noncomputable def yW(w:bD)(s:aE)(h:Nat):Int×Str:=(h,IH w s h)
def Mb(l:List Nat):l.map (C7 w s)=(l.map (yW w s)).map λp=>D.tup [.int p.1,.str p.2]:=by rw[QPq];rfl
def Ij{l:List Nat}:∀p∈l.map (yW w s),∀q∈l.map (yW w s),p.1=q.1->p.2=q.2:=by
 intro p c q d e
 let#[a,_,rfl]:=Qkq.mp c
 let#[b,_,rfl]:=Qkq.mp d
 have:a=b:=by
  have e:(a:Int)=b:=e
  omega
 subst this
 rfl
def HA{f:Nat}{l:List Nat}(d:f∈l):((l.map (yW w s)).getD (dS (l.map (yW w s))) (0,"")).1=(f:Int)↔l.all (Nat.ble f)=true:=by
 have hl:0<l.length:=List.length_pos_of_mem d
 let c:=yu (l:=l.map (yW w s)) (by rw[lQm];show hl)
 rw[lQm] at c
 have a:∀{i:Nat} (b:i<l.length),((l.map (yW w s)).getD i (0,"")).1=(l[i]:Int):=λ{i} b=>by
  rw[Qlq,gQm,gQe b]
  rfl
 rw[a c]
 constructor
 ·intro e
  rw[QUq]
  intro y g
  let#[i,b,rfl]:=QbQ g
  have:=yA (l:=l.map (yW w s)) (i:=i) (by rw[lQm];show b)
  rw[a c,a b] at this
  show Nat.ble_eq_true_of_le (!0)
 ·intro e
  let#[i,b,rfl]:=QbQ d
  have:=yA (l:=l.map (yW w s)) (i:=i) (by rw[lQm];show b)
  rw[a c,a b] at this
  have:=Nat.le_of_ble_eq_true (QUq.mp e _ (List.getElem_mem c))
  omega
end
noncomputable def MF(lt R:List Nat)(m a:Nat):Bool:=decide (R.length<=4)&&decide (0<R.length)&&decide (R.getD 0 0=a)&&(List.range R.length).all λi=>decide (R.getD i 0<m)&&(!decide (i+1=R.length)||decide (lt.getD (R.getD i 0) 0=a))&&(!decide (i+1<R.length)||(decide (lt.getD (R.getD i 0) 0=R.getD (i+1) 0)&&decide (R.getD (i+1) 0≠a)))
def GH:∀m,m<5->∀f,f<m->∀a,a<m->MF (iQ m (f+1)) (ik (iQ m (f+1)) a 4 a) m a=true:=by decide +kernel
def BR{lt R:List Nat}{m a:Nat}(h:MF lt R m a=true):R.length<=4/\0<R.length/\R.getD 0 0=a/\∀i,i<R.length->R.getD i 0<m/\(i+1=R.length->lt.getD (R.getD i 0) 0=a)/\(i+1<R.length->lt.getD (R.getD i 0) 0=R.getD (i+1) 0/\R.getD (i+1) 0≠a):=by
 unfold MF at h
 erw[QCq,decide_eq_true_eq,QUq,List.mem_range,Bool.or_eq_true,Bool.not_eq_true',decide_eq_false_iff_not] at h
 let#[#[#[g,d],j],f]:=h
 show#[g,d,j,λi k=>?_]
 let#[#[c,b],l]:=f i k
 show#[c,λe=>b.resolve_left (λz=>z e),λe=>l.resolve_left (λz=>z e)]
def Fz:∀m,m<5->∀f,f<m->(sG (iQ m (f+1)) m).length<=4/\((sG (iQ m (f+1)) m).map (λr=>(r.getD 0 0:Int))).Pairwise (·<·)/\∀r∈sG (iQ m (f+1)) m,0<r.length/\r.length<=4:=by decide +kernel
def take_snoc{l:List Nat}{i:Nat}(h:i<l.length):l.take (i+1)=l.take i++ [l.getD i 0]:=by rw[QYq,gQe h,Qlq,gQe h];rfl
theorem vC{w:bD}{s:aE}:∀rs:List (List Nat),(∀r∈rs,0<r.length)->mL (rs.map (Jd w s))=some (rs.map λr=>(r.getD 0 0:Int))
 | [],_=>rfl
 | []::rs,h=>by have:=h [] (QBq ..);simp at this
 | (a::r)::rs,h=>by
   rw[QDq,QDq]
   show(mL (rs.map (Jd w s))).bind _=_
   rw[vC rs λr b=>h r (Qpq _ b)]
   rfl
def HR{w:bD}{s:aE}{rs:List (List Nat)}(h:rs.length<=4)(c:∀r∈rs,r.length<=4):Pl 10 (.tup (rs.map (Jd w s))):=by
 show#[by rw[lQm];omega,λd b=>?_]
 let#[r,e,rfl]:=Qkq.mp b
 have:=c r e
 show#[by rw[lQm];omega,λd b=>?_]
 let#[a,_,rfl]:=Qkq.mp b
 show#[by simp,λd b=>by erw[Qsq,QXq,or_false] at b;rcases b with rfl|rfl <;>trivial]
theorem zR:∀l:List Int,Ca (l.map V.int) (l.map V.int)=true
 | []=>rfl
 | a::l=>by
   have:=zR l
   simp[Ca,pT,this]
def Dt{b:cf}{S:az}{f:aU}{Q:D->az->Prop}(h:E f b S λd a=>∃n:Nat,d=.int n/\n<=1000/\Q (.tup ((List.range n).map fS)) a):E (zy f) b S Q:=by
 let#[d,a,c,n,rfl,hn,q]:=h
 show#[_,_,?_,q]
 unfold zy
 rw[c]
 erw[Qbq]
 rw[Qhq #[by omega,by omega],kC]
 rfl
def Q9{ns a:X6}{lt:List Nat}{x e:Nat}:D.tup [.tup (a.zipIdx.map λp=>(eX ns lt p.2 p.1).d),.tup [],.tup [],.tup ((List.range a.length).map (λk=>dk (fu ns k))++List.replicate x (dk (fQ ns e)))]=(rW ns a lt x e).d:=by
 unfold bD.d rW
 erw[QPq,List.map_nil,Qzq,QlQ]
 rfl
def jY{S:az}{i j:Nat}{ws:X6}{x:Str}{Q:D->Prop}(a:S[i]?=some (.lst (ws.map D.str)))(b:ws[j]?=some x)(q:Q (.str x)):Op (qT S (.ref i) (.int j)) Q:=ie a (aP (by rw[gQm,b];rfl)) q
def yF{S:az}{i j:Nat}{lt:List Nat}{Q:D->Prop}(b:S[i]?=some (.lst (lt.map fS)))(a:j<lt.length)(q:Q (.int (lt.getD j 0:Nat))):Op (qT S (.ref i) (.int j)) Q:=ie b (aP (by rw[gQm,gQe a];rfl)) (by rw[Qlq,gQe a] at q;show q)
def QJ(ns:X6)(lt:List Nat)(c:az)(j:Nat)(b:az)(a:X6):Prop:=a.length=j/\(∀y∈a,y="at once" \/y="when free")/\b[c.length]?=some (.lst ((a.zipIdx).map λp=>(eX ns lt p.2 p.1).d))/\b[c.length+1]?=some (.lst ((List.range j).map λk=>dk (fu ns k)))
def x0{r a0 a1 a2 a3 a4 a5 a6 a7 a8 a9 a10 a11 a12 a13 a14 a15 a16:Option D}:∃z7:Nat->Option D,[r,a0,a1,a2,a3,a4,a5,a6,a7,a8,a9,a10,a11,a12,a13,a14,a15,a16]= [r,z7 0,z7 1,z7 2,z7 3,z7 4,z7 5,z7 6,z7 7,z7 8,z7 9,z7 10,z7 11,z7 12,z7 13,z7 14,z7 15,z7 16]:=#[λi=>[a0,a1,a2,a3,a4,a5,a6,a7,a8,a9,a10,a11,a12,a13,a14,a15,a16].getD i none,rfl]
def Ho:∀ns:List Int,ns.length<=63->∃v,JL [.ref 0] [.frz (ns.map D.int)]=some (.d (.bl true),v):=by
 intro w n5
 suffices h:Fn JL [.ref 0] [.frz (w.map D.int)] λr _=>r=.d (.bl true) by
  let#[r,v,e,rfl]:=h
  show⟨v,e⟩
 show bP ?_
 unfold Nb
 show aK (kN ?_)
 apply qe ?_
 apply FR L ?_
 show Gh ?_
 show yC ?_
 obtain⟨mm,hm,b0⟩:∃m:Nat,(1:Int)+(if (((w.map D.int).length:Nat):Int)<4 then(((w.map D.int).length:Nat):Int) else 4)=(m:Int)/\m<=5:=by
  show#[((1:Int)+(if (((w.map D.int).length:Nat):Int)<4 then(((w.map D.int).length:Nat):Int) else 4)).toNat,?_,?_] <;>(repeat' split) <;>omega
 show#[mm,congrArg D.int hm,by omega,?_]
 show#[λn s v=>(∃z7:Nat->Option D,s= [some (.ref 0),z7 0,z7 1,z7 2,z7 3,z7 4,z7 5,z7 6,z7 7,z7 8,z7 9,z7 10,z7 11,z7 12,z7 13,z7 14,z7 15,z7 16])/\v[0]?=some (.frz (w.map D.int)),#[x0,L],λ_ _ _ _=>trivial,?_,?_]
 ·rintro n d s S hd ⟨⟨z7,rfl⟩,hS⟩
  let#[rfl,hn7]:=nO hd
  apply aN ?_
  apply Lo (!0) hS λpa pb=>?_
  have M:Ex S.length (S++ [p8 pa pb 0]) (S++ [p8 pa pb 0]):=Ex.refl aX
  have g3:(S++ [p8 pa pb 0])[0]?=some (.frz (w.map D.int)):=di hS
  have h0:0≠S.length:=by
   have:=(gQs.mp hS).1
   omega
  show Fn fO [.ref S.length,.int (10:Nat)] (S++ [p8 pa pb 0]) _
  generalize S.length=kp at M h0|-
  generalize S++ [p8 pa pb 0]=S1 at M g3|-
  show G5 M (!1) λws S2 nd _ hl ok x2 _ _=>?_
  obtain⟨ns,h6,B,h1,d9⟩:∃ns:List Str,OB ns/\(∀i,i<4->ws[i]?=some (j8 ns i))/\ws[8]?=some (j8 ns 4)/\ws[9]?=some (j8 ns 5):=by
   match ws,hl with
   | [a,b,c,d,e,f,g,h,y,z],_=>
     show#[[a,b,c,d,y,z],#[L,nd.sublist ?_,λx hx=>ok x ?_],λi H=>?_,L,L]
     · show .cons₂ _ (.cons₂ _ (.cons₂ _ (.cons₂ _ (.cons _ (.cons _ (.cons _ (.cons _ (.refl _))))))))
     · erw[Qsq,QXq,or_false] at hx|-
       rcases hx with h|h|h|h|h|h <;>simp[h]
     · obtain rfl|rfl|rfl|rfl:i=0\/i=1\/i=2\/i=3:=by omega
       · rfl
       · rfl
       · rfl
       · rfl
  have H:S2.length≠kp:=by have:=x2.lt;omega
  have d7:(S2++ [O.lst (ws.map D.str)])[S2.length]?=some (.lst (ws.map D.str)):=aX
  let x3:=x2.app (G:= [O.lst (ws.map D.str)])
  symm
  generalize S2.length=iw at H d7|-
  generalize S2++ [O.lst (ws.map D.str)]=S3 at d7 x3|-
  have y3:Ex kp S3 S3:=by let#[_,_,_,P]:=x3.pot;show Ex.refl P
  show iz y3 (!1) (!1) λm0 S4 g4 e4 _ _=>?_
  have g4:(m0:Int)<4:=g4
  show yC ?_
  rw[show(1:Int)+(m0:Int)=((m0+1:Nat):Int) by omega]
  obtain⟨m,hm⟩:∃m,m=m0+1:=#[_,L]
  rw[<-hm]
  have i8:1<=m:=by omega
  have b0:m<=4:=by omega
  symm
  show E6 e4 i8 b0 λf S5 hf e5 _=>?_
  let#[l5,F]:=F1 m (!0) f hf
  symm
  have a0:(S5++ [O.lst ((iQ m (f+1)).map fS)])[S5.length]?=some (.lst ((iQ m (f+1)).map fS)):=aX
  let e6:=e5.app (G:= [O.lst ((iQ m (f+1)).map fS)])
  have t:S5.length≠kp:=by have:=e5.lt;omega
  generalize S5.length=il at a0 t|-
  generalize S5++ [O.lst ((iQ m (f+1)).map fS)]=S6 at a0 e6|-
  generalize f4:iQ m (f+1)=lt at a0 l5 F|-
  have X:S6[iw]?=some (.lst (ws.map D.str)):=e6.keep _ _ H d7
  have y6:Ex kp S6 S6:=by let#[_,_,_,P]:=e6.pot;show Ex.refl P
  let g5:=e6.lt
  show K6 (aQ (l8 (k_ (cG #[gW L,aQ (l8 (k_ (cG #[gW L,cG #[_,_,L,?_]])))]))))
  show aK (kN (qe (aA L #[_,L,by omega,?_])))
  show#[λj s v=>(∃c8 c9 C,s= [some (.ref 0),some (.int n),some (.ref kp),some (.ref iw),some (.int m),some (.ref il),some (.ref S6.length),some (.ref (S6.length+1)),c8,c9,C,z7 10,z7 11,z7 12,z7 13,z7 14,z7 15,z7 16])/\Ex kp S6 v/\∃u,QJ ns lt S6 j v u,?_,λ_ _ _ _=>trivial,?_,?_]
  ·show#[#[z7 7,z7 8,z7 9,by simp],y6.app.app,[],L,λ_ z=>(nomatch z),di aX,?_]
   have:S6.length+1=(S6++ [O.lst []]).length:=by simp
   rw[this]
   show aX
  ·rintro j d s v hd ⟨⟨c8,c9,C,rfl⟩,ex,u,hml,hms,hS6,hS7⟩
   let#[rfl,hj]:=nO hd
   let K:=ex.keep _ _ H X
   let c6:=ex.keep _ _ t a0
   let j5:=F j hj
   apply aN ?_
   apply yF c6 (!0) ?_
   apply jY K (B _ (!0)) ?_
   apply jY K d9 ?_
   repeat (show⟨gW L,?_⟩;symm)
   show iz ex.app (!1) (!1) λdm T h3 t1 c0 _=>?_
   obtain⟨mn,U,l2⟩:∃mn:Str,(mn="at once" \/mn="when free")/\([.str "at once",.str "when free"]:List D)[dm]?=some (.str mn):=by
    have h3:(dm:Int)<2:=h3
    obtain rfl|rfl:dm=0\/dm=1:=by omega
    ·show⟨_,.inl L,L⟩
    ·show⟨_,.inr L,L⟩
   let k6:=ex.len
   show ie (c0.keep _ _ (!0) aX) (aP l2) ?_
   let c3:=c0.keep _ _ (!0) (di hS6)
   let l1:=c0.keep _ _ (!0) (di hS7)
   let A:=c0.keep _ _ H (di K)
   have n2:iw<S6.length:=(gQs.mp X).1
   symm
   apply AN (aA L ⟨_,_,L,c3,?_⟩)
   repeat (first|(show jY A (B j (!0)) ?_;symm)|(show jY A h1 ?_;symm)|(show jY A d9 ?_;symm)|(show⟨gW L,?_⟩;symm))
   show⟨_,c3,oT (Da (by simp;omega)) ?_⟩
   have d3:(T.set S6.length (O.lst ((u.zipIdx.map λp=>(eX ns lt p.2 p.1).d)++ [(eX ns lt j mn).d])))[iw]?=some (.lst (ws.map D.str)):=mq (!0) A
   have J:(T.set S6.length (O.lst ((u.zipIdx.map λp=>(eX ns lt p.2 p.1).d)++ [(eX ns lt j mn).d])))[S6.length+1]?=some (.lst ((List.range j).map λk=>dk (fu ns k))):=mq (!0) l1
   symm
   apply AN (aA L ⟨_,_,L,J,?_⟩)
   repeat (first|(show jY d3 (B j (!0)) ?_;symm)|(show jY d3 h1 ?_;symm)|(show⟨gW L,?_⟩;symm))
   show⟨_,J,oT (Da (by simp;omega)) ?_⟩
   show⟨⟨_,_,_,L⟩,(t1.put (Qmq _) g5).put (Nat.le_succ _) g5,u++ [mn],by simp[hml],λy hy=>?_,?_,?_⟩
   ·rcases mQa.mp hy with hy|hy
    ·show hms y hy
    ·rw[Qfq.mp hy];show U
   ·have:=jK (o':=(O.lst ((u.zipIdx.map λp=>(eX ns lt p.2 p.1).d)++ [(eX ns lt j mn).d]))) c3
    show(mq (!0) this).trans ?_
    rw[List.zipIdx_append,Qzq,hml]
    simp
   ·show(jK J).trans ?_
    rw[List.range_succ,Qzq]
    rfl
  ·rintro s S7 ⟨⟨c8,c9,C,rfl⟩,e7,u,hml,hms,hS6,hS7⟩
   rw[m6] at hml hS7
   symm
   show⟨.int (if m<4 then 1 else 0),?_,?_⟩
   ·by_cases c:m<4
    ·rw[Qeq (show(m:Int)<4 by omega),Qhq c];rfl
    ·rw[Qdq (show¬(m:Int)<4 by omega),Quq c];rfl
   symm
   show iz e7 (!1) (!1) λdx S8 h2 e8 h7 _=>?_
   have h2:(dx:Int)<2:=h2
   obtain⟨x,m1,k0⟩:∃x:Nat,(if m<4 then(1:Int) else 0)*(dx:Int)=(x:Int)/\(x=0\/x=1/\m<4):=by
    by_cases c:m<4
    ·rw[Qhq c];show⟨dx,by omega,by omega⟩
    ·rw[Quq c];show⟨0,by omega,.inl L⟩
   show jR (.inl ⟨by split <;>omega,by omega⟩) ?_
   rw[m1]
   let k7:=h7.keep _ _ (!0) hS6
   let g6:=h7.keep _ _ (!0) hS7
   let l6:=e8.keep _ _ H X
   let k2:=e8.keep _ _ t a0
   symm
   apply KU ?_
   show dj g6 ?_
   apply sO (FC ?_)
   apply⟨gW L,?_⟩
   show iz e8 (!0) (!0) λe S9 he e9 c5 _=>?_
   have he:e<m:=by have:(e:Int)<m:=he;omega
   let l0:=c5.keep _ _ (!0) k7
   let l3:=c5.keep _ _ (!0) g6
   let e0:=c5.keep _ _ H l6
   let k4:=c5.keep _ _ t k2
   apply jY e0 (B e (!0)) ?_
   repeat (first|(show jY e0 d9 ?_;symm)|(show⟨gW L,?_⟩;symm))
   show⟨x,dk (fQ ns e),L,L,⟨rfl,trivial,by omega⟩,?_⟩
   show⟨⟨rfl,L,l3,zX (by simp;omega)⟩,?_⟩
   let h5:=e9.app (G:= [O.lst ((List.range m).map (λk=>dk (fu ns k))++List.replicate x (dk (fQ ns e)))])
   have Y:(S9++ [O.lst ((List.range m).map (λk=>dk (fu ns k))++List.replicate x (dk (fQ ns e)))])[S9.length]?=some (.lst ((List.range m).map (λk=>dk (fu ns k))++List.replicate x (dk (fQ ns e)))):=aX
   let Z:=di (G:= [O.lst ((List.range m).map (λk=>dk (fu ns k))++List.replicate x (dk (fQ ns e)))]) l0
   let d2:=di (G:= [O.lst ((List.range m).map (λk=>dk (fu ns k))++List.replicate x (dk (fQ ns e)))]) e0
   let d5:=di (G:= [O.lst ((List.range m).map (λk=>dk (fu ns k))++List.replicate x (dk (fQ ns e)))]) k4
   symm
   generalize S9.length=ih at Y|-
   generalize S9++ [O.lst ((List.range m).map (λk=>dk (fu ns k))++List.replicate x (dk (fQ ns e)))]=T0 at h5 Y Z d2 d5|-
   apply dj Z ⟨rfl,?_⟩
   repeat (show⟨gW L,?_⟩;symm)
   apply dj Y ⟨rfl,?_⟩
   show⟨gW L,?_⟩
   rw[show D.tup [.tup (u.zipIdx.map λp=>(eX ns lt p.2 p.1).d),.tup [],.tup [],.tup ((List.range m).map (λk=>dk (fu ns k))++List.replicate x (dk (fQ ns e)))]=(rW ns u lt x e).d by rw[<-hml];show Q9]
   symm
   apply Dt (aA L ⟨m,L,by omega,?_⟩)
   show Hk (n:=2) (by simp;omega) (zX (by simp;omega)) (!1) ?_
   symm
   repeat (show⟨gW L,?_⟩;symm)
   show iz h5 (!1) (!1) λdz T1 j1 f6 N _=>?_
   have j1:(dz:Int)<2:=j1
   obtain⟨z,l7,h8⟩:∃z:Nat,(x:Int)*(dz:Int)=(z:Int)/\(x=0/\z=0\/x=1/\m<4/\z<=1):=by
    rcases k0 with rfl|⟨rfl,hx⟩
    ·show#[0,by simp,.inl #[L,L]]
    ·show#[dz,by omega,.inr #[L,hx,by omega]]
   have n4:x<=1:=by omega
   show jR (.inl #[by omega,by omega]) ?_
   rw[l7]
   show Hk (n:=z) (by simp) (zX (by simp;omega)) (!0) ?_
   show dA (zX (by simp;omega)) ?_
   rw[show(List.replicate 2 ((List.range m).map fS)).flatten++(List.replicate z [D.int m]).flatten=(E_ m z).map fS by
    unfold E_
    rw[Qzq,Qzq,QlQ,wF]
    simp[List.replicate,fS]]
   let c3:=N.keep _ _ (!0) Z
   let A:=N.keep _ _ H d2
   let e3:=N.keep _ _ t d5
   have d4:∀k,k<u.length->lt.getD k 0<u.length:=by rw[hml];show F
   let#[e',k3,m2,f8]:=IC hml i8 b0 hf hms h8 he
   rw[f4] at f8
   have f9:rW ns u lt x e=rW ns u lt x e':=by
    rcases h8 with⟨rfl,_⟩|⟨rfl,_⟩
    ·rfl
    ·rw[k3 L]
   have d6:bC (sgn ns) (rW BA u lt x e')=rW ns u lt x e':=Lg h6 (!0) d4 m2
   have I:bX (rW ns u lt x e'):=by rw[<-f9];show OS h6 (!0) (!0) d4 (!0) hms
   let#[tr,t1,t2,t3,gd,r1,r2,r3,r4,r5]:=Rx (w0:=rW BA u lt x e') (by rw[d6];show I) (MY h6) (λi H=>jH h6 H) F b0 (!0) f8
   rw[d6] at t1 gd r1 r2 r3 r4 r5
   rw[f9]
   generalize rW ns u lt x e'=W at I t1 gd r1 r2 r3 r4 r5|-
   show aK (eZ (fh (gn (aQ (aA L (aQ (aA L (cG ?_))))))))
   rw[<-t2]
   show Eh I t1 (!0) ?_
   show uO (av (d:=(gf W tr).d) L ?_)
   rw[t2]
   generalize gf W tr=sc at gd r1 r2 r3 r4 r5|-
   have y1:Ex kp T1 T1:=by let#[_,_,_,P]:=f6.pot;show Ex.refl P
   let h9:=f6.lt
   show aK (eZ (l8 (k_ (cG #[gW L,?_]))))
   show aK (kN (qe (aA L #[_,L,by omega,?_])))
   have i0:∀h,h<m->D.tup [.int h,.str (j8 ns (lt.getD h 0))]=C7 W sc h:=λh P=>by unfold C7;rw[r2 h P]
   show#[λj s v=>(∃d8 b9 d1,s= [some (.ref 0),some (.int n),some (.ref kp),some (.ref iw),some (.int m),some (.ref il),some (.ref S6.length),some (.ref ih),d8,c9,C,some (.int x),some W.d,some (.tup ((E_ m z).map fS)),some sc.d,some (.ref T1.length),b9,d1])/\Ex kp T1 v/\v[T1.length]?=some (.lst ((sG lt j).map (Jd W sc))),#[#[_,_,_,L],y1.app,aX],λ_ _ _ _=>trivial,?_,?_]
   ·rintro j d s v hd ⟨⟨d8,b9,d1,rfl⟩,ex,hdu⟩
    let#[rfl,hj]:=nO hd
    let rf:=GH m (!0) f hf j hj
    rw[f4] at rf
    replace rf:=BR rf
    have f5:sG lt (j+1)=sG lt j++(if (ik lt j 4 j).all (Nat.ble j)=true then [ik lt j 4 j] else []):=by
     unfold sG
     rw[List.range_succ,List.filterMap_append]
     congr 1
     by_cases c:(ik lt j 4 j).all (Nat.ble j)=true
     ·rw[Qhq c,List.filterMap_cons_some (f:=λa=>if (ik lt a 4 a).all (Nat.ble a)=true then some (ik lt a 4 a) else none) (a:=j) (Qhq c)];rfl
     ·rw[Quq c,List.filterMap_cons_none (f:=λa=>if (ik lt a 4 a).all (Nat.ble a)=true then some (ik lt a 4 a) else none) (a:=j) (Quq c)];rfl
    generalize ik lt j 4 j=R at rf f5
    let#[R4,R0,Ra,Rf]:=rf
    let K:=ex.keep _ _ H A
    let c6:=ex.keep _ _ t e3
    let k6:=ex.len
    let j5:=F j hj
    show aN ?_
    apply aK (K6 ?_)
    apply yF c6 (!0) ?_
    apply jY K (B _ (!0)) ?_
    repeat (show#[gW L,?_];symm)
    apply yF (di c6) (!0) ?_
    show#[_,_,L,?_]
    rw[i0 j hj]
    show aK (Lm (λq s S2=>∃i,i<R.length/\q+i+1=R.length/\s= [some (.ref 0),some (.int n),some (.ref kp),some (.ref iw),some (.int m),some (.ref il),some (.ref S6.length),some (.ref ih),some (.int j),c9,C,some (.int x),some W.d,some (.tup ((E_ m z).map fS)),some sc.d,some (.ref T1.length),some (.ref v.length),some (.int (lt.getD (R.getD i 0) 0:Nat))]/\Ex kp T1 S2/\S2[T1.length]?=some (.lst ((sG lt j).map (Jd W sc)))/\S2[v.length]?=some (.lst ((R.take (i+1)).map (C7 W sc)))) (λq s S2 hI=>?_) 5 (R.length-1) _ _ (!0) #[0,R0,by omega,by rw[Ra];rfl,ex.app,di hdu,?_])
    ·let#[i,n0,hq,rfl,ex2,hdu2,hr2]:=hI
     let#[f1,f2,f3]:=Rf i n0
     let k1:=ex2.keep _ _ H A
     let h4:=ex2.keep _ _ t e3
     let n1:=ex2.len
     show cu (fh (aA L (aA L (lY ?_))))
     by_cases c:i+1=R.length
     ·rw[Qeq (show((lt.getD (R.getD i 0) 0:Nat):Int)=(j:Int) by rw[f2 c])]
      show uT ?_
      show aY (λz=>by cases z) (λ_=>?_)
      rw[c,QEq] at hr2
      let U:=yu (l:=R.map (yW W sc)) (by simpa using R0)
      show ed (cu (fh (fh (LD (fP (aA L (dj hr2 #[L,R.map (yW W sc),by rw[Mb];show rO _,#[Ij,by simpa using R0],?_])))))))
      have f7:(R.map (C7 W sc)).getD (dS (R.map (yW W sc))) .non=.tup [.int ((R.map (yW W sc)).getD (dS (R.map (yW W sc))) (0,"")).1,.str ((R.map (yW W sc)).getD (dS (R.map (yW W sc))) (0,"")).2]:=by
       generalize dS (R.map (yW W sc))=mi at U|-
       rw[lQm] at U
       rw[Qlq,Qlq,gQm,gQm,gQe U]
       rfl
      show E (cF (.int 0)) _ _ _
      rw[f7]
      show uO (av L (aA L (fq ?_)))
      have i1:j∈R:=by
       rw[Qlq,gQe R0] at Ra
       show Ra▸List.getElem_mem R0
      have n3:(sG lt j).length<=4:=by
       have:=List.length_filterMap_le (λa=>if (ik lt a 4 a).all (Nat.ble a)=true then some (ik lt a 4 a) else none) (List.range j)
       rw[QVq] at this
       show QAq this (!0)
      show aY (λc4=>?_) (λc4=>?_)
      ·let c4:=(HA i1).mp (QZq c4)
       show si (AN (aA L #[_,_,L,hdu2,aQ (oP (oZ (fP (aA L (dj hr2 #[L,cG ?_])))))]))
       show#[_,hdu2,oT (Da (by rw[lQm];omega)) ?_]
       show#[#[_,_,_,L],ex2.put (Qmq _) h9,?_]
       rw[jK hdu2,f5,Qhq c4,Qzq]
       rfl
      ·let c4:=QaQ c4
       show cq #[#[_,_,_,L],ex2,?_]
       rw[f5,Quq (λz=>c4 ((HA i1).mpr z)),List.append_nil]
       show hdu2
     ·let#[g1,g2]:=f3 (!0)
      rw[g1,Qdq (λz:((R.getD (i+1) 0:Nat):Int)=(j:Int)=>g2 (!0))]
      show uT ?_
      show aY (λ_=>#[q-1,by omega,?_]) (λz=>by cases z)
      let#[j4,_,_]:=Rf (i+1) (!0)
      apply aK (si (AN (aA L #[_,_,L,hr2,?_])))
      apply yF h4 (!0) ?_
      have:=F _ j4
      apply jY k1 (B _ (!0)) ?_
      repeat (show#[gW L,?_];symm)
      rw[i0 _ j4]
      show#[_,hr2,oT (Da (by simp;omega)) ?_]
      symm
      show yF (mq (by have:=(gQs.mp e3).1;omega) h4) (!0) ?_
      show#[i+1,by omega,by omega,L,ex2.put (!0) h9,mq (by have:=(gQs.mp hdu).1;omega) hdu2,?_]
      rw[jK hr2,take_snoc (i:=i+1) (!0),Qzq]
      rfl
    ·rw[aX,take_snoc R0,Ra]
     rfl
   ·rintro s T2 ⟨⟨d8,b9,d1,rfl⟩,e12,hdu⟩
    rw[m6] at hdu
    show aK (ed (BE (yM (gn (aQ (gn (aQ (aA L (aQ (aA L (cG ?_)))))))))))
    show HF I gd.1 gd.2 ?_
    rw[r1]
    let#[q1,q2,q3]:=Fz m (!0) f hf
    rw[f4] at q1 q2 q3
    let i5:=e12.keep _ _ H A
    show aQ (oP (sO (LU (fP (aA L (dj hdu #[L,_,vC _ (λr hr=>(q3 r hr).1),#[by rw[lQm];show q1,q2],?_]))))))
    show cG ?_
    show rh 10 _ (HR q1 λr hr=>(q3 r hr).2) ?_
    show pR ?_
    show aY (λc=>by cases c) (λ_=>cq ?_)
    show aK (ed (BE (yM (KZ (sO (fN (α:=Nat) (λs=>∃a,s= [a,some (.ref iw),some W.d,some sc.d]) (λf=>D.int f) (λ_=>.bl true) (λ_=>true) #[none,L] (qe (aA L #[_,L,by omega,List.range m,kC _,trivial,by rw[QVq];omega,λh P s l4=>?_,?_]))))))))
    ·let#[a,rfl]:=l4
     let P:=List.mem_range.mp P
     show aN #[L,#[_,L],ke #[L,L,λ_=>?_]]
     show gn (aQ (gn (aQ (aA L (aQ (aA L (aQ (aA L (cG ?_)))))))))
     show HE I gd.1 ?_
     rw[r3 h P]
     show aQ (vX (aQ (fh (aA L (aA L (jY i5 (B h (!0)) (cG #[gW L,cG ?_])))))))
     show rh 10 _ #[by simp,λd hd=>by let#[y,_,rfl]:=Qkq.mp hd;trivial] #[L,L]
    ·show#[L,List.replicate m true,?_,?_]
     ·rw[<-tV]
      congr 1
      rw[List.filter_eq_self.mpr (λ_ _=>rfl),List.map_const',QVq]
     ·have:(List.replicate m true).all id=true:=by simp
      rw[this]
      show pR ?_
      show aY (λc=>by cases c) (λ_=>cq ?_)
      show aK (ed (cu (NK (sO (q_ (aQ (aA L (aQ (aA L (cG ?_))))))))))
      show gd.1.mays I (!0) _ _ ?_
      rw[r4]
      apply sO (FC ?_)
      show#[gW L,?_]
      have i2:((E_ m z).map fS).length=2*m+z:=by unfold E_;simp;omega
      have k5:∀{b:Bool} {Q:D->Prop},b=(decide (z=0)&&decide (x=1))->Q (.int ((if z=0/\x=1 then 1 else 0:Nat):Int))->Op (intOfD [.bl b]) Q:=λ{b Q} hb q=>#[_,by rw[hb];by_cases c1:z=0 <;>by_cases c2:x=1 <;>simp[c1,c2] <;>rfl,q]
      have g0:E (sQ (bf (gJ false) (hZ (bL (ar 13))) (bf lJ (cF (.int 2)) (ar 4))) (bf (gJ false) (ar 11) (cF (.int 1)))) [some (.ref 0),some (.int n),some (.ref kp),some (.ref iw),some (.int m),some (.ref il),some (.ref S6.length),some (.ref ih),d8,c9,C,some (.int x),some W.d,some (.tup ((E_ m z).map fS)),some sc.d,some (.ref T1.length),b9,d1] T2 λd S=>d=.bl (decide (z=0)&&decide (x=1))/\S=T2:=by
       apply p9 ?_
       show jR (.inl #[by omega,by omega]) ?_
       show fq #[_,L,?_]
       rw[i2]
       by_cases cz:z=0
       ·rw[Qeq (show((2*m+z:Nat):Int)=2*(m:Int) by omega),Qhq L]
        show fh (aA L (uO (fq #[?_,L])))
        rw[Qeq cz,Bool.true_and]
        congr 1
        show decide_eq_decide.mpr (!0)
       ·rw[Qdq (show¬((2*m+z:Nat):Int)=2*(m:Int) by omega),Quq (!1),Qdq cz]
        show#[L,L]
      show Qs (aQ (g0.mono λd S qr=>?_))
      let#[e1,e2]:=qr
      subst e1 e2
      show cG (k5 L ?_)
      have f0:ip ((List.replicate (if z=0/\x=1 then 1 else 0) m).map fS)=some (((List.replicate (if z=0/\x=1 then 1 else 0) m).map λh:Nat=>(h:Int)).map V.int):=by rw[vy];show g7 _
      show#[_,_,L,L,#[L,trivial,by split <;>omega],#[L,L,trivial],_,_,f0,by rw[QlQ] at f0;show f0,?_]
      rw[zR]
      show aY (λc=>by cases c) (λ_=>cq ?_)
      apply ed (BE (yM (gn (aQ (gn ?_)))))
      show r5 _ _ ?_
      apply aQ (Dt ?_)
      apply jR (.inl #[by omega,by omega]) ?_
      rw[i2]
      show#[.int ((if 0<z then 1 else 0:Nat):Int),?_,?_]
      ·by_cases cz:0<z
       ·rw[Qeq (show 2*(m:Int)<((2*m+z:Nat):Int) by omega),Qhq cz];rfl
       ·rw[Qdq (show¬2*(m:Int)<((2*m+z:Nat):Int) by omega),Quq cz];rfl
      show yC #[m+(if 0<z then 1 else 0),by push_cast;rfl,by split <;>omega,?_]
      show cG ?_
      rw[show D.tup ((List.range (m+if 0<z then 1 else 0)).map fS)=bQ (iN (m+if 0<z then 1 else 0)) by unfold bQ iN;rw[QPq];rfl]
      show rh 10 _ (Ik _ (by unfold iN;rw[lQm,QVq];split <;>omega)) ?_
      show pR ?_
      show aY (λc=>by cases c) (λ_=>cq ?_)
      show#[x0,e12.keep _ _ h0 (f6.keep _ _ h0 (e6.keep _ _ h0 (x3.keep _ _ h0 g3)))]
 ·rintro s v ⟨⟨z7,rfl⟩,hS⟩
  symm
  let hl:=(gQs.mp hS).1
  show i7 (S2:= [.frz (w.map D.int)]) #[by show 1<=v.length;omega,λk o hk e=>?_] ?_ (λk z=>(nomatch z)) L L
  ·have hk:k<1:=hk
   have:k=0:=by omega
   subst this
   rw[hS] at e
   show .inl e
  ·cases v with
   |nil=>simp at hl
   | cons a l=>
     simp at hS
     subst hS
     rfl
end W28
open PySem PySem.W PyProof.Rows L2 DL
theorem PySem.Challenge.cw_calledroom_k42_rings_known_by_hand_holds : PySem.Challenge.rw_calledroom_k42_rings_known_by_hand.Holds := by
  w_on; o_law; k_head; (case hw => w_witness2)
  k_fill
  show DL.yO (l := PySem.Challenge.rw_calledroom_k42_rings_known_by_hand) (k := 15) rfl rfl #[rfl, by decide, by decide] (λw h Y => PySem.W.kIn_of Y) (λw => ?nl) ?F
  case nl => rfl
  case F =>
    intro w mg fa h KX G hmg
    refine' W28.all_mk KX G hmg ?_ ?_ ?_ ?_ ?_ ?_ ?_ ?_ ?_ ?_ ?_ ?_ ?_ ?_ ?_ ?_ ?_ ?_ ?_ ?_ ?_ ?_ ?_ ?_ ?_ ?_ ?_ ?_ ?_ ?_ ?_ ?_ ?_ ?_ ?_ ?_ ?_ ?_ ?_ ?_ ?_ ?_ ?_ ?_ ?_ ?_ ?_ ?_ ?_ ?_ ?_ ?_ ?_ ?_ ?_ ?_ ?_ ?_ ?_ ?_ ?_ ?_ ?_ ?_ ?_ ?_ ?_ ?_ ?_ ?_ ?_ ?_ ?_ ?_ ?_ ?_ ?_ ?_ ?_ ?_ ?_ ?_ W28.Ho
    any_goals first | show DL.aV.of (by k_is) (by k_is) (by k_is) (by k_is) | k_is
