import PyProof.Rows.All
import Wide.All
import OpenK.AllK
import Wide.FinOn
import Lean
import PyProof.EqAt
import PyProof.EqKinds
import PyProof.TupleCall
import PyProof.NeKinds
import PyProof.ListRange
import PyProof.ConsumeWalk
import PyProof.StrWalks
import PyProof.Rows.StrJoin2
import PyProof.Rows.SetFrom
import PyProof.SetNew
import PyProof.DictUpdate
import PyProof.FactsAll.dict_0
import PyProof.FactsAll.dict_1
import PyProof.FactsAll.dict_2
import PyProof.FactsAll.dict_3
import PyProof.FactsAll.dict_4
import PyProof.AttrMissSeq
import PyProof.AttrMissHeap
import KE.KEqDict
import PyProof.TupleKey
import PyProof.SetRoads
import PyProof.SetScanFacts
import PyProof.ForWalkI
import PyProof.FactsAll.set_0
import PyProof.FactsAll.set_1
import PyProof.FactsAll.set_2
import PyProof.CollectWalk
import PyProof.Rows.SortStr
import PyProof.Rows.SortShellK
import PyProof.ZipIter
import KE.KSortTup
import PyProof.ReprRoads
import PyProof.StrLawsRepr
import PyProof.CallFns
import PyProof.FactsAll.zip
import PyProof.DictCompW
import PyProof.EnumFor
import PyProof.EnumStmt
import PyProof.Draws
import KE.KUnpack
import PyProof.P3Eq
import PyProof.NeData
import PyProof.ListMulRoad
import PyProof.FactsAll.tuple
import PySem.Challenge.RW_calledroom_k26_who_waits_told
set_option Elab.async false
set_option linter.all false
set_option maxRecDepth 100000
set_option maxHeartbeats 8000000
namespace PySem.W.Fast
def tw14606194438117470325:True:=⟨⟩
def tw18249439143799194922:True:=⟨⟩
def tw7006148386408506000:True:=⟨⟩
def tw9940827123492902894:True:=⟨⟩
def tw582515434236035863:True:=⟨⟩
def tw8105047674682307173:True:=⟨⟩
def tw16848122688842214577:True:=⟨⟩
def tw9833298365892873535:True:=⟨⟩
def tw938899896085329036:True:=⟨⟩
def tw15013208094961060450:True:=⟨⟩
def tw4659640739680458576:True:=⟨⟩
def tw13046893720577924320:True:=⟨⟩
def tw2146086942863331452:True:=⟨⟩
def tw1922833017329700169:True:=⟨⟩
def tw14718509468515617007:True:=⟨⟩
def tw7152411823646855640:True:=⟨⟩
def tw3299523513609621178:True:=⟨⟩
def tw3130020502376627084:True:=⟨⟩
def tw6650804290596481715:True:=⟨⟩
def tw16415110615591469925:True:=⟨⟩
def tw10553042549082342884:True:=⟨⟩
def tw15695531086575415230:True:=⟨⟩
def tw16748357303131793109:True:=⟨⟩
def tw11182364677478479377:True:=⟨⟩
def tw6400840129390991658:True:=⟨⟩
def tw4005029284276617565:True:=⟨⟩
def tw3587527396425650261:True:=⟨⟩
def tw7723958704618853457:True:=⟨⟩
def tw5850708544818338008:True:=⟨⟩
def tw13141797297242435786:True:=⟨⟩
def tw3865178921375600728:True:=⟨⟩
def tw11317615688613009927:True:=⟨⟩
def tw16258384180773913329:True:=⟨⟩
def tw5916957990681891118:True:=⟨⟩
def tw4410374892999135187:True:=⟨⟩
def tw4441324754672904087:True:=⟨⟩
def tw17044007195153513248:True:=⟨⟩
def tw7637224392687308074:True:=⟨⟩
def tw8224038211843788717:True:=⟨⟩
def tw10149879571809678594:True:=⟨⟩
def tw8713474550906124137:True:=⟨⟩
def tw3417112008437193877:True:=⟨⟩
def tw15738492561971447592:True:=⟨⟩
def tw1511148208389146603:True:=⟨⟩
def tw10794077753272500641:True:=⟨⟩
def tw2936588128878907467:True:=⟨⟩
def tw12233680277645197451:True:=⟨⟩
def tw8120631729370372870:True:=⟨⟩
def tw3013337418074427958:True:=⟨⟩
def tw13167485819226789800:True:=⟨⟩
def tw1694123074914336147:True:=⟨⟩
def tw806863038498515312:True:=⟨⟩
def tw6953860331681242391:True:=⟨⟩
def tw5797303601504584302:True:=⟨⟩
def tw2063325366853066944:True:=⟨⟩
def tw795324035359602673:True:=⟨⟩
def tw17251030163936493734:True:=⟨⟩
def tw15109270884702900130:True:=⟨⟩
def tw1928988860762186981:True:=⟨⟩
def tw13096769226056886088:True:=⟨⟩
def tw4608160418023278830:True:=⟨⟩
def tw16044733638288597929:True:=⟨⟩
def tw13937974319037744272:True:=⟨⟩
def tw3381774137511112088:True:=⟨⟩
def tw14288960612553114094:True:=⟨⟩
def tw4042002658669297529:True:=⟨⟩
def tw8931090600812589293:True:=⟨⟩
def tw16697373462661664089:True:=⟨⟩
def tw17810912508170679022:True:=⟨⟩
def tw6794187834554294446:True:=⟨⟩
def tw6294478416218800384:True:=⟨⟩
def tw8606067643808798603:True:=⟨⟩
def tw7410389553085481822:True:=⟨⟩
def tw16835866725410880879:True:=⟨⟩
def tw8138210269520022580:True:=⟨⟩
def tw1665191993396920534:True:=⟨⟩
def tw5244761963995624553:True:=⟨⟩
def tw16861389303702999924:True:=⟨⟩
def tw14691208610193101287:True:=⟨⟩
def tw5797182071435269504:True:=⟨⟩
def tw1816565255896898912:True:=⟨⟩
def tw1800869467546115347:True:=⟨⟩
def tw7343780385426032590:True:=⟨⟩
def tw10204551135881407567:True:=⟨⟩
def tw1882426755569296475:True:=⟨⟩
def tw9593088400090627483:True:=⟨⟩
def tw5216684060419607915:True:=⟨⟩
def tw14246915033380457364:True:=⟨⟩
def tw14767496602448402279:True:=⟨⟩
def tw6735546255319082713:True:=⟨⟩
def tw1767573717145896947:True:=⟨⟩
def tw949464170146991811:True:=⟨⟩
def tw13412508308505170307:True:=⟨⟩
def tw11568675013286778501:True:=⟨⟩
def tw12111949831746914737:True:=⟨⟩
def tw3556467701842405623:True:=⟨⟩
def tw2033012339356428697:True:=⟨⟩
def tw5027718674239032311:True:=⟨⟩
def tw8233620610738786295:True:=⟨⟩
def tw2399241133450755728:True:=⟨⟩
def tw7522810193371606190:True:=⟨⟩
def tw2745002749597890426:True:=⟨⟩
def tw10088981409898753836:True:=⟨⟩
def tw3065839471006597688:True:=⟨⟩
def tw15045542078523282978:True:=⟨⟩
def tw1262680983153086197:True:=⟨⟩
def tw13513904638360367233:True:=⟨⟩
def tw4724819624296677621:True:=⟨⟩
def tw4621620720658021201:True:=⟨⟩
def tw6743448952308813266:True:=⟨⟩
def tw11349029774496718757:True:=⟨⟩
def tw15769223472694363992:True:=⟨⟩
def tw17000112310928267714:True:=⟨⟩
def tw12044375179465217709:True:=⟨⟩
def tw15847108201608773113:True:=⟨⟩
def tw7482487741478867123:True:=⟨⟩
def tw842960597999881942:True:=⟨⟩
def tw16469370497482882098:True:=⟨⟩
def tw2850557450011573171:True:=⟨⟩
end PySem.W.Fast
set_option bootstrap.genMatcherCode false
set_option compiler.extract_closed false
noncomputable section
local macro_rules|`(tactic|omega)=>`(tactic|lia)
abbrev gQm:=@List.getElem?_map
abbrev lQm:=@List.length_map
abbrev mQg:=@List.mem_of_getElem?
abbrev oQm:=@Option.map_eq_some_iff
abbrev gQe:=@List.getElem?_eq_getElem
abbrev gQs:=@List.getElem?_eq_some_iff
abbrev lQa:=@List.length_append
abbrev nQl:=@Nat.le_of_lt
abbrev mQa:=@List.mem_append
abbrev Qaq:=@PySem.wpAny_bind
abbrev Qbq:=@Option.bind_some
abbrev Qcq:=@PySem.Heap.get?_push_of_some
abbrev Qdq:=@decide_eq_false
abbrev Qeq:=@decide_eq_true
abbrev Qfq:=@List.mem_singleton
abbrev Qgq:=@PySem.wpAny_pure
abbrev Qhq:=@if_pos
abbrev Qiq:=@PySem.Heap.lt_size
abbrev Qjq:=@List.size_toArray
abbrev Qkq:=@List.mem_map
abbrev Qlq:=@List.getD_eq_getElem?_getD
abbrev Qmq:=@Nat.le_refl
abbrev Qnq:=@List.length_cons
abbrev Qoq:=@List.mem_append_right
abbrev Qpq:=@List.mem_cons_of_mem
abbrev Qqq:=@Nat.lt_of_lt_of_le
abbrev Qrq:=@PySem.Heap.get?_push_size
abbrev Qsq:=@List.mem_cons
abbrev Qtq:=@Bool.false_ne_true
abbrev Quq:=@if_neg
abbrev Qvq:=@List.append_assoc
abbrev Qwq:=@Nat.ne_of_lt
abbrev Qxq:=@List.length_take
abbrev Qyq:=@List.getElem?_set_self
abbrev Qzq:=@List.map_append
abbrev QAq:=@Nat.le_trans
abbrev QBq:=@List.mem_cons_self
abbrev QCq:=@Bool.and_eq_true
abbrev QDq:=@List.map_cons
abbrev QEq:=@List.take_length
abbrev QFq:=@PySem.W.mg_none_of
abbrev QGq:=@List.length_nil
abbrev QHq:=@List.getElem?_append_left
abbrev QIq:=@List.length_replicate
abbrev QJq:=@List.Perm.append_right
abbrev QKq:=@List.getElem?_set_ne
abbrev QLq:=@PySem.wpAny_holding
abbrev QMq:=@PySem.wpAny_field
abbrev QNq:=@List.replicate_succ
abbrev QOq:=@List.mem_flatMap
abbrev QPq:=@List.map_map
abbrev QQq:=@List.getElem?_append_right
abbrev QRq:=@PySem.wpAny_mono
abbrev QSq:=@List.flatMap_cons
abbrev QTq:=@List.mem_or_eq_of_mem_set
abbrev QUq:=@List.all_eq_true
abbrev QVq:=@List.length_range
abbrev QWq:=@List.drop_eq_getElem_cons
abbrev QXq:=@List.not_mem_nil
abbrev QYq:=@List.take_add_one
abbrev QZq:=@of_decide_eq_true
abbrev QaQ:=@of_decide_eq_false
abbrev QbQ:=@List.getElem_of_mem
abbrev QcQ:=@List.mem_of_getLast?
abbrev QdQ:=@Option.some.inj
abbrev QeQ:=@List.of_mem_zip
abbrev QfQ:=@List.getLast?_map
abbrev QgQ:=@PySem.wpAny_ite_false
abbrev QhQ:=@PySem.wpAny_newObj_type
abbrev QiQ:=@PySem.wpAny_callSpecial?_slot
abbrev QjQ:=@List.Sublist.refl
abbrev QkQ:=@List.eq_of_mem_replicate
abbrev QlQ:=@List.map_replicate
namespace L2
open PySem PySem.Spec PyProof.Rows
abbrev Key:=Sum Int Str
def mL:Key->Value->Bool
 |.inl k,v=>Value.isInt k v
 |.inr x,v=>Value.isStrOf x v
def Ib(w:World):Key->Int
 |.inl k=>hashInt k
 |.inr x=>hashStr w x
def cj:∀{k:Key} {v:Value},mL k v=true->(∃i t,k=Sum.inl i/\v=Value.int i t)\/(∃x t,k=Sum.inr x/\v=Value.str x t)
 | .inl i,v,h=>by
   obtain⟨t,e⟩:=Value.isInt_shape (k:=i) (v:=v) h
   exact .inl ⟨i,t,rfl,e⟩
 | .inr x,v,h=>by
   obtain⟨t,e⟩:=Value.isStrOf_shape (x:=x) (v:=v) h
   exact .inr ⟨x,t,rfl,e⟩
def y1(i:Int)(t:Tok):mL (.inl i) (.int i t)=true:=by simp[mL,Value.isInt]
def lV(x:Str)(t:Tok):mL (.inr x) (.str x t)=true:=by simp[mL,Value.isStrOf]
def Dt(a b:Int):decide ((Sum.inl a:Key)=Sum.inl b)=(a==b):=by
 by_cases e:a=b
 ·subst e;simp
 ·have h:¬(Sum.inl a:Key)=Sum.inl b:=λq=>e (Sum.inl.inj q)
  rw[Qdq h]
  exact(beq_eq_false_iff_ne.mpr e).symm
def EB(a b:Str):decide ((Sum.inr a:Key)=Sum.inr b)=decide (a=b):=by
 by_cases e:a=b
 ·subst e;simp
 ·have h:¬(Sum.inr a:Key)=Sum.inr b:=λq=>e (Sum.inr.inj q)
  rw[Qdq h,Qdq e]
def C_(a:Int)(b:Str):decide ((Sum.inl a:Key)=Sum.inr b)=false:=Qdq (λq=>nomatch q)
def Dw(a:Str)(b:Int):decide ((Sum.inr a:Key)=Sum.inl b)=false:=Qdq (λq=>nomatch q)
def bg(prog:Program)(w:World):PySem.KeyKind prog w Key where
 is:=mL
 hash:=Ib w
 inj:=λv a b l f=>by
  rcases cj l with⟨i,t,rfl,rfl⟩|⟨x,t,rfl,rfl⟩
  ·rcases cj f with⟨j,u,rfl,e⟩|⟨y,u,rfl,e⟩
   ·injection e with c _;rw[c]
   ·exact nomatch e
  ·rcases cj f with⟨j,u,rfl,e⟩|⟨y,u,rfl,e⟩
   ·exact nomatch e
   ·injection e with c _;rw[c]
 byValue:=λk v h=>by
  rcases cj h with⟨i,t,rfl,rfl⟩|⟨x,t,rfl,rfl⟩ <;>rfl
 pyHash:=λd h=>by
  rcases cj d with⟨i,t,rfl,rfl⟩|⟨x,t,rfl,rfl⟩
  ·exact wpAny_pyHash_int h
  ·exact wpAny_pyHash_str h
 eqBool:=λg d h=>by
  rcases cj g with⟨i,t,rfl,rfl⟩|⟨x,t,rfl,rfl⟩
  ·rcases cj d with⟨j,u,rfl,rfl⟩|⟨y,u,rfl,rfl⟩
   ·rw[Dt] at h;exact wpAny_eqBool_int h
   ·rw[C_] at h;exact SeqAt.EqAt.int_str i t y u _ _ _ _ h
  ·rcases cj d with⟨j,u,rfl,rfl⟩|⟨y,u,rfl,rfl⟩
   ·rw[Dw] at h;exact SeqAt.EqAt.str_int x t j u _ _ _ _ h
   ·rw[EB] at h;exact wpAny_eqBool_str h
 «strs»:=λk x t v h=>by
  rcases cj h with⟨i,u,rfl,e⟩|⟨y,u,rfl,e⟩
  ·exact nomatch e
  ·injection e with c _
   subst c
   cases v <;>rfl
def tV(prog:Program)(w:World)(i:Int)(t:Tok):(bg prog w).is (.inl i) (.int i t)=true:=y1 i t
def ug(prog:Program)(w:World)(x:Str)(t:Tok):(bg prog w).is (.inr x) (.str x t)=true:=lV x t
inductive V where
 |non|bl (b:Bool)|int (i:Int)|str (x:Str)|byt (b:Array UInt8)|flt (b:UInt64)|ref (a:Addr)|ty (n:String)
 deriving DecidableEq
def RelV:V->Value->Prop
 |.non,u=>u=Value.none
 |.bl b,u=>u=Value.bool b
 |.int i,u=>∃t,u=Value.int i t
 |.str x,u=>∃t,u=Value.str x t
 |.byt b,u=>∃t,u=Value.bytes b t
 |.flt b,u=>∃t,u=Value.float b t
 |.ref a,u=>u=Value.ref a
 |.ty n,u=>u=Value.type n
abbrev bf:List V->List Value->Prop:=Paired RelV
def bf.length{xs:List V}{a:List Value}(r:bf xs a):xs.length=a.length:=Paired.length r
theorem bf.get:∀{xs:List V} {a:List Value} {i:Nat} {x:V},bf xs a->xs[i]?=some x->∃u,a[i]?=some u/\RelV x u
 |_,_,_,_,.nil,e=>by simp at e
 |_,_,0,_,.cons r _,e=>by simp at e;subst e;exact⟨_,rfl,r⟩
 | _,_,i+1,x,.cons _ t,e=>by
   obtain⟨u,b,c⟩:=bf.get (i:=i) (x:=x) t (by simpa using e)
   exact⟨u,by simpa using b,c⟩
theorem bf.set{x:V}{u:Value}(r:RelV x u):∀{xs:List V} {a:List Value} (i:Nat),bf xs a->bf (xs.set i x) (a.set i u)
 |_,_,_,.nil=>.nil
 |_,_,0,.cons _ t=>.cons r t
 |_,_,i+1,.cons q t=>.cons q (bf.set r i t)
theorem bf.append:∀{xs ys:List V} {a ws:List Value},bf xs a->bf ys ws->bf (xs++ys) (a++ws)
 |_,_,_,_,.nil,s=>s
 |_,_,_,_,.cons r t,s=>.cons r (bf.append t s)
theorem bf.take:∀{xs:List V} {a:List Value} (n:Nat),bf xs a->bf (xs.take n) (a.take n)
 |_,_,0,_=>.nil
 |_,_,_+1,.nil=>.nil
 |_,_,n+1,.cons r t=>.cons r (bf.take n t)
theorem bf.drop:∀{xs:List V} {a:List Value} (n:Nat),bf xs a->bf (xs.drop n) (a.drop n)
 |_,_,0,r=>r
 |_,_,_+1,.nil=>.nil
 |_,_,n+1,.cons _ t=>bf.drop n t
def o_:Option V->Option Value->Prop
 |some v,some u=>RelV v u
 |none,none=>True
 |_,_=>False
def KV{a:Type}:List (a×V)->List (a×Value)->Prop:=Paired λ(p:a×V) (q:a×Value)=>p.1=q.1/\RelV p.2 q.2
def kV:Key->V
 |.inl i=>.int i
 |.inr x=>.str x
inductive HO where
 |lst (xs:List V)
 |tup (xs:List V)
 |dK (kvs:List (Key×V))|dT (kvs:List (List Key×V))
 |set (S:Int->Bool) (n:Nat)
 |ins (C dx:Addr) (fs:List (Str×V))
 |own (x:Addr)
 |xd (fs:List (Str×V))
 |met (f x:Addr)
 |rng (lo hi:Int)
 |frz (o:Obj) (u:HO)
 |tbl (ps:Array Value)
 |ext (φ:Heap->Prop)
abbrev Hp:=Addr->Option HO
def upd(H:Hp)(a:Addr)(o:HO):Hp:=λb=>if b=a then some o else H b
def bx{H:Hp}{a:Addr}{o:HO}:upd H a o a=some o:=by unfold upd;rw[Qhq rfl]
def aO{H:Hp}{a b:Addr}{o:HO}(h:b≠a):upd H a o b=H b:=by unfold upd;rw[Quq h]
def A6{H:Hp}{a b:Addr}{o u:HO}(h:H a=some o)(h':H b=some u)(d:o≠u):a≠b:=by
 intro e;subst e;rw[h] at h';exact d (QdQ h')
def di{H:Hp}{a b:Addr}{o:HO}(h:H a=some o)(h':H b=none):a≠b:=by
 intro e;subst e;rw[h] at h';cases h'
def p8(h:Heap)(a:Addr)(items:Array Value):Prop:=∃o,h.get? a=some o/\o.cls=.type "tuple" /\o.dict=none/\∃n,o.data=.seq items n
def p8.it{h:Heap}{a:Addr}{items:Array Value}(x:p8 h a items):IsTup h a items:=by
 obtain⟨o,e,c,_,d⟩:=x
 exact⟨o,e,c,d⟩
def p8.new(h:Heap)(items:Array Value):p8 (h.push {cls:=.type "tuple",data:=.seq items}) h.objs.size items:=⟨_,Qrq _ rfl,rfl,rfl,_,rfl⟩
section
variable(P:Program)(w:World)
def b9(H:Hp)(h:Heap)(a:Addr):HO->Prop
 |.lst d=>d.length<=sizeLine/\∃(c:List Value) (n:Nat),bf d c/\h.get? a=some {cls:=.type "list",data:=.seq c.toArray n}
 |.tup d=>d.length<=sizeLine/\∃c:List Value,bf d c/\p8 h a c.toArray
 |.dK b=>b.length<=sizeLine/\(a==sysModules)=false/\∃k,KV b k/\h.DictOf (bg P w) a k
 |.dT b=>b.length<=sizeLine/\(a==sysModules)=false/\∃d:List (List Key×Addr×Value),
   Paired (λ(p:List Key×V) (q:List Key×Addr×Value)=>p.1=q.1/\H q.2.1=some (.tup (p.1.map kV))/\RelV p.2 q.2.2) b d∧
   ∃o r A,h.get? a=some o/\o.ExactDict/\o.data=.dict r A/\r.toList=d.map (entryOfKey (tupleKind (bg P w)))/\(d.map (·.1)).Nodup
 |.set S n=>h.SetOf (intKind P w) a S n
 |.ins C i g=>H i=some (.own a)/\g.length<=1000/\i≠a/\h.get? a=some (PySem.W.instObj C i)∧
   ∃e,h.Ns1 i e/\(∀f,o_ (g.lookup f) (e f))/\PySem.Within e (g.map (·.1))
 |.own _=>∃o,h.get? a=some o
 |.xd g=>∃e,h.Ns1 a e/\∀f,o_ (g.lookup f) (e f)
 |.rng s z=>∃t u v,h.get? a=some {cls:=.type "range",data:=.fields #[.int s t,.int z u,.int 1 v]}
 |.frz o u=>h.get? a=some o/\b9 H h a u
 |.tbl y=>h.get? a=some {cls:=.none,data:=.fields y}
 |.met f x=>h.get? a=some (PySem.W.methodObj (.ref f) (.ref x))
 |.ext j=>j h/\(∃o,h.get? a=some o)/\∀m l:Heap,j m->(∀o,m.get? a=some o->l.get? a=some o)->j l
def ki(H:Hp)(h:Heap):Prop:=∀a o,H a=some o->b9 P w H h a o
end
section
variable{P:Program}{w:World}{H H':Hp}{h h':Heap}{a:Addr}{o:HO}
theorem b9.lt(x:b9 P w H h a o):a<h.objs.size:=by
 cases o with
 |lst d=>obtain⟨_,_,_,_,e⟩:=x;exact Qiq e
 |tup d=>obtain⟨_,_,_,p⟩:=x;exact p.it.lt
 |dK b=>obtain⟨_,_,_,_,o,_,_,e,_⟩:=x;exact Qiq e
 |dT b=>obtain⟨_,_,_,_,o,_,_,e,_⟩:=x;exact Qiq e
 |set S n=>obtain⟨o,_,_,_,e,_⟩:=x;exact Qiq e
 |ins C k c=>obtain⟨_,_,_,e,_⟩:=x;exact Qiq e
 |own y=>obtain⟨_,e⟩:=x;exact Qiq e
 |xd c=>obtain⟨_,⟨_,_,_,e,_⟩,_⟩:=x;exact Qiq e
 |rng g j=>obtain⟨_,_,_,e⟩:=x;exact Qiq e
 |frz m u=>obtain⟨e,_⟩:=x;exact Qiq e
 |tbl i=>exact Qiq (show h.get? a=some _ from x)
 |met f y=>exact Qiq (show h.get? a=some _ from x)
 |ext l=>obtain⟨_,⟨_,e⟩,_⟩:=x;exact Qiq e
theorem Paired.mapP{α c:Type}{F G:α->c->Prop}:∀{l₁:List α} {l₂:List c},Paired F l₁ l₂->(∀a b,F a b->G a b)->Paired G l₁ l₂
 |_,_,.nil,_=>.nil
 |_,_,.cons r t,f=>.cons (f _ _ r) (Paired.mapP t f)
def b9.stay(x:b9 P w H h a o)(k:∀b u,(b=a\/H b=some (.own a))->h.get? b=some u->h'.get? b=some u)
  (J:∀b,H b=some (.own a)->H' b=some (.own a)) (L:∀b xs,H b=some (.tup xs)->H' b=some (.tup xs)):b9 P w H' h' a o:=by
 induction o with
 |lst xs=>obtain⟨z,l,n,r,e⟩:=x;exact⟨z,l,n,r,k _ _ (.inl rfl) e⟩
 |tup xs=>obtain⟨z,l,r,g,e,c⟩:=x;exact⟨z,l,r,g,k _ _ (.inl rfl) e,c⟩
 |dK A=>obtain⟨z,y,I,r,g,i,j,e,c⟩:=x;exact⟨z,y,I,r,g,i,j,k _ _ (.inl rfl) e,c⟩
 | dT A=>
   obtain⟨z,y,xs,r,g,i,j,e,c⟩:=x
   exact⟨z,y,xs,Paired.mapP r λp q z=>⟨z.1,L _ _ z.2.1,z.2.2⟩,g,i,j,k _ _ (.inl rfl) e,c⟩
 |set S n=>obtain⟨g,i,j,t,e,c⟩:=x;exact⟨g,i,j,t,k _ _ (.inl rfl) e,c⟩
 | ins C U K=>
   obtain⟨d,z,G,e,s,⟨m,i,j,N,c⟩,r⟩:=x
   exact⟨J _ d,z,G,k _ _ (.inl rfl) e,s,⟨m,i,j,k _ _ (.inr d) N,c⟩,r⟩
 |own y=>obtain⟨g,e⟩:=x;exact⟨g,k _ _ (.inl rfl) e⟩
 |xd K=>obtain⟨s,⟨m,i,j,e,c⟩,r⟩:=x;exact⟨s,⟨m,i,j,k _ _ (.inl rfl) e,c⟩,r⟩
 |rng Q R=>obtain⟨t,u,v,e⟩:=x;exact⟨t,u,v,k _ _ (.inl rfl) e⟩
 |frz g u M=>obtain⟨e,q⟩:=x;exact⟨k _ _ (.inl rfl) e,M q⟩
 | tbl F=>
   have e:h.get? a=some {cls:=.none,data:=.fields F}:=x
   show h'.get? a=some {cls:=.none,data:=.fields F}
   exact k a _ (.inl rfl) e
 | met f y=>
   have e:h.get? a=some (PySem.W.methodObj (.ref f) (.ref y)):=x
   show h'.get? a=some (PySem.W.methodObj (.ref f) (.ref y))
   exact k a _ (.inl rfl) e
 |ext X=>obtain⟨p,⟨o,e⟩,B⟩:=x;exact⟨B _ _ p λo q=>k _ _ (.inl rfl) q,⟨o,k _ _ (.inl rfl) e⟩,B⟩
def ki.lt(x:ki P w H h)(e:H a=some o):a<h.objs.size:=(x a o e).lt
def ki.fresh(x:ki P w H h)(e:h.objs.size<=a):H a=none:=by
 cases q:H a with
 |none=>rfl
 |some u=>exact absurd (Qqq (x.lt q) e) (Nat.lt_irrefl _)
def ki.kept(x:ki P w H h)(k:∀b u,h.get? b=some u->h'.get? b=some u):ki P w H h':=λa o e=>
 (x a o e).stay (λb u _ q=>k b u q) (λ_ q=>q) λ_ _ q=>q
def ki.laid(x:ki P w H h)(k:∀b u,h.get? b=some u->h'.get? b=some u)(g:h.objs.size<=a)(new:b9 P w (upd H a o) h' a o):ki P w (upd H a o) h':=λb u e=>by
 have f:=x.fresh g
 by_cases d:b=a
 ·subst d;rw[bx] at e;cases e;exact new
 ·rw[aO d] at e
  exact(x b u e).stay (λc v _ q=>k c v q) (λc q=>by rw[aO (di q f)];exact q) λc i q=>by rw[aO (di q f)];exact q
end
def Rd(H:Hp)(a:Addr)(u:HO):Prop:=H a=some u\/∃o,H a=some (.frz o u)
def Rd.ok{P:Program}{w:World}{H:Hp}{h:Heap}{a:Addr}{u:HO}(r:Rd H a u)(x:ki P w H h):b9 P w H h a u:=by
 rcases r with r|⟨o,r⟩
 ·exact x a u r
 ·obtain⟨_,q⟩:=x a _ r
  exact q
def Gp:Option HO->Prop
 |some (.lst _)=>True
 |some (.dK _)=>True
 |some (.dT _)=>True
 |some (.set _ _)=>True
 |some (.ins _ _ _)=>True
 |some (.ext _)=>True
 |_=>False
section
variable{P:Program}{w:World}{H:Hp}{h h':Heap}{x e:Addr}{o':HO}
def ki.write(ok:ki P w H h)(g:Gp (H x))(he:e=x\/H e=some (.own x))(k:∀b u,b≠e->h.get? b=some u->h'.get? b=some u)(m:∃u,h'.get? e=some u)
  (new:b9 P w (upd H x o') h' x o'):ki P w (upd H x o') h':=λb u q=>by
 have d:∀c y,H c=some (.own y)->c≠x:=λc y r z=>by subst z;rw[r] at g;exact g
 have f:∀c j,H c=some (.tup j)->c≠x:=λc j r z=>by subst z;rw[r] at g;exact g
 by_cases i:b=x
 ·subst i;rw[bx] at q;cases q;exact new
 ·rw[aO i] at q
  by_cases a:b=e
  ·have n:H b=some (.own x):=by
    rcases he with z|z
    ·exact absurd (a.trans z) i
    ·rw[a];exact z
   rw[q] at n;cases n
   obtain⟨v,o⟩:=m
   exact⟨v,by rw[a];exact o⟩
  ·refine(ok b u q).stay (λc v l r=>k c v ?_ r) (λc r=>by rw[aO (d c b r)];exact r) λc j r=>by rw[aO (f c j r)];exact r
   rcases l with rfl|l
   ·exact a
   ·rintro rfl
    rcases he with z|z
    ·exact d c b l z
    ·rw[l] at z;cases z;exact i rfl
end
structure Un(fs ex:List Addr)(H H':Hp)(h h':Heap):Prop where
 keep:∀b o,h.get? b=some o->H b=none->b∉fs->b∉ex->h'.get? b=some o
 slot:∀b o,h.get? b=some o->H b=none->b∈fs->b∉ex->∃sl,h'.get? b=some {o with slots:=sl}
 free:∀b o,h.get? b=some o->H b=none->b∉ex->H' b=none
 there:∀b o,h.get? b=some o->b∉ex->∃o',h'.get? b=some o'
 tups:∀b xs,H b=some (.tup xs)->H' b=some (.tup xs)
 frzs:∀b o u,H b=some (.frz o u)->H' b=some (.frz o u)
 tbls:∀b ps,H b=some (.tbl ps)->∃more,H' b=some (.tbl (ps++more))
section
variable{fs fs' ex ex':List Addr}{H H1 H2:Hp}{h h1 h2 h':Heap}{a x e:Addr}{o:HO}
def Un.any(u:Un fs ex H H1 h h1){b:Addr}{c:Obj}(q:h.get? b=some c)(n:H b=none)(f:b∉ex):∃g,h1.get? b=some {c with slots:=g}:=by
 by_cases d:b∈fs
 ·exact u.slot b c q n d f
 ·exact⟨c.slots,u.keep b c q n d f⟩
def Un.kept(k:∀b u,h.get? b=some u->h'.get? b=some u):Un fs ex H H h h':=
 ⟨λb c q _ _ _=>k b c q,λb c q _ _ _=>⟨c.slots,k b c q⟩,λ_ _ _ n _=>n,λb c q _=>⟨c,k b c q⟩,λ_ _ q=>q,λ_ _ _ q=>q,λ_ d q=>⟨#[],by rw[q];simp⟩⟩
def Un.refl:Un fs ex H H h h:=Un.kept λ_ _ q=>q
def Un.laid(k:∀b u,h.get? b=some u->h'.get? b=some u)(d:h.objs.size<=a)(c:H a=none):Un fs ex H (upd H a o) h h' where
 keep:=λb u q _ _ _=>k b u q
 slot:=λb u q _ _ _=>⟨u.slots,k b u q⟩
 free:=λb u q n _=>by rw[aO (Qwq (Qqq (Qiq q) d))];exact n
 there:=λb u q _=>⟨u,k b u q⟩
 tups:=λb f q=>by rw[aO (di q c)];exact q
 frzs:=λb u f q=>by rw[aO (di q c)];exact q
 tbls:=λb g q=>⟨#[],by rw[aO (di q c),q];simp⟩
def Un.write(d:Gp (H x))(he:e=x\/H e=some (.own x))(k:∀b u,b≠e->h.get? b=some u->h'.get? b=some u)(g:∃u,h'.get? e=some u):Un fs ex H (upd H x o) h h':=by
 have j:∀b,H b=none->b≠x:=λb n z=>by subst z;rw[n] at d;exact d
 have i:∀b,H b=none->b≠e:=λb n z=>by
  subst z
  rcases he with r|r
  ·exact j b n r
  ·rw[n] at r;cases r
 have f:∀b u,H b=some u->¬Gp (some u)->b≠x:=λb u q l z=>by subst z;rw[q] at d;exact l d
 refine⟨λb u q n _ _=>k b u (i b n) q,λb u q n _ _=>⟨u.slots,k b u (i b n) q⟩,λb u q n _=>by rw[aO (j b n)];exact n,λb u q _=> ?_,
  λb m q=>by rw[aO (f b _ q λz=>z)];exact q,λb u m q=>by rw[aO (f b _ q λz=>z)];exact q,λb p q=>⟨#[],by rw[aO (f b _ q λz=>z),q];simp⟩⟩
 by_cases c:b=e
 ·subst c;exact g
 ·exact⟨u,k b u c q⟩
end
def GX(h:Heap)(H:Hp):List Addr:=(List.range h.objs.size).filter λa=>(H a).isSome
def rf(h:Heap)(H:Hp):Heap:=PySem.W.hideAll h (GX h H)
def yW(h:Heap)(H:Hp):(rf h H).objs.size=h.objs.size:=PySem.W.hideAll_size _ _
def zH{h:Heap}{H:Hp}{b:Addr}{o:Obj}(e:h.get? b=some o)(n:H b=none):(rf h H).get? b=some o:=
 PySem.W.hideAll_get _ e λa=>by
  have q:(H b).isSome=true:=(List.mem_filter.mp a).2
  rw[n] at q;simp at q
def B9{h:Heap}{H:Hp}{b:Addr}{o:Obj}(e:(rf h H).get? b=some o):h.get? b=some o/\H b=none:=by
 have a:h.get? b=some o:=PySem.W.of_hideAll (GX h H) e
 refine⟨a,?_⟩
 cases q:H b with
 |none=>rfl
 | some x=>
   have c:b∈GX h H:=List.mem_filter.mpr ⟨List.mem_range.mpr (Qiq a),by simp[q]⟩
   have z:(rf h H).get? b=none:=PySem.W.hideAll_none (GX h H) c
   rw[z] at e;cases e
structure Mod(K:PySem.W.Frag)(mg:Str->Option Value)(base:Heap):Prop where
 kin:K.In base
 glob:base.Ns mainGlobals mg
 blt:∃mb,base.Ns builtinsNs mb/\∀x:Str,x≠"__name__" ->mb x=bootBuiltins x
 nolimit:base.NoLimit
structure Cx where
 prog:Program
 w:World
 K:PySem.W.Frag
 mg:Str->Option Value
 base:Heap
 A:Around
 N:List Str
 s₀:Shared
 H₀:Hp
 env:Env
 outer:List Env
 stack:List Env
 ex:List Addr
 fn:Str->Bool
 calm:Bool
 pn:List (Addr×Obj)
 xe:Value->Shared->Prop
def Bj(l:List Env):List Addr:=l.filterMap (·.frame)
abbrev Cx.fs(X:Cx):List Addr:=Bj X.outer
def C2(a:Scope)(x:Str):Prop:=a.names.lookup x=some .local\/a.names.lookup x=some .cell\/a.names.lookup x=some .free
def Loc(a:Scope)(x:Str):Prop:=a.names.lookup x=some .local\/a.names.lookup x=some .cell
def Look(env:Env)(h:Heap)(m:Str->Option Value)(x:Str)(u:Value):Prop:=
 (env.kindOf x=some .local/\m x=some u)\/((env.kindOf x=some .cell\/env.kindOf x=some .free)/\∃c,env.cells.lookup x=some c/\h.IsCell c (some u))
structure Cx.Ok(X:Cx):Prop where
 mod:Mod X.K X.mg X.base
 kind:X.env.scope.kind=.function
 glob:X.env.globals=mainGlobals
 blt:X.env.builtins=builtinsNs
 above:X.s₀.heap.objs.size<=X.env.locals
 inj:∀x y c,X.env.cells.lookup x=some c->X.env.cells.lookup y=some c->x=y
 has:∀x,(X.env.kindOf x=some .cell\/X.env.kindOf x=some .free)->∃c,X.env.cells.lookup x=some c
 cab:∀x c,X.fn x=true->X.env.cells.lookup x=some c->X.s₀.heap.objs.size<=c
 hd:X.calm=true->X.A.handled=none
 frames:X.A.frames=some X.stack
 stk:X.stack=X.outer\/(X.stack=X.env::X.outer/\X.env.frame=some X.env.locals)
 exf:∀b∈X.ex,b≠X.env.locals/\∀x c,X.env.cells.lookup x=some c->c≠b
 bs:∀b o,X.base.get? b=some o->X.s₀.heap.get? b=some o/\X.H₀ b=none
 bsz:X.base.objs.size<=X.s₀.heap.objs.size
 noex:∀b o,X.base.get? b=some o->b∉X.ex
 exfs:∀b∈X.ex,b∉X.fs
 funs:X.s₀.heap.FunFrames X.base X.outer
 frf:∀b∈X.fs,X.H₀ b=none
structure Inv(X:Cx)(pins:List (Addr×Obj))(σ:List (Option V))(H:Hp)(s:Shared):Prop where
 ok:X.Ok
 os:s.os=X.s₀.os
 bare:AllBare s.gens
 base:Un X.fs X.ex X.H₀ H X.s₀.heap s.heap
 loc:∃m,s.heap.Ns X.env.locals m/\∀(i:Nat) (x:Str) (v:V),X.N[i]?=some x->σ[i]?=some (some v)->C2 X.env.scope x->∃u,RelV v u/\Look X.env s.heap m x u
 cell:∀x c,X.env.cells.lookup x=some c->∃v,s.heap.IsCell c v
 free:H X.env.locals=none
 freeC:∀x c,X.env.cells.lookup x=some c->H c=none
 pin:∀p∈X.pn++pins,s.heap.get? p.1=some p.2/\H p.1=none/\p.1≠X.env.locals/\p.1∉X.fs/\∀v,p.2.data≠.cell v
 hok:ki X.prog X.w H s.heap
 len:σ.length=X.N.length
section
variable{X:Cx}{pins:List (Addr×Obj)}{σ:List (Option V)}{H H':Hp}{s:Shared}{h':Heap}
def Cx.Ok.nofr(ok:X.Ok){b:Addr}{o:Obj}(e:X.base.get? b=some o):b∉X.fs:=λa=>by
 have:=(ok.funs.mem a).1
 rw[e] at this;cases this
def Inv.bs(I:Inv X pins σ H s):∀b o,X.base.get? b=some o->s.heap.get? b=some o/\H b=none:=λb o e=>
 ⟨I.base.keep b o (I.ok.bs b o e).1 (I.ok.bs b o e).2 (I.ok.nofr e) (I.ok.noex b o e),I.base.free b o (I.ok.bs b o e).1 (I.ok.bs b o e).2 (I.ok.noex b o e)⟩
def Inv.bk(I:Inv X pins σ H s):∀b o,X.base.get? b=some o->s.heap.get? b=some o:=λb o e=>(I.bs b o e).1
def Inv.mod(I:Inv X pins σ H s):Mod X.K X.mg X.base:=I.ok.mod
def Inv.kIn(I:Inv X pins σ H s):X.K.In s.heap:=I.ok.mod.kin.keeps I.bk
def Inv.lt(I:Inv X pins σ H s):X.env.locals<s.heap.objs.size:=let ⟨_,hn,_⟩:=I.loc;hn.lt
def Inv.sz(I:Inv X pins σ H s):X.s₀.heap.objs.size<=s.heap.objs.size:=QAq I.ok.above (nQl I.lt)
def Inv.nofs(I:Inv X pins σ H s){a:Addr}(h:s.heap.objs.size<=a):a∉X.fs:=λb=>by
 obtain⟨_,o,c,_⟩:=I.ok.funs.mem b
 exact absurd (Qqq (Qiq c) (QAq I.sz h)) (Nat.lt_irrefl _)
def Inv.cne(I:Inv X pins σ H s):∀x c,X.env.cells.lookup x=some c->c≠X.env.locals:=λx c e z=>by
 obtain⟨v,o,d,f⟩:=I.cell x c e
 obtain⟨m,⟨i,g,h,a,b,_⟩,_⟩:=I.loc
 rw[z,a] at d;cases d;rw[b] at f;cases f
theorem Inv.funs(I:Inv X pins σ H s):s.heap.FunFrames X.base X.outer:=by
 have f:∀(l:List Env),(∀b∈Bj l,b∈X.fs)->X.s₀.heap.FunFrames X.base l->s.heap.FunFrames X.base l:=by
  intro l
  induction l with
  |nil=>intro _ _;trivial
  | cons k r p=>
    intro g n
    obtain⟨q,⟨L,o,c,h,i,m⟩,j⟩:=n
    have a:L∈X.fs:=g L (by unfold Bj;rw[List.filterMap_cons,c];exact QBq)
    obtain⟨t,e⟩:=I.base.slot L o i (I.ok.frf L a) a λz=>I.ok.exfs L z a
    exact⟨q,⟨L,_,c,h,e,m⟩,p (λb d=>g b (by unfold Bj;rw[List.filterMap_cons,c];exact Qpq _ d)) j⟩
 exact f X.outer (λ_ d=>d) I.ok.funs
def Inv.stack(I:Inv X pins σ H s):s.heap.FunFrames X.base X.stack:=by
 rcases I.ok.stk with e|⟨e,b⟩
 ·rw[e];exact I.funs
 ·rw[e]
  obtain⟨m,a,_⟩:=I.loc
  refine .cons (by rw[I.ok.kind];decide) b a ?_ I.funs
  exact Heap.get?_none_of_le (QAq I.ok.bsz I.ok.above)
def Inv.stkSub(I:Inv X pins σ H s):∀b∈Bj X.stack,b∈X.env.locals::X.fs:=λb a=>by
 rcases I.ok.stk with e|⟨e,c⟩
 ·rw[e] at a;exact Qpq _ a
 ·rw[e] at a
  unfold Bj at a
  rw[List.filterMap_cons,c] at a
  exact a
def Inv.stkFree(I:Inv X pins σ H s):∀b∈Bj X.stack,H b=none:=λb a=>by
 rcases Qsq.mp (I.stkSub b a) with e|a
 ·rw[e];exact I.free
 ·obtain⟨_,o,c,_⟩:=I.ok.funs.mem a
  exact I.base.free b o c (I.ok.frf b a) λz=>I.ok.exfs b z a
def Inv.step{g':Array GenState}{t':Nat}{d':Drawn}{ch:List Addr}(I:Inv X pins σ H s)
  (h:∀b∈ch,(b∈X.ex\/X.s₀.heap.objs.size<=b)/\b≠X.env.locals/\(∀x c,X.env.cells.lookup x=some c->c≠b)/\∀p∈X.pn++pins,p.1≠b)
  (keep:∀b o,b≠X.env.locals->b∉X.fs->b∉ch->s.heap.get? b=some o->H b=none->h'.get? b=some o)
  (slot:∀b o,b≠X.env.locals->b∈X.fs->b∉ch->s.heap.get? b=some o->H b=none->∃G,h'.get? b=some {o with slots:=G}) (free:∀b o,b∉ch->s.heap.get? b=some o->H b=none->H' b=none)
  (there:∀b o,b∉ch->s.heap.get? b=some o->∃o',h'.get? b=some o')
  (tups:∀b xs,H b=some (.tup xs)->H' b=some (.tup xs)) (frzs:∀b o u,H b=some (.frz o u)->H' b=some (.frz o u)) (tbls:∀b ps,H b=some (.tbl ps)->∃more,H' b=some (.tbl (ps++more)))
  (ns:∀m,s.heap.Ns X.env.locals m->h'.Ns X.env.locals m) (K:ki X.prog X.w H' h') (Y:AllBare g'):
  Inv X pins σ H' {s with heap:=h',gens:=g',drawn:=d',toks:=t'}:=by
 have B:∀b o,X.s₀.heap.get? b=some o->b≠X.env.locals:=λb o e=>Qwq (Qqq (Qiq e) I.ok.above)
 have t:∀b o,X.s₀.heap.get? b=some o->b∉X.ex->b∉ch:=λb o e a y=>by
  rcases(h b y).1 with z|z
  ·exact a z
  ·exact absurd (Qqq (Qiq e) z) (Nat.lt_irrefl _)
 have g:∀x c,X.env.cells.lookup x=some c->∀v,s.heap.IsCell c v->h'.IsCell c v:=λx c e v Z=>by
  obtain⟨o,A,J⟩:=Z
  have f:c∉ch:=λz=>(h c z).2.2.1 x c e rfl
  by_cases P:c∈X.fs
  ·obtain⟨G,q⟩:=slot c o (I.cne x c e) P f A (I.freeC x c e)
   exact⟨_,q,J⟩
  ·exact⟨o,keep c o (I.cne x c e) P f A (I.freeC x c e),J⟩
 refine⟨I.ok,I.os,Y,⟨λb o e n y a=> ?_,λb o e n y a=> ?_,λb o e n a=> ?_,λb o e a=> ?_,λb xs e=>tups b xs (I.base.tups b xs e),λb o xs e=>frzs b o xs (I.base.frzs b o xs e),λb ps e=> ?_⟩,?_,λx c e=> ?_,?_,λx c e=> ?_,λp N=> ?_,K,I.len⟩
 ·exact keep b o (B b o e) y (t b o e a) (I.base.keep b o e n y a) (I.base.free b o e n a)
 ·obtain⟨G,j⟩:=I.base.slot b o e n y a
  obtain⟨F,C⟩:=slot b _ (B b o e) y (t b o e a) j (I.base.free b o e n a)
  exact⟨F,C⟩
 ·obtain⟨o',j⟩:=I.base.there b o e a
  exact free b o' (t b o e a) j (I.base.free b o e n a)
 ·obtain⟨o',j⟩:=I.base.there b o e a
  exact there b o' (t b o e a) j
 ·obtain⟨S,j⟩:=I.base.tbls b ps e
  obtain⟨R,C⟩:=tbls b _ j
  exact⟨S++R,by rw[C,Array.append_assoc]⟩
 ·obtain⟨m,Q,W⟩:=I.loc
  refine⟨m,ns m Q,λi x v j C U=> ?_⟩
  obtain⟨u,r,l⟩:=W i x v j C U
  refine⟨u,r,?_⟩
  rcases l with l|⟨k,c,e,z⟩
  ·exact .inl l
  ·exact .inr ⟨k,c,e,g x c e _ z⟩
 ·obtain⟨v,z⟩:=I.cell x c e
  exact⟨v,g x c e v z⟩
 ·obtain⟨m,⟨o,_,_,A,_⟩,_⟩:=I.loc
  exact free _ o (λz=>(h _ z).2.1 rfl) A I.free
 ·obtain⟨v,o,A,J⟩:=I.cell x c e
  exact free c o (λz=>(h c z).2.2.1 x c e rfl) A (I.freeC x c e)
 ·obtain⟨e,n,L,M,d⟩:=I.pin p N
  have f:p.1∉ch:=λz=>(h p.1 z).2.2.2 p N rfl
  exact⟨keep p.1 p.2 L M f e n,free p.1 p.2 f e n,L,M,d⟩
def Inv.un{t':Nat}(I:Inv X pins σ H s)(u:Un X.fs [] H H' s.heap h')(f:ki X.prog X.w H' h'):Inv X pins σ H' {s with heap:=h',toks:=t'}:=by
 obtain⟨m,⟨o,q,v,h,r⟩,_⟩:=id I.loc
 obtain⟨l,i⟩:=u.any h I.free (by simp)
 exact I.step (g':=s.gens) (d':=s.drawn) (ch:= []) (λ_ z=>nomatch z) (λb o _ c _ e n=>u.keep b o e n c (by simp)) (λb o _ c _ e n=>u.slot b o e n c (by simp)) (λb o _ e n=>u.free b o e n (by simp)) (λb o _ e=>u.there b o e (by simp)) u.tups u.frzs u.tbls (λp j=>by
  obtain⟨t,g,d,a,k⟩:=j
  rw[h] at a;cases a
  exact⟨_,g,d,i,k⟩) f I.bare
def Inv.call{g':Array GenState}{t':Nat}{d':Drawn}{ch:List Addr}(I:Inv X pins σ H s)(u:Un (Bj X.stack) ch H H' s.heap h')(i:ki X.prog X.w H' h')(v:AllBare g')
  (d:∀b∈ch,(b∈X.ex\/X.s₀.heap.objs.size<=b)/\b≠X.env.locals/\(∀x c,X.env.cells.lookup x=some c->c≠b)/\∀p∈X.pn++pins,p.1≠b):
  Inv X pins σ H' {s with heap:=h',gens:=g',drawn:=d',toks:=t'}:=by
 obtain⟨m,⟨o,B,F,k,r⟩,_⟩:=id I.loc
 obtain⟨y,g⟩:=u.any k I.free λz=>(d _ z).2.1 rfl
 exact I.step (ch:=ch) d (λb o g l a e n=>u.keep b o e n (λz=>(Qsq.mp (I.stkSub b z)).elim g l) a) (λb o _ _ a e n=>u.any e n a) (λb o a e n=>u.free b o e n a) (λb o a e=>u.there b o e a) u.tups u.frzs u.tbls (λA q=>by
  obtain⟨C,j,h,f,t⟩:=q
  rw[k] at f;cases f
  exact⟨_,j,h,g,t⟩) i v
def Inv.turned{t':Nat}{it:Addr}(I:Inv X pins σ H s)(k:∀b o,b≠it->s.heap.get? b=some o->h'.get? b=some o)(g:H it=none)(f:it≠X.env.locals)
  (t:it∈X.ex\/X.s₀.heap.objs.size<=it) (l:∀x c,X.env.cells.lookup x=some c->c≠it) (w:∀p∈X.pn++pins,p.1≠it):Inv X pins σ H {s with heap:=h',toks:=t'}:=by
 have d:∀b u,H b=some u->b≠it:=λb u e z=>by rw[z,g] at e;cases e
 refine I.step (g':=s.gens) (d':=s.drawn) (ch:= [it]) (λb i=> ?_) (λb o _ _ a e _=>k b o (λz=>a (by simp[z])) e) (λb o _ _ a e _=>⟨o.slots,k b o (λz=>a (by simp[z])) e⟩) (λ_ _ _ _ n=>n)
  (λb o a e=>⟨o,k b o (λz=>a (by simp[z])) e⟩) (λ_ _ e=>e) (λ_ _ _ e=>e) (λb B e=>⟨#[],by rw[e];simp⟩) (λm j=> ?_) (λb u e=> ?_) I.bare
 ·have e:b=it:=by simpa using i
  subst e
  exact⟨t,f,l,w⟩
 ·obtain⟨o,y,A,h,r⟩:=j
  exact⟨o,y,A,k _ o (Ne.symm f) h,r⟩
 ·refine(I.hok b u e).stay (λc v a q=>k c v ?_ q) (λ_ q=>q) λ_ _ q=>q
  rcases a with z|z
  ·rw[z];exact d b u e
  ·exact d c _ z
def Inv.tok(I:Inv X pins σ H s)(t:Nat):Inv X pins σ H {s with toks:=t}:=I.un (h':=s.heap) (t':=t) Un.refl I.hok
def Inv.kept{t':Nat}(I:Inv X pins σ H s)(k:∀b u,s.heap.get? b=some u->h'.get? b=some u):Inv X pins σ H {s with heap:=h',toks:=t'}:=I.un (Un.kept k) (I.hok.kept k)
def Inv.laid{a:Addr}{o:HO}{t':Nat}(I:Inv X pins σ H s)(k:∀b u,s.heap.get? b=some u->h'.get? b=some u)(c:s.heap.objs.size<=a)(new:b9 X.prog X.w (upd H a o) h' a o):
  Inv X pins σ (upd H a o) {s with heap:=h',toks:=t'}:=I.un (Un.laid k c (I.hok.fresh c)) (I.hok.laid k c new)
def Inv.write{x e:Addr}{o:HO}{t':Nat}(I:Inv X pins σ H s)(c:Gp (H x))(he:e=x\/H e=some (.own x))(k:∀b u,b≠e->s.heap.get? b=some u->h'.get? b=some u)(a:∃u,h'.get? e=some u)
  (new:b9 X.prog X.w (upd H x o) h' x o):Inv X pins σ (upd H x o) {s with heap:=h',toks:=t'}:=I.un (Un.write c he k a) (I.hok.write c he k a new)
def Inv.pins_of{a:List (Addr×Obj)}(I:Inv X pins σ H s)(h:∀p∈a,s.heap.get? p.1=some p.2/\H p.1=none/\p.1≠X.env.locals/\p.1∉X.fs/\∀v,p.2.data≠.cell v):Inv X a σ H s:=
 ⟨I.ok,I.os,I.bare,I.base,I.loc,I.cell,I.free,I.freeC,λp b=>(mQa.mp b).elim (λz=>I.pin p (List.mem_append_left _ z)) (h p),I.hok,I.len⟩
def uz{N:List Str}(c:N.Nodup){i j:Nat}{x:Str}(a:N[i]?=some x)(b:N[j]?=some x):i=j:=by
 obtain⟨f,d⟩:=gQs.mp a
 obtain⟨g,e⟩:=gQs.mp b
 exact(List.getElem_inj c).mp (d.trans e.symm)
def yQ{M:Model}{A:Around}{E:Value->Shared->Prop}{i:Nat}{x:Str}{v:V}{u:Value}{Q:Unit->Shared->Prop}(I:Inv X pins σ H s)(hN:X.N.Nodup)(hi:X.N[i]?=some x)(B:Loc X.env.scope x)(r:RelV v u)
  (h:∀s',Inv X pins (σ.set i (some v)) H s'->(∃a,Heap.SameBut a s.heap s'.heap/\(a=X.env.locals\/X.env.cells.lookup x=some a))->Q () s') (hf:X.fn x=true\/X.env.scope.names.lookup x=some .local:=by first|exact .inl rfl|exact .inr rfl|assumption):wpAny M A (storeName X.env x u) Q E s:=by
 obtain⟨m,hn,hl⟩:=id I.loc
 have Y:(X.env.scope.kind==.class||(X.env.scope.kind==.module&&X.env.locals !=X.env.globals))=false:=by rw[I.ok.kind];rfl
 have G:i<σ.length:=by rw[I.len];exact(gQs.mp hi).1
 have K:=I.cne
 have l:∀{a:Addr} {h':Heap},(∃o,s.heap.get? a=some o/\H a=none)->Heap.SameBut a s.heap h'->ki X.prog X.w H h':=λ{a h'} ha f b ob e=>by
  obtain⟨_,_,C⟩:=ha
  refine(I.hok b ob e).stay (λc w' t q=>(f.2 c ?_).trans q) (λ_ q=>q) λ_ _ q=>q
  rintro rfl
  rcases t with rfl|t
  ·rw[C] at e;cases e
  ·rw[C] at t;cases t
 rcases B with J|J
 ·refine wpAny_storeName_local J hn (λh' a0 f=> ?_) Y
  obtain⟨oL,_,_,a1,_⟩:=id hn
  refine h _ ⟨I.ok,I.os,I.bare,⟨λb o e n P B=> ?_,λb o e n P B=> ?_,I.base.free,λb o e B=> ?_,I.base.tups,I.base.frzs,I.base.tbls⟩,⟨_,a0,λj y v' g F e3=> ?_⟩,λy c e=> ?_,I.free,I.freeC,λp hp=> ?_,l ⟨oL,a1,I.free⟩ f,by simpa using I.len⟩ ⟨_,f,.inl rfl⟩
  ·exact(f.2 b (Qwq (Qqq (Qiq e) I.ok.above))).trans (I.base.keep b o e n P B)
  ·obtain⟨sl,g⟩:=I.base.slot b o e n P B
   exact⟨sl,(f.2 b (Qwq (Qqq (Qiq e) I.ok.above))).trans g⟩
  ·obtain⟨o',g⟩:=I.base.there b o e B
   exact⟨o',(f.2 b (Qwq (Qqq (Qiq e) I.ok.above))).trans g⟩
  ·by_cases R:j=i
   ·subst R
    rw[hi] at g;cases g
    rw[Qyq G] at F
    cases F
    exact⟨u,r,.inl ⟨J,by simp⟩⟩
   ·rw[QKq (Ne.symm R)] at F
    obtain⟨u',r',q⟩:=hl j y v' g F e3
    refine⟨u',r',?_⟩
    rcases q with⟨k,e⟩|⟨k,c,e,z⟩
    ·refine .inl ⟨k,?_⟩
     have:y≠x:=λe=>R (uz hN g (e▸hi))
     simp[this,e]
    ·exact .inr ⟨k,c,e,z.sameBut f (K y c e)⟩
  ·obtain⟨w',z⟩:=I.cell y c e
   exact⟨w',z.sameBut f (K y c e)⟩
  ·obtain⟨e,n,ne,nf,d⟩:=I.pin p hp
   exact⟨(f.2 p.1 ne).trans e,n,ne,nf,d⟩
 ·have L:X.fn x=true:=by
   rcases hf with z|z
   ·exact z
   ·rw[z] at J;cases J
  obtain⟨c,t⟩:=I.ok.has x (.inl J)
  obtain⟨w',z⟩:=I.cell x c t
  refine wpAny_storeName_cell I.ok.kind J t z (λh' U f=> ?_)
  obtain⟨oc,S,W⟩:=id z
  refine h {s with heap:=h'} ⟨I.ok,I.os,I.bare,⟨λb o e n P B=> ?_,λb o e n P B=> ?_,I.base.free,λb o e B=> ?_,I.base.tups,I.base.frzs,I.base.tbls⟩,⟨m,hn.sameBut f (Ne.symm (K x c t)),λj y v' g F e3=> ?_⟩,λy c' e=> ?_,I.free,I.freeC,λp hp=> ?_,l ⟨oc,S,I.freeC x c t⟩ f,by simpa using I.len⟩ ⟨c,f,.inr t⟩
  ·exact(f.2 b (Qwq (Qqq (Qiq e) (I.ok.cab x c L t)))).trans (I.base.keep b o e n P B)
  ·obtain⟨sl,g⟩:=I.base.slot b o e n P B
   exact⟨sl,(f.2 b (Qwq (Qqq (Qiq e) (I.ok.cab x c L t)))).trans g⟩
  ·obtain⟨o',g⟩:=I.base.there b o e B
   exact⟨o',(f.2 b (Qwq (Qqq (Qiq e) (I.ok.cab x c L t)))).trans g⟩
  ·by_cases R:j=i
   ·subst R
    rw[hi] at g;cases g
    rw[Qyq G] at F
    cases F
    exact⟨u,r,.inr ⟨.inl J,c,t,U⟩⟩
   ·rw[QKq (Ne.symm R)] at F
    obtain⟨u',r',q⟩:=hl j y v' g F e3
    refine⟨u',r',?_⟩
    rcases q with q|⟨k,c',e,z'⟩
    ·exact .inl q
    ·refine .inr ⟨k,c',e,z'.sameBut f ?_⟩
     rintro rfl
     exact R (uz hN g (I.ok.inj _ _ _ e t▸hi))
  ·by_cases Z:c'=c
   ·subst Z;exact⟨_,U⟩
   ·obtain⟨w2,z2⟩:=I.cell y c' e
    exact⟨w2,z2.sameBut f Z⟩
  ·obtain⟨e,n,ne,nf,d⟩:=I.pin p hp
   refine⟨(f.2 p.1 ?_).trans e,n,ne,nf,d⟩
   intro q
   rw[q,S] at e
   have q':oc=p.2:=QdQ e
   exact d w' (by rw[←q'];exact W)
def kY{M:Model}{A:Around}{E:Value->Shared->Prop}{i:Nat}{x:Str}{v:V}{u:Value}{Q:Unit->Shared->Prop}(I:Inv X pins σ H s)(c:X.N.Nodup)(hi:X.N[i]?=some x)(d:Loc X.env.scope x)(r:RelV v u)
  (h:∀a,Inv X pins (σ.set i (some v)) H a->Q () a) (e:X.fn x=true\/X.env.scope.names.lookup x=some .local:=by first|exact .inl rfl|exact .inr rfl|assumption):wpAny M A (storeName X.env x u) Q E s:=
 yQ I c hi d r (λa b _=>h a b) e
def Inv.call'{a:Shared}{ch:List Addr}(I:Inv X pins σ H s)(h:a.os=s.os)(u:Un (Bj X.stack) ch H H' s.heap a.heap)(d:ki X.prog X.w H' a.heap)(g:AllBare a.gens)
  (f:∀b∈ch,(b∈X.ex\/X.s₀.heap.objs.size<=b)/\b≠X.env.locals/\(∀x c,X.env.cells.lookup x=some c->c≠b)/\∀p∈X.pn++pins,p.1≠b):Inv X pins σ H' a:=by
 obtain⟨h',g',d',t',i⟩:=a
 have e:i=s.os:=h
 subst e
 exact I.call (g':=g') (t':=t') (d':=d') u d g f
end
abbrev XK:=Value->Option Addr->Hp->Prop
abbrev St:=List (Option V)
abbrev VK:=V->Hp->Prop
abbrev TE:=St->Hp->VK->Prop
abbrev TT:=St->Hp->(Bool->Hp->Prop)->Prop
abbrev TA:=St->Hp->(List V->Hp->Prop)->Prop
structure Ends where
 nx:St->Hp->Prop
 rt:VK
 bk:St->Hp->Prop:=λ_ _=>False
 ct:St->Hp->Prop:=λ_ _=>False
abbrev TS:=Ends->St->Hp->Prop
def EP(X:Cx)(a:List (Addr×Obj))(d:St)(Q:VK)(u:Value)(c:Shared):Prop:=∃v b,Inv X a d b c/\RelV v u/\Q v b
def TP(X:Cx)(a:List (Addr×Obj))(e:St)(Q:Bool->Hp->Prop)(b:Bool)(d:Shared):Prop:=∃c,Inv X a e c d/\Q b c
def AP(X:Cx)(a:List (Addr×Obj))(e:St)(Q:List V->Hp->Prop)(f:List Value)(d:Shared):Prop:=∃b c,Inv X a e c d/\bf b f/\Q b c
def SP(X:Cx)(b:List (Addr×Obj))(D:Ends)(f:Flow)(d:Shared):Prop:=
 match f with
 |.next=>∃a c,Inv X b a c d/\D.nx a c
 |.brk=>∃a c,Inv X b a c d/\D.bk a c
 |.cont=>∃a c,Inv X b a c d/\D.ct a c
 |.ret u=>∃v a c,Inv X b a c d/\RelV v u/\D.rt v c
def PE(X:Cx)(e:Expr)(t:TE):Prop:=
 ∀(a:List (Addr×Obj)) (s:Shared) (b:St) (H:Hp) (Q:VK),Inv X a b H s->t b H Q->wpAny (model X.prog X.w) X.A (eval e X.env) (EP X a b Q) X.xe s
def PT(X:Cx)(e:Expr)(t:TT):Prop:=
 ∀(a:List (Addr×Obj)) (s:Shared) (b:St) (H:Hp) (Q:Bool->Hp->Prop),Inv X a b H s->t b H Q->wpAny (model X.prog X.w) X.A (isTrue e X.env (eval e X.env)) (TP X a b Q) X.xe s
def PW(X:Cx)(e:Expr)(t:TT):Prop:=
 ∀(b:Sem Value) (a:List (Addr×Obj)) (s:Shared) (c:St) (H:Hp) (Q:Bool->Hp->Prop),Inv X a c H s->t c H Q->wpAny (model X.prog X.w) X.A (isTrue e X.env b) (TP X a c Q) X.xe s
def PW.pt{X:Cx}{e:Expr}{t:TT}(h:PW X e t):PT X e t:=h _
def PA(X:Cx)(d:List Expr)(t:TA):Prop:=
 ∀(c:Pos) (a:List (Addr×Obj)) (s:Shared) (b:St) (H:Hp) (Q:List V->Hp->Prop),Inv X a b H s->t b H Q->wpAny (model X.prog X.w) X.A (spliced (backTo c (starEach d X.env))) (AP X a b Q) X.xe s
def PS(X:Cx)(st:Stmt)(t:TS):Prop:=
 ∀(a:List (Addr×Obj)) (s:Shared) (b:St) (H:Hp) (D:Ends),Inv X a b H s->t D b H->wpAny (model X.prog X.w) X.A (exec st X.env) (SP X a D) X.xe s
def oS(X:Cx)(st:List Stmt)(t:TS):Prop:=
 ∀(a:List (Addr×Obj)) (s:Shared) (b:St) (H:Hp) (D:Ends),Inv X a b H s->t D b H->wpAny (model X.prog X.w) X.A (execs st X.env) (SP X a D) X.xe s
def bP{α:Type}{t:Sem α}{Q b:α->Shared->Prop}{M:Model}{A:Around}{E:Value->Shared->Prop}{s:Shared}(h:wpAny M A t Q E s)(c:∀a s,Q a s->b a s):wpAny M A t b E s:=QRq h c λ_ _ x=>x
section
variable{X:Cx}
def Ed(i:Nat):TE:=λa H Q=>∃v,a[i]?=some (some v)/\Q v H
def tC(v:V):TE:=λ_ H Q=>Q v H
def zx{i:Nat}{x:Str}{pos:Pos}(k:X.N[i]?=some x)(p:C2 X.env.scope x)(hd:(x==("__debug__":Str))=false:=by decide)(g:(x==("__classdict__":Str))=false:=by decide):PE X (.Name x pos) (Ed i):=by
 intro f s t H Q I h
 obtain⟨v,e,h⟩:=h
 obtain⟨m,n,q⟩:=I.loc
 obtain⟨u,r,l⟩:=q i x v k e p
 have b:EP X f t Q u s:=⟨v,H,I,r,h⟩
 rcases l with⟨d,o⟩|⟨d,c,j,a⟩
 ·exact wpAny_Name (wpAny_loadName_local I.ok.kind d n o b) hd
 ·rcases d with d|d
  ·exact wpAny_Name (wpAny_loadName_cell I.ok.kind d j a b) hd
  ·exact wpAny_Name (wpAny_loadName_free I.ok.kind d j a b g) hd
def DE{i j pos}:PE X (.Constant (.int i) j pos) (tC (.int i)):=λ_ _ _ H _ I h=>wpAny_Constant_int ⟨.int i,H,I.tok _,⟨_,rfl⟩,h⟩
def Gd{b j pos}:PE X (.Constant (.bool b) j pos) (tC (.bl b)):=λ_ _ _ H _ I h=>Constant_bool ⟨.bl b,H,I,rfl,h⟩
def DH{j pos}:PE X (.Constant .none j pos) (tC .non):=λ_ _ _ H _ I h=>Constant_none ⟨.non,H,I,rfl,h⟩
def Ee{x j pos}:PE X (.Constant (.str x) j pos) (tC (.str x)):=λ_ _ _ H _ I h=>Calls.Constant_str ⟨.str x,H,I.tok _,⟨_,rfl⟩,h⟩
def Gl(X:Cx)(x:Str):Prop:=X.env.kindOf x=some .globalImplicit
def rD{E:Value->Shared->Prop}{a:List (Addr×Obj)}{s:Shared}{d:St}{H:Hp}{x:Str}{u:Value}{pos:Pos}{Q:Value->Shared->Prop}(I:Inv X a d H s)(c:Gl X x)(b:X.mg x=some u)(h:Q u s)
  (hd:(x==("__debug__":Str))=false:=by decide):wpAny (model X.prog X.w) X.A (eval (.Name x pos) X.env) Q E s:=
 Calls.Name_function_global I.ok.kind c (Calls.loadGlobal_global (by rw[I.ok.glob];exact I.mod.glob.keeps I.bk) b h) hd
def iD{E:Value->Shared->Prop}{a:List (Addr×Obj)}{s:Shared}{i:St}{H:Hp}{x:Str}{u:Value}{pos:Pos}{Q:Value->Shared->Prop}(I:Inv X a i H s)(g:Gl X x)(c:X.mg x=none)(d:bootBuiltins x=some u)(h:Q u s)
  (b:x≠"__name__":=by decide) (hd:(x==("__debug__":Str))=false:=by decide):wpAny (model X.prog X.w) X.A (eval (.Name x pos) X.env) Q E s:=by
 obtain⟨j,f,e⟩:=I.mod.blt
 exact Calls.Name_function_global I.ok.kind g (Calls.loadGlobal_builtin (by rw[I.ok.glob];exact I.mod.glob.keeps I.bk) c (by rw[I.ok.blt];exact f.keeps I.bk) ((e x b).trans d) h) hd
def rX{x:Str}{v:V}{u:Value}{pos:Pos}(b:Gl X x)(a:X.mg x=some u)(r:RelV v u)(hd:(x==("__debug__":Str))=false:=by decide):PE X (.Name x pos) (tC v):=
 λ_ _ _ H _ I h=>rD I b a ⟨v,H,I,r,h⟩ hd
def B1{x:Str}{v:V}{u:Value}{pos:Pos}(c:Gl X x)(a:X.mg x=none)(b:bootBuiltins x=some u)(r:RelV v u)(d:x≠"__name__":=by decide)(hd:(x==("__debug__":Str))=false:=by decide):PE X (.Name x pos) (tC v):=
 λ_ _ _ H _ I h=>iD I c a b ⟨v,H,I,r,h⟩ d hd
variable{a b:Expr}{ta tb:TE}{pos:Pos}
variable{tA tB':TT}{rest:List Expr}
def Hx(t u:TT):TT:=λd H Q=>t d H λc H1=>if c=true then u d H1 Q else Q false H1
def JQ(t u:TT):TT:=λd H Q=>t d H λc H1=>if c=true then Q true H1 else u d H1 Q
def HM(t:TT):TT:=λd H Q=>t d H λc H1=>Q (!c) H1
def Ci(f:PT X a tA):PW X (.BoolOp .And [a] pos) tA:=by
 intro i d s g H Q I h
 refine isTrue_and (bP (f d s g H Q I h) λc j e=> ?_)
 cases c with
 |true=>exact isTrue_and_nil e
 |false=>exact e
def Ec(f:PT X a tA):PW X (.BoolOp .Or [a] pos) tA:=by
 intro i d s g H Q I h
 refine isTrue_or (bP (f d s g H Q I h) λc j e=> ?_)
 cases c with
 |false=>exact isTrue_or_nil e
 |true=>exact e
def Dd(j:PT X a tA)(i:PW X (.BoolOp .And (b::rest) pos) tB'):PW X (.BoolOp .And (a::b::rest) pos) (Hx tA tB'):=by
 intro l d s g H Q I h
 refine isTrue_and (bP (j d s g H _ I h) λc m k=> ?_)
 obtain⟨H1,f,e⟩:=k
 cases c with
 |true=>exact i l d m g H1 Q f e
 |false=>exact⟨H1,f,e⟩
def Gs(j:PT X a tA)(i:PW X (.BoolOp .Or (b::rest) pos) tB'):PW X (.BoolOp .Or (a::b::rest) pos) (JQ tA tB'):=by
 intro l d s g H Q I h
 refine isTrue_or (bP (j d s g H _ I h) λc m k=> ?_)
 obtain⟨H1,f,e⟩:=k
 cases c with
 |true=>exact⟨H1,f,e⟩
 |false=>exact i l d m g H1 Q f e
def D2(e:PT X a tA):PT X (.UnaryOp .Not a pos) (HM tA):=by
 intro d s f H Q I h
 exact isTrue_not (e d s f H (λc H1=>Q (!c) H1) I h)
def Ff(ta tb:TE):TE:=λd H Q=>ta d H λx H1=>∃c,x=.bl c/\if c=true then tb d H1 Q else Q (.bl false) H1
def E_(ta:TE):TE:=λd H Q=>ta d H λx H1=>∃c,x=.bl c/\Q (.bl (!c)) H1
def EG{op}{t:TE}(h:PE X a t):PE X (.BoolOp op [a] pos) t:=λc s e H Q I d=>BoolOp_one (h c s e H Q I d)
def DS(j:PE X a ta)(i:PE X (.BoolOp .And (b::rest) pos) tb):PE X (.BoolOp .And (a::b::rest) pos) (Ff ta tb):=by
 intro d s g H Q I h
 refine BoolOp_and (bP (j d s g H _ I h) λv l m=> ?_)
 obtain⟨x,H1,f,k,e⟩:=m
 obtain⟨c,rfl,e⟩:=e
 cases k
 refine wpAny_truthy_bool ?_
 cases c with
 |true=>exact i d l g H1 Q f e
 |false=>exact⟨.bl false,H1,f,rfl,e⟩
def Du(f:PE X a ta):PE X (.UnaryOp .Not a pos) (E_ ta):=by
 intro d s j H Q I h
 refine UnaryOp_ (bP (f d s j H _ I h) λv l k=> ?_)
 obtain⟨x,H1,i,g,e⟩:=k
 obtain⟨c,rfl,e⟩:=e
 cases g
 exact not_of (wpAny_truthy_bool ⟨.bl (!c),H1,i,rfl,e⟩)
def J0(t:TT)(ta tb:TE):TE:=λd H Q=>t d H λc H1=>if c=true then ta d H1 Q else tb d H1 Q
def zZ{c:Expr}(k:PT X c tA)(m:PE X a ta)(l:PE X b tb):PE X (.IfExp c a b pos) (J0 tA ta tb):=by
 intro e s f H Q I h
 refine wpAny_IfExp (bP (k e s f H _ I h) λd j n=> ?_)
 obtain⟨H1,i,g⟩:=n
 cases d with
 |true=>exact m e j f H1 Q i g
 |false=>exact l e j f H1 Q i g
end
def gc(K:PySem.W.Frag)(H:Hp)(a:Addr)(xs:List V):Prop:=
 Rd H a (.lst xs)∨
  ∃(o:Obj) (b:Array Value) (n:Nat),K.lookup a=some o/\o.cls=.type "list" /\o.dict=none/\o.data=.seq b n/\b.size<=sizeLine/\bf xs b.toList
def fe(K:PySem.W.Frag)(H:Hp)(a:Addr)(xs:List V):Prop:=
 Rd H a (.tup xs)∨
  ∃(o:Obj) (b:Array Value) (n:Nat),K.lookup a=some o/\o.cls=.type "tuple" /\o.data=.seq b n/\b.size<=sizeLine/\bf xs b.toList
def HZ:Value->Option V
 |.none=>some .non
 |.bool b=>some (.bl b)
 |.int i _=>some (.int i)
 |.str x _=>some (.str x)
 |.bytes b _=>some (.byt b)
 |.float b _=>some (.flt b)
 |.ref a=>some (.ref a)
 |.type n=>some (.ty n)
 |_=>none
def RelV.abs{x:V}{u:Value}(r:RelV x u):HZ u=some x:=by
 cases x with
 |non=>cases r;rfl
 |bl _=>cases r;rfl
 |int _=>obtain⟨t,rfl⟩:=r;rfl
 |str _=>obtain⟨t,rfl⟩:=r;rfl
 |byt _=>obtain⟨t,rfl⟩:=r;rfl
 |flt _=>obtain⟨t,rfl⟩:=r;rfl
 |ref _=>cases r;rfl
 |ty _=>cases r;rfl
def RelV.inj{x y:V}{u:Value}(r:RelV x u)(q:RelV y u):x=y:=QdQ (r.abs.symm.trans q.abs)
theorem bf.inj:∀{xs ys:List V} {a:List Value},bf xs a->bf ys a->xs=ys
 |_,_,_,.nil,.nil=>rfl
 |_,_,_,.cons r t,.cons r' t'=>by rw[r.inj r',bf.inj t t']
section
variable{X:Cx}{pins:List (Addr×Obj)}{σ:St}{H:Hp}{s:Shared}{a:Addr}{xs ys:List V}
def gc.of{K:PySem.W.Frag}(h:H a=some (.lst xs)):gc K H a xs:=.inl (.inl h)
def fe.of{K:PySem.W.Frag}(h:H a=some (.tup xs)):fe K H a xs:=.inl (.inl h)
def Inv.list(I:Inv X pins σ H s)(h:gc X.K H a xs):∃b:List Value,bf xs b/\PlainL s.heap a b.toArray/\xs.length<=sizeLine:=by
 rcases h with h|⟨o,b,n,d,c,f,g,i,r⟩
 ·obtain⟨z,b,n,r,e⟩:=h.ok I.hok
  exact⟨b,r,⟨_,n,e,rfl,rfl,rfl⟩,z⟩
 ·refine⟨b.toList,r,⟨o,n,I.kIn a o d,c,f,by simpa using g⟩,?_⟩
  have e:=r.length
  simp only[Array.length_toList] at e
  omega
def Inv.tuple(I:Inv X pins σ H s)(h:fe X.K H a xs):∃b:List Value,bf xs b/\IsTup s.heap a b.toArray/\xs.length<=sizeLine:=by
 rcases h with h|⟨o,b,n,d,c,f,g,r⟩
 ·obtain⟨z,b,r,p⟩:=h.ok I.hok
  exact⟨b,r,p.it,z⟩
 ·refine⟨b.toList,r,⟨o,I.kIn a o d,c,n,by simpa using f⟩,?_⟩
  have e:=r.length
  simp only[Array.length_toList] at e
  omega
def Inv.list_inj(I:Inv X pins σ H s)(h:gc X.K H a xs)(h':gc X.K H a ys):xs=ys:=by
 obtain⟨c,r,⟨o,n,e,_,_,d⟩,_⟩:=I.list h
 obtain⟨b,i,⟨l,k,f,_,_,g⟩,_⟩:=I.list h'
 rw[e] at f;cases f
 rw[d] at g
 injection g with j _
 have:c=b:=by simpa using congrArg Array.toList j
 subst this
 exact r.inj i
def Inv.tuple_inj(I:Inv X pins σ H s)(h:fe X.K H a xs)(h':fe X.K H a ys):xs=ys:=by
 obtain⟨c,r,⟨o,e,_,n,d⟩,_⟩:=I.tuple h
 obtain⟨b,i,⟨l,f,_,k,g⟩,_⟩:=I.tuple h'
 rw[e] at f;cases f
 rw[d] at g
 injection g with j _
 have:c=b:=by simpa using congrArg Array.toList j
 subst this
 exact r.inj i
end
abbrev Cx.wish(X:Cx)(E:Value->Shared->Prop):Cx:={X with xe:=E}
abbrev Cx.nox(X:Cx):Cx:=X.wish λ_ _=>False
def Cx.Ok.wish{X:Cx}(ok:X.Ok)(E:Value->Shared->Prop):(X.wish E).Ok:=
 ⟨ok.mod,ok.kind,ok.glob,ok.blt,ok.above,ok.inj,ok.has,ok.cab,ok.hd,ok.frames,ok.stk,ok.exf,ok.bs,ok.bsz,ok.noex,ok.exfs,ok.funs,ok.frf⟩
def Cx.Ok.unwish{X:Cx}{E:Value->Shared->Prop}(ok:(X.wish E).Ok):X.Ok:=
 ⟨ok.mod,ok.kind,ok.glob,ok.blt,ok.above,ok.inj,ok.has,ok.cab,ok.hd,ok.frames,ok.stk,ok.exf,ok.bs,ok.bsz,ok.noex,ok.exfs,ok.funs,ok.frf⟩
section
variable{X:Cx}{pins:List (Addr×Obj)}{σ:St}{H:Hp}{s:Shared}{E:Value->Shared->Prop}
def Inv.wish(I:Inv X pins σ H s)(E:Value->Shared->Prop):Inv (X.wish E) pins σ H s:=⟨I.ok.wish E,I.os,I.bare,I.base,I.loc,I.cell,I.free,I.freeC,I.pin,I.hok,I.len⟩
def Inv.unwish(I:Inv (X.wish E) pins σ H s):Inv X pins σ H s:=⟨I.ok.unwish,I.os,I.bare,I.base,I.loc,I.cell,I.free,I.freeC,I.pin,I.hok,I.len⟩
theorem SP.unwish{D:Ends}{f:Flow}{c:Shared}(h:SP (X.wish E) pins D f c):SP X pins D f c:=by
 cases f with
 |next=>obtain⟨a,b,I,q⟩:=h;exact⟨a,b,I.unwish,q⟩
 |brk=>obtain⟨a,b,I,q⟩:=h;exact⟨a,b,I.unwish,q⟩
 |cont=>obtain⟨a,b,I,q⟩:=h;exact⟨a,b,I.unwish,q⟩
 |ret u=>obtain⟨v,a,b,I,r,q⟩:=h;exact⟨v,a,b,I.unwish,r,q⟩
def oS.nox{st:List Stmt}{t:TS}(h:oS X.nox st t):oS X st t:=λpins s σ H D I a=>
 QRq (h pins s σ H D (I.wish _) a) (λ_ _ q=>q.unwish) λ_ _ z=>False.elim z
end
section
variable{X:Cx}{st:Stmt}{rest:List Stmt}{t u:TS}{e:Expr}{te:TE}{pos:Pos}
def F3:TS:=λD a H=>D.nx a H
def Ho(t u:TS):TS:=λD a H=>t {D with nx:=u D} a H
def BD:oS X [] F3:=λ_ _ a H _ I h=>wpAny_execs_nil ⟨a,H,I,h⟩
def Bd(c:PS X st t)(d:oS X rest u):oS X (st::rest) (Ho t u):=by
 intro a s g H D I h
 refine wpAny_execs_cons (bP (c a s g H {D with nx:=u D} I h) λf k q=> ?_)
 cases f with
 | next=>
   obtain⟨b,j,i,q⟩:=q
   exact d a k b j D i q
 |ret v=>exact q
 |brk=>exact q
 |cont=>exact q
def Br(b:PS X st t):oS X [st] t:=by
 intro a s c H D I h
 refine wpAny_execs_cons (bP (b a s c H D I h) λf d q=> ?_)
 cases f with
 |next=>exact wpAny_execs_nil q
 |ret v=>exact q
 |brk=>exact q
 |cont=>exact q
def Inv.quiet{a:List (Addr×Obj)}{b:St}{H:Hp}{s:Shared}(I:Inv X a b H s):interactive X.env=false:=by simp[interactive,I.ok.kind]
def Fo(te:TE):TS:=λD a H=>te a H λ_ H1=>D.nx a H1
def BB(he:PE X e te)(c:swapsWith e none pos.line X.env=pure false:=by rfl):PS X (.Expr e pos) (Fo te):=by
 intro a s b H D I h
 exact wpAny_Expr_any (bP (he a s b H _ I h) λv i ⟨x,H1,f,g,d⟩=>⟨b,H1,f,d⟩) I.quiet c
def HD(te:TE):TS:=λD a H=>te a H D.rt
def zu(he:PE X e te):PS X (.Return (some e) pos) (HD te):=by
 intro a s b H D I h
 exact wpAny_Return_some (bP (he a s b H _ I h) λv g ⟨x,H1,f,d,c⟩=>⟨x,b,H1,f,d,c⟩)
def Hw(c:TT)(t u:TS):TS:=λD a H=>c a H λb H1=>if b=true then t D a H1 else u D a H1
def Ge{c:Expr}{a b:List Stmt}{k:TT}(o:PT X c k)(n:oS X a t)(m:oS X b u):PS X (.If c a b pos) (Hw k t u):=by
 intro f s g H D I h
 refine wpAny_If (bP (o f s g H _ I h) λd i p=> ?_)
 obtain⟨H1,l,j⟩:=p
 cases d with
 |true=>exact n f i g H1 D l j
 |false=>exact m f i g H1 D l j
def Ez:TS:=λ_ _ _=>False
def zM:PS X st Ez:=λ_ _ _ _ _ _ h=>h.elim
end
abbrev TG:=V->St->Hp->(St->Hp->Prop)->Prop
abbrev BM:=List V->St->Hp->(St->Hp->Prop)->Prop
def PG(X:Cx)(a:Expr)(t:TG):Prop:=
 ∀ (b:List (Addr×Obj)) (s:Shared) (d:St) (H:Hp) (v:V) (u:Value) (Q:St->Hp->Prop),Inv X b d H s->RelV v u->t v d H Q→
   wpAny (model X.prog X.w) X.A (assign a X.env u) (λ_ f=>∃c e,Inv X b c e f/\Q c e) X.xe s
def Bm(X:Cx)(ts:List Expr)(t:BM):Prop:=
 ∀ (a:List (Addr×Obj)) (s:Shared) (d:St) (H:Hp) (c:List V) (e:List Value) (Q:St->Hp->Prop),Inv X a d H s->bf c e->t c d H Q→
   wpAny (model X.prog X.w) X.A (assignInOrder ((assignEach ts X.env).map (·.2)) e) (λ_ g=>∃b f,Inv X a b f g/\Q b f) X.xe s
abbrev zQ:=V->V->V->Hp->(Hp->Prop)->Prop
def Ej(X:Cx)(t:zQ):Prop:=
 ∀ (a:List (Addr×Obj)) (s:Shared) (d:St) (H:Hp) (o i v:V) (b c u:Value) (Q:Hp->Prop),Inv X a d H s->RelV o b->RelV i c->RelV v u->t o i v H Q→
   wpAny (model X.prog X.w) X.A (setItem b c u) (λ_ f=>∃e,Inv X a d e f/\Q e) X.xe s
abbrev GH:=V->V->Hp->VK->Prop
def Jb(X:Cx)(c:Operator)(t:GH):Prop:=
 ∀ (a:List (Addr×Obj)) (s:Shared) (b:St) (H:Hp) (x y:V) (v u:Value) (Q:VK),Inv X a b H s->RelV x v->RelV y u->t x y H Q→
   wpAny (model X.prog X.w) X.A (inplaceOp c v u) (EP X a b Q) X.xe s
section
variable{X:Cx}{pos:Pos}
def kS(i:Nat):TG:=λv a H Q=>Q (a.set i (some v)) H
def rj{i:Nat}{x:Str}(c:X.N.Nodup)(hi:X.N[i]?=some x)(d:Loc X.env.scope x)(e:X.fn x=true\/X.env.scope.names.lookup x=some .local:=by first|exact .inl rfl|exact .inr rfl|assumption):PG X (.Name x pos) (kS i):=by
 intro a s g H v u Q I r h
 exact wpAny_assign_Name (kY I c hi d r (λf b=>⟨_,H,b,h⟩) e)
def Io:BM:=λb a H Q=>b= []/\Q a H
def Fx(t:TG)(u:BM):BM:=λb c H Q=>∃v r,b=v::r/\t v c H λa d=>u r a d Q
def BU:Bm X [] Io:=by
 intro a s b H c d Q I r h
 obtain⟨e,h⟩:=h
 subst e
 cases r
 exact assignInOrder_nil ⟨b,H,I,h⟩
def AO{e:Expr}{b:List Expr}{t:TG}{u:BM}(j:PG X e t)(i:Bm X b u)
  (f:(assignEach (e::b) X.env).map (·.2)=assign e X.env::(assignEach b X.env).map (·.2):=by rfl):Bm X (e::b) (Fx t u):=by
 intro a s n H p w Q I r h
 obtain⟨v,q,d,h⟩:=h
 subst d
 cases r with
 | cons r o=>
   rw[f]
   refine assignInOrder_cons (bP (j a s n H _ _ _ I r h) λ_ g k=> ?_)
   obtain⟨c,H1,m,l⟩:=k
   exact i a g c H1 _ _ Q m o l
def HV(K:PySem.W.Frag)(n:Nat)(t:BM):TG:=λv c H Q=>∃a b,v=.ref a/\fe K H a b/\b.length=n/\t b c H Q
def DY{d:List Expr}{k:Nat}{t:BM}{n:Nat}(x:X.calm=true)(h:Bm X d t)
  (m:(assignEach d X.env).length=n:=by rfl) (g:(assignEach d X.env).findIdx? (·.1)=none:=by rfl):PG X (.Tuple d k pos) (HV X.K n t):=by
 intro c s j H v u Q I r f
 obtain⟨a,w,p,A,y,f⟩:=f
 subst p
 cases r
 obtain⟨C,i,z,F⟩:=I.tuple A
 refine assign_Tuple_tuple (I.ok.hd x) z (by simp[m,←y,i.length]) g λl q=> ?_
 have B:Inv X c j H {s with heap:=l}:=I.kept (t':=s.toks) λb o e=>q b o (Qwq (Qiq e)) e
 exact h c _ j H w _ Q B (by simpa using i) f
def F6(c b:TE)(t:zQ):TG:=λv a H Q=>c a H λo H1=>b a H1 λi H2=>t o i v H2 λH3=>Q a H3
def Et{o i:Expr}{g f:TE}{t:zQ}(j:PE X o g)(hi:PE X i f)(k:Ej X t)
  (m:∀v,assign (.Subscript o i pos) X.env v=(do
   let b←holding [v] (eval o X.env)
   let d←holding [v,b] (eval i X.env)
   standAt pos
   holding [v,b,d] (setItem b d v)
   release [v,b,d] []):=by intro _;rfl):PG X (.Subscript o i pos) (F6 g f t):=by
 intro a s e H v u Q I r h
 rw[m]
 refine Qaq (QLq (bP (j a s e H _ I h) λb z c=> ?_))
 obtain⟨x,H1,F,n,B⟩:=c
 refine Qaq (QLq (bP (hi a z e H1 _ F B) λd p c=> ?_))
 obtain⟨y,H2,q,l,C⟩:=c
 refine Qaq (wpAny_standAt (Qaq (QLq (bP (k a p e H2 x y v b d u _ q n l r C) λ_ G c=> ?_))))
 obtain⟨H3,w,A⟩:=c
 exact wpAny_release ⟨e,H3,w,A⟩
def ze(b:TE)(g:TG):TS:=λD a H=>b a H λx H1=>g x a H1 D.nx
def C8{b e:Expr}{c:TE}{g:TG}(he:PE X e c)(m:PG X b g)(i:swapsWithSole [b] e pos.line X.env=pure false:=by rfl)(f:swappedStores [b] e X.env=pure none:=by rfl)
  (l:(assignEach [b] X.env).map (·.2)= [assign b X.env]:=by rfl):PS X (.Assign [b] e pos) (ze c g):=by
 intro a s d H D I h
 refine wpAny_Assign_stores (bP (he a s d H _ I h) λv k ⟨x,H1,o,j,n⟩=> ?_) i f
 rw[l]
 exact bP (m a k d H1 x v _ o j n) λ_ p q=>q
def EL{i:Nat}{x:Str}{e:Expr}{c:TE}{a:Pos}(d:X.N.Nodup)(hi:X.N[i]?=some x)(f:Loc X.env.scope x)(he:PE X e c)(j:swapsWith e (some (.Name x a)) pos.line X.env=pure false:=by rfl)(g:X.fn x=true\/X.env.scope.names.lookup x=some .local:=by first|exact .inl rfl|exact .inr rfl|assumption):
  PS X (.Assign [.Name x a] e pos) (ze c (kS i)):=by
 intro b s o H D I h
 refine wpAny_Assign_Name (bP (he b s o H _ I h) λv q ⟨y,H1,n,k,m⟩=> ?_) j
 exact kY n d hi f k (λp l=>⟨_,H1,l,m⟩) g
def FS(i j:Nat)(c:TA):TS:=λD a H=>c a H λb H1=>∃v w,b= [v,w]/\D.nx ((a.set i (some v)).set j (some w)) H1
def EJ{i j:Nat}{x y:Str}{a b:Expr}{B:TA}{k t n:Pos}{kt k2 pt2}(W:X.calm=true)(u:X.N.Nodup)(hi:X.N[i]?=some x)(hj:X.N[j]?=some y)(l:i≠j)
  (z:X.env.scope.names.lookup x=some .local) (F:X.env.scope.names.lookup y=some .local) (Q:PA X [a,b] B)
  (J:swappedStores [.Tuple [.Name x k,.Name y t] kt n] (.Tuple [a,b] k2 pt2) X.env=pure (some [x,y]))
  (P:swapsWithSole [.Tuple [.Name x k,.Name y t] kt n] (.Tuple [a,b] k2 pt2) pos.line X.env=pure false:=by rfl):
  PS X (.Assign [.Tuple [.Name x k,.Name y t] kt n] (.Tuple [a,b] k2 pt2) pos) (FS i j B):=by
 intro c s G H D I h
 rw[exec_Assign_arm]
 refine Qaq (wpAny_standAt ?_)
 rw[P]
 refine Qaq (Qgq ?_)
 rw[Quq (by decide)]
 refine Qaq (Tuple_ (bP (Q _ c s G H _ I h) λY f Z=> ?_))
 obtain⟨vs,H1,I1,R,r⟩:=Z
 obtain⟨v,w,K,r⟩:=r
 subst K
 obtain⟨g,d,rfl,rv,rw'⟩:∃g d,Y= [g,d]/\RelV v g/\RelV w d:=by
  cases R with
  | cons p q=>
    cases q with
    | cons L M=>
      cases M
      exact⟨_,_,rfl,p,L⟩
 refine QhQ ?_ (by show 2<=_;decide)
 have S:Inv X c G H1 {f with heap:=f.heap.push {cls:=.type "tuple",data:=.seq [g,d].toArray}}:=I1.kept (t':=f.toks) λb o e=>Qcq _ e
 rw[J]
 refine Qaq (Qgq ?_)
 show wpAny (model X.prog X.w) X.A (do rule "assign.swapped-stores";let items←unpackItems (.ref f.heap.objs.size) 2 none;assignInOrder [λv=>bindName X.env y v,λv=>bindName X.env x v] items.reverse;pure Flow.next) _ _ _
 refine Qaq (wpAny_rule (Qaq (unpackItems_tuple (items:= #[g,d]) (I.ok.hd W) (IsTup.new f.heap _) λh' m=> ?_)))
 have U:=S.kept (h':=h') (t':=f.toks) λb o e=>m b o (Qwq (Qiq e)) e
 show wpAny _ _ (assignInOrder [λv=>bindName X.env y v,λv=>bindName X.env x v] [d,g] >>= λ_=>pure Flow.next) _ _ _
 refine Qaq (assignInOrder_cons (wpAny_bindName (kY U u hj (.inl F) rw' (λs2 I4=> ?_) (.inr F))))
 refine assignInOrder_cons (wpAny_bindName (kY I4 u hi (.inl z) rv (λs3 C=>assignInOrder_nil (Qgq ?_)) (.inr z)))
 rw[List.set_comm _ _ (Ne.symm l)] at C
 exact⟨_,H1,C,r⟩
def F9(g e h:TE)(b:V->V->Hp->VK->Prop)(d:GH)(a:zQ):TS:=λD c H=>g c H λo H1=>e c H1 λi H2=>b o i H2 λx H3=>h c H3 λy H4=>d x y H4 λz H5=>a o i z H5 λf=>D.nx c f
def Fl(X:Cx)(t:V->V->Hp->VK->Prop):Prop:=
 ∀ (a:List (Addr×Obj)) (s:Shared) (d:St) (H:Hp) (o i:V) (b c:Value) (Q:VK),Inv X a d H s->RelV o b->RelV i c->t o i H Q→
   wpAny (model X.prog X.w) X.A (getItem b c) (EP X a d Q) X.xe s
def Ce{o i e:Expr}{u t x:TE}{c:V->V->Hp->VK->Prop}{l:GH}{b:zQ}{n:Operator}{k:Pos}(A:PE X o u)(hi:PE X i t)(Y:Fl X c)(he:PE X e x)(G:Jb X n l)(C:Ej X b)
  (K:∀g f new,augStore i g f new=(do holding [new,g,f] (setItem g f new);release [new,g,f] [];pure .next):=by intros;rfl):PS X (.AugAssign (.Subscript o i k) n e pos) (F9 u t x c l b):=by
 intro a s j H D I h
 refine wpAny_AugAssign_SubscriptAny (bP (A a s j H _ I h) λg R ⟨q,H1,I1,r,q1⟩=> ?_) K
 refine bP (hi a R j H1 _ I1 q1) λf L d=> ?_
 obtain⟨w,H2,M,p,q2⟩:=d
 refine bP (Y a L j H2 q w g f _ M r p q2) λm s3 d=> ?_
 obtain⟨J,H3,P,B,S⟩:=d
 refine bP (he a s3 j H3 _ P S) λv z d=> ?_
 obtain⟨N,H4,I4,r4,q4⟩:=d
 refine bP (G a z j H4 J N m v _ I4 B r4 q4) λnew s5 d=> ?_
 obtain⟨U,H5,Z,F,Q⟩:=d
 exact bP (C a s5 j H5 q w U g f new _ Z r p F Q) λ_ s6 ⟨W,I6,y⟩=>⟨j,W,I6,y⟩
def JM(f:Int->Int->Int):GH:=λx y H Q=>∃i j,x=.int i/\y=.int j/\Q (.int (f i j)) H
def DZ:Jb X .Add (JM λi j=>i+j):=by
 intro a s g H x y v u Q I d c h
 obtain⟨i,j,b,e,q⟩:=h
 subst b;subst e
 obtain⟨t,rfl⟩:=d
 obtain⟨f,rfl⟩:=c
 exact iadd_int ⟨.int _,H,I.tok _,⟨_,rfl⟩,q⟩
end
structure It where
 go:Nat->Hp->Prop
 yld:Nat->Hp->V->Hp->Prop
 stop:Nat->Hp->Prop
def mh(X:Cx)(a:List (Addr×Obj))(H:Hp)(b:Addr):Prop:=
 H b=none/\b≠X.env.locals/\b∉X.fs/\(b∈X.ex\/X.s₀.heap.objs.size<=b)/\(∀x c,X.env.cells.lookup x=some c->c≠b)/\∀p∈X.pn++a,p.1≠b
def Inv.fpOk{X:Cx}{a:List (Addr×Obj)}{i:St}{H f:Hp}{s:Shared}{b:Addr}(I:Inv X a i H s)(d:s.heap.objs.size<=b)(h:f b=none):mh X a f b:=by
 refine⟨h,Nat.ne_of_gt (Qqq I.lt d),I.nofs d,.inr (QAq I.sz d),λx c e z=> ?_,λp g z=> ?_⟩
 ·obtain⟨v,q⟩:=I.cell x c e
  exact absurd (Qqq q.lt (by rw[z];exact d)) (Nat.lt_irrefl _)
 ·exact absurd (Qqq (Qiq (I.pin p g).1) (by rw[z];exact d)) (Nat.lt_irrefl _)
structure Turn(P:Program)(w:World)(K:PySem.W.Frag)(tg:Expr)(J:It)(fp:List Addr)(it:Addr)(tn:Nat->Heap->Prop):Prop where
 mem:it∈fp
 obj:∀i h,tn i h->∀b∈fp,∃o,h.get? b=some o/\∀v,o.data≠.cell v
 keep:∀i h h',tn i h->(∀b∈fp,∀o,h.get? b=some o->h'.get? b=some o)->tn i h'
 item:∀(X:Cx),X.prog=P->X.w=w->X.K=K->X.calm=true->∀(i:Nat) (pins:List (Addr×Obj)) (s:Shared) (σ:St) (H:Hp) (E:Value->Shared->Prop),Inv X pins σ H s->(∀b∈fp,mh X pins H b)->tn i s.heap->J.go i H→
  wpAny (model P w) X.A (pyNext (.ref it)) (λr s1=>∃u,r=some u∧
   wpAny (model P w) X.A (letOwnedTupleGo tg (.ref it) u) (λ_ s2=>∃x H',Inv X pins σ H' s2/\RelV x u/\J.yld i H x H'/\tn (i+1) s2.heap/\∀b∈fp,H' b=none) E s1) E s
 done:∀(X:Cx),X.prog=P->X.w=w->X.K=K->X.calm=true->∀(i:Nat) (pins:List (Addr×Obj)) (s:Shared) (σ:St) (H:Hp) (E:Value->Shared->Prop),Inv X pins σ H s->(∀b∈fp,mh X pins H b)->tn i s.heap->J.stop i H→
  wpAny (model P w) X.A (pyNext (.ref it)) (λr s1=>r=none/\Inv X pins σ H s1) E s
 self:∀(A:Around) (i:Nat) (s:Shared) (Q:Value->Shared->Prop) (E:Value->Shared->Prop),tn i s.heap->Q (.ref it) s->wpAny (model P w) A (pyIter (.ref it)) Q E s
abbrev TI:=St->Hp->(It->Hp->Prop)->Prop
def IU(X:Cx)(a:List (Addr×Obj))(i:St)(j:Expr)(R:It->Hp->Prop)(c:Value)(g:Shared):Prop:=
 ∃(f:Addr) (h:List Addr) (e:Nat->Heap->Prop) (J:It) (d:Hp),c=.ref f/\Inv X a i d g/\Turn X.prog X.w X.K j J h f e/\e 0 g.heap/\(∀b∈h,mh X a d b)/\R J d
def PI(X:Cx)(e b:Expr)(d:TI):Prop:=
 ∀ (a:List (Addr×Obj)) (s:Shared) (c:St) (H:Hp) (R:It->Hp->Prop),Inv X a c H s->d c H R→
   wpAny (model X.prog X.w) X.A (eval b X.env) (λv f=>wpAny (model X.prog X.w) X.A (pyIter v) (IU X a c e R) X.xe f) X.xe s
def zw{M:Model}{A:Around}{E:Value->Shared->Prop}{s:Shared}{b:Expr}{it:Addr}{u:Value}{o:Obj}{n:String}{vs:Array Value}{Q:Unit->Shared->Prop}(e:s.heap.get? it=some o)(c:o.cls=.type n)(hd:o.data=.fields vs)
    (d: ["enumerate","zip","dict_itemiterator","dict_reverseitemiterator","odict_iterator","itertools.zip_longest","itertools.pairwise"].contains n=false) (a:Q () s):wpAny M A (letOwnedTupleGo b (.ref it) u) Q E s:=by
  unfold letOwnedTupleGo
  cases b <;>first
    |exact Qgq a
    |(cases u <;>first
        |exact Qgq a
        |(refine Qaq (wpAny_load e ?_)
          rw[c,hd]
          show wpAny M A (if (["enumerate","zip","dict_itemiterator","dict_reverseitemiterator","odict_iterator","itertools.zip_longest","itertools.pairwise"].contains n&&vs[0]? ==some (rawInt _))=true then _ else _) Q E s
          rw[Quq (by intro h;rw[d,Bool.false_and] at h;cases h)]
          exact Qgq a))
def Jn(K:PySem.W.Frag)(a:Addr):It:=
 ⟨λi H=>∃b x,gc K H a b/\b[i]?=some x,λi H x c=>c=H/\∀b,gc K H a b->b[i]?=some x,λi H=>∃b,gc K H a b/\b.length<=i⟩
def Jr(K:PySem.W.Frag)(a:Addr):It:=
 ⟨λi H=>∃b x,fe K H a b/\b[i]?=some x,λi H x c=>c=H/\∀b,fe K H a b->b[i]?=some x,λi H=>∃b,fe K H a b/\b.length<=i⟩
def GZ(lo:Int)(n:Nat):It:=⟨λi _=>i<n,λi H x a=>a=H/\x=.int (lo+i),λi _=>n<=i⟩
def yp{P:Program}{w:World}{K:PySem.W.Frag}{tg:Expr}(a it:Addr):Turn P w K tg (Jn K a) [it] it (λi h=>h.IsListIter it a i) where
 mem:=by simp
 obj:=λi h f b j=>by
  have e:b=it:=by simpa using j
  subst e
  obtain⟨o,e,c,d⟩:=f
  exact⟨o,e,λv z=>by rw[d] at z;cases z⟩
 keep:=λi h m f k=>f.at λo e=>k it (by simp) o e
 item:=by
  intro X A r L Q i g s R H E I n f G
  subst A r L
  obtain⟨Y,x,q,y⟩:=G
  obtain⟨N,J,p,hz⟩:=I.list q
  obtain⟨u,hu,S⟩:=J.get y
  obtain⟨C,M,Z,B,t,F⟩:=n it (by simp)
  refine wpAny_pyNext_list_item f p.isList (x:=u) (by simpa using hu) λm l U=> ?_
  have I1:Inv X g R H {s with heap:=m}:=I.turned (t':=s.toks) (λb o j e=>(U.2 b j).trans e) C M B t F
  obtain⟨o,e,c,d⟩:=id l
  exact⟨u,rfl,zw (s:={s with heap:=m}) e c d (by decide) ⟨x,H,I1,S,⟨rfl,λys hy=>by rw[I.list_inj hy q];exact y⟩,l,λb j=>(n b j).1⟩⟩
 done:=by
  intro X A r L Q i g s R H E I n f G
  subst A r L
  obtain⟨Y,q,y⟩:=G
  obtain⟨N,J,p,hz⟩:=I.list q
  obtain⟨C,M,Z,B,t,F⟩:=n it (by simp)
  have hl:=J.length
  exact wpAny_pyNext_list_end (I.ok.hd Q) f p.isList (by simp;omega) λm eb=>⟨rfl,I.turned (t':=s.toks) (λb o j e=>eb b o j e) C M B t F⟩
 self:=λ_ _ _ _ _ f h=>wpAny_pyIter_listiter f h
def wx{P:Program}{w:World}{K:PySem.W.Frag}{tg:Expr}(a it:Addr):Turn P w K tg (Jr K a) [it] it (λi h=>h.IsTupleIter it a i) where
 mem:=by simp
 obj:=λi h f b j=>by
  have e:b=it:=by simpa using j
  subst e
  obtain⟨o,e,c,d⟩:=f
  exact⟨o,e,λv z=>by rw[d] at z;cases z⟩
 keep:=λi h n f k=>f.at λo e=>k it (by simp) o e
 item:=by
  intro X B t M Q i g s R H E I q f J
  subst B t M
  obtain⟨Y,x,r,A⟩:=J
  obtain⟨l,L,p,hz⟩:=I.tuple r
  obtain⟨u,hu,S⟩:=L.get A
  obtain⟨F,N,Z,C,y,G⟩:=q it (by simp)
  refine wpAny_pyNext_tuple_item f (show s.heap.IsTuple a l.toArray from p) (x:=u) (by simpa using hu) λn m U=> ?_
  have I1:Inv X g R H {s with heap:=n}:=I.turned (t':=s.toks) (λb o j e=>(U.2 b j).trans e) F N C y G
  obtain⟨o,e,c,d⟩:=id m
  exact⟨u,rfl,zw (s:={s with heap:=n}) e c d (by decide) ⟨x,H,I1,S,⟨rfl,λys hy=>by rw[I.tuple_inj hy r];exact A⟩,m,λb j=>(q b j).1⟩⟩
 done:=by
  intro X B t M Q i g s R H E I q f J
  subst B t M
  obtain⟨Y,r,A⟩:=J
  obtain⟨l,L,p,hz⟩:=I.tuple r
  obtain⟨F,N,Z,C,y,G⟩:=q it (by simp)
  have hl:=L.length
  exact wpAny_pyNext_tuple_end (I.ok.hd Q) f (show s.heap.IsTuple a l.toArray from p) (by simp;omega) λn eb=>⟨rfl,I.turned (t':=s.toks) (λb o j e=>eb b o j e) F N C y G⟩
 self:=λ_ _ _ _ _ f h=>wpAny_pyIter_tupleiter f h
def vY{P:Program}{w:World}{K:PySem.W.Frag}{M:Expr}(it:Addr)(lo:Int)(n:Nat):Turn P w K M (GZ lo n) [it] it (λi h=>IsRangeIter h it (lo+(i:Nat)*1) ((n:Int)-(i:Nat)) 1) where
 mem:=by simp
 obj:=λi h a b d=>by
  have e:b=it:=by simpa using d
  subst e
  exact⟨_,a,λv z=>by
   have R:Data.fields _=Data.cell v:=z
   cases R⟩
 keep:=λi h g a k=>k it (by simp) _ a
 item:=by
  intro X p l A x i c s F H E I j a y
  subst p l A
  obtain⟨r,B,L,q,m,u⟩:=j it (by simp)
  have W:=Walks.range (prog:=X.prog) (w:=X.w) (I.ok.hd x) it lo 1 n
  refine W.item i s _ _ y a λv g C J f G=> ?_
  obtain⟨t,rfl⟩:=J
  have N:Inv X c F H {s with heap:=g,toks:=C}:=I.turned (λb o d e=>G b o (by simpa using d) e) r B q m u
  refine⟨_,rfl,zw (s:={s with heap:=g,toks:=C}) (n:="range_iterator") f rfl rfl (by decide) ⟨.int (lo+i),H,N,⟨t,?_⟩,⟨rfl,rfl⟩,f,λb d=>(j b d).1⟩⟩
  rw[Int.mul_one]
 done:=by
  intro X p l A x i c s F H E I j a y
  subst p l A
  obtain⟨r,B,L,q,m,u⟩:=j it (by simp)
  exact wpAny_pyNext_range_end (I.ok.hd x) a (by have:n<=i:=y;omega) λg Q=>⟨rfl,I.turned (t':=s.toks) (λb o d e=>Q b o d e) r B q m u⟩
 self:=λ_ _ _ _ _ a h=>wpAny_pyIter_rangeiter a h
section
variable{X:Cx}{tg:Expr}
def zP{a:List (Addr×Obj)}{f:St}{H:Hp}{s:Shared}{R:It->Hp->Prop}{E:Value->Shared->Prop}{lo hi:Int}{t u v:Tok}{c:Nat}(I:Inv X a f H s)(j: -(2^62)<=lo)(i:lo<2^62)(k: -(2^62)<=hi)(m:hi<2^62)
  (q:R (GZ lo (hi-lo).toNat) H):wpAny (model X.prog X.w) X.A (pyIter (.ref s.heap.objs.size)) (IU X a f tg R) E {s with heap:=s.heap.push {cls:=.type "range",data:=.fields #[.int lo t,.int hi u,.int 1 v]},toks:=c}:=by
 refine wpAny_pyIter_range (IsRange.new ..) (small_one j i k m) ?_
 have d:Inv X a f H {s with heap:=s.heap.push {cls:=.type "range",data:=.fields #[.int lo t,.int hi u,.int 1 v]},toks:=c}:=I.kept λb o e=>Qcq _ e
 refine⟨(s.heap.push {cls:=.type "range",data:=.fields #[.int lo t,.int hi u,.int 1 v]}).objs.size,[(s.heap.push {cls:=.type "range",data:=.fields #[.int lo t,.int hi u,.int 1 v]}).objs.size],_,_,H,rfl,
  d.kept (t':=c) λb o e=>Qcq _ e,vY _ lo (hi-lo).toNat,?_,λb h=> ?_,q⟩
 ·have g:lo+((0:Nat):Int)*1=lo:=by simp
  have l:(((hi-lo).toNat:Nat):Int)-((0:Nat):Int)=Builtin.Range.rangeSize lo hi 1:=by rw[rangeSize_one];split <;>omega
  show IsRangeIter _ _ (lo+((0:Nat):Int)*1) ((((hi-lo).toNat:Nat):Int)-((0:Nat):Int)) 1
  rw[g,l]
  exact Qrq _ rfl
 ·have e:b=(s.heap.push {cls:=.type "range",data:=.fields #[.int lo t,.int hi u,.int 1 v]}).objs.size:=by simpa using h
  subst e
  exact d.fpOk (Qmq _) (d.hok.fresh (Qmq _))
def Gv(b:TA):TI:=λc H R=>b c H λa H1=>∃j:Int,a= [.int j]/\ -(2^62)<=j/\j<2^62/\R (GZ 0 j.toNat) H1
def ye{a:Expr}{d:TA}{p pos:Pos}(l:Gl X "range")(g:X.mg "range"=none)(i:PA X [a] d)(f:starEach [a] X.env= [(false,eval a X.env)]:=by rfl):PI X tg (.Call (.Name "range" p) [a] [] pos) (Gv d):=by
 intro b s o H R I h
 refine Call_ (iD I l g boot_range (PyProof.Rows.callWith_type1 (bP (i pos b s o H _ I h) λx w ⟨v,H1,n,k,c⟩=> ?_) f rfl))
 obtain⟨j,e,c,m,q⟩:=c
 subst e
 cases k with
 | cons r u=>
   cases u
   obtain⟨t,rfl⟩:=r
   exact call_range_1 (zP n (by omega) (by omega) c m (by simpa using q))
def HX(f:TI)(g:TG)(h:TS):TS:=λD a H=>f a H λJ H1=>∃W:Nat->Nat->St->Hp->Prop,(∃m,W 0 m a H1)/\∀i m a H,W i m a H→
 (J.stop i H/\D.nx a H)\/(J.go i H/\∃N:St->Hp->Prop,(∀b c,N b c->∃e,e<m/\W (i+1) e b c)/\∀x c,J.yld i H x c->g x a c λd H2=>h {D with nx:=N,ct:=N,bk:=D.nx} d H2)
def jY(fp:List Addr)(h:Heap):List (Addr×Obj):=fp.filterMap λb=>(h.get? b).map λo=>(b,o)
def cu{fp:List Addr}{h:Heap}{b:Addr}{o:Obj}(a:b∈fp)(e:h.get? b=some o):(b,o)∈jY fp h:=List.mem_filterMap.mpr ⟨b,a,by rw[e];rfl⟩
def yH{fp:List Addr}{h:Heap}{p:Addr×Obj}(c:p∈jY fp h):p.1∈fp/\h.get? p.1=some p.2:=by
 obtain⟨b,a,e⟩:=List.mem_filterMap.mp c
 cases q:h.get? b with
 |none=>rw[q] at e;cases e
 | some o=>
   rw[q] at e
   have d:(b,o)=p:=QdQ e
   subst d
   exact⟨a,q⟩
def Inv.pinned{a:List (Addr×Obj)}{g:St}{H:Hp}{s:Shared}{fp:List Addr}(I:Inv X a g H s)(h:∀b∈fp,mh X a H b)(i:∀b∈fp,∃o,s.heap.get? b=some o/\∀v,o.data≠.cell v):Inv X (a++jY fp s.heap) g H s:=
 I.pins_of λp j=>(mQa.mp j).elim (λz=>I.pin p (Qoq _ z)) λz=>by
  obtain⟨c,e⟩:=yH z
  obtain⟨k,m,l,_⟩:=h p.1 c
  obtain⟨o,f,d⟩:=i p.1 c
  rw[e] at f;cases f
  exact⟨e,k,m,l,d⟩
def Inv.unpinned{a d:List (Addr×Obj)}{b:St}{H:Hp}{s:Shared}(I:Inv X (a++d) b H s):Inv X a b H s:=I.pins_of λp c=>I.pin p (Qoq _ (List.mem_append_left _ c))
def EK{q:Expr}{C:List Stmt}{wi:TI}{g:TG}{tb:TS}{pos:Pos}(K:PassesOwn (model X.prog X.w) X.A X.env X.xe)(hc:X.calm=true)(hi:PI X tg q wi)(hg:PG X tg g)(y:oS X C tb)
  (hs:∀x,foldedSetIterable q X.env x=pure x:=by intro _;rfl):PS X (.For tg q C [] pos) (HX wi g tb):=by
 intro c s σ H D I h
 refine wpAny_For (bP (hi c s σ H _ I h) λv s1 h1=>bP h1 λa3 s2 h2=> ?_) hs
 obtain⟨it,R,tn,J,H2,e,I2,T,a1,f2,W,⟨m0,w0⟩,M⟩:=h2
 subst e
 have k:∀{z:Hp},(∀b∈R,z b=none)->∀b∈R,mh X c z b:=λhn b y=>⟨hn b y,(f2 b y).2⟩
 refine codeAny_forLoop_any (λn s'=>∃i j z,Inv X c j z s'/\tn i s'.heap/\(∀b∈R,z b=none)/\W i n j z) ?_ m0 ⟨0,σ,H2,I2,a1,λb y=>(f2 b y).1,w0⟩
 rintro n s3 ⟨i,t,H3,I3,Q,S,w3⟩
 rcases M i n t H3 w3 with⟨stop,qn⟩|⟨go,N,hN,P⟩
 ·refine wpAny_passesOwn K (bP (T.done X rfl rfl rfl hc i c s3 t H3 X.xe I3 (k S) Q stop) λr s4 F=> ?_)
  obtain⟨Y,I4⟩:=F
  subst Y
  exact wpAny_execs_nil ⟨t,H3,I4,qn⟩
 ·refine wpAny_passesOwn K (bP (T.item X rfl rfl rfl hc i c s3 t H3 X.xe I3 (k S) Q go) λr s4 F=> ?_)
  obtain⟨u,Y,h4⟩:=F
  subst Y
  refine wpAny_passesOwn K (bP h4 λ_ s5 F=> ?_)
  obtain⟨x,H5,I5,r5,y5,G,a2⟩:=F
  have a0:=I5.pinned (k a2) (T.obj _ _ G)
  refine wpAny_passesOwn K (bP (hg _ s5 t H5 x u _ a0 r5 (P x H5 y5)) λ_ s6 F=> ?_)
  obtain⟨U,H6,I6,q6⟩:=F
  refine wpAny_passesOwn K (bP (y _ s6 U H6 _ I6 q6) λf Z B=> ?_)
  have again:∀{a:St} {p:Hp},Inv X (c++jY R s5.heap) a p Z->N a p->∃m,m<n/\∃i j z,Inv X c j z Z/\tn i Z.heap/\(∀b∈R,z b=none)/\W i m j z:=λ{a p} l L=>by
   obtain⟨m',hm,w7⟩:=hN a p L
   refine⟨m',hm,i+1,a,p,l.unpinned,T.keep _ _ _ G λb y o e=>(l.pin (b,o) (Qoq _ (Qoq _ (cu y e)))).1,λb y=> ?_,w7⟩
   obtain⟨o,e,d⟩:=T.obj _ _ G b y
   exact(l.pin (b,o) (Qoq _ (Qoq _ (cu y e)))).2.1
  cases f with
  |next=>obtain⟨a,p,l,L⟩:=B;exact again l L
  |cont=>obtain⟨a,p,l,L⟩:=B;exact again l L
  |brk=>obtain⟨a,p,l,B⟩:=B;exact⟨a,p,l.unpinned,B⟩
  |ret v=>obtain⟨x7,a,p,l,r7,B⟩:=B;exact⟨x7,a,p,l.unpinned,r7,B⟩
end
abbrev R2:=V->V->Hp->VK->Prop
def ip(X:Cx)(f:Value->Value->Sem Value)(r:R2):Prop:=
 ∀ (a:List (Addr×Obj)) (s:Shared) (b:St) (H:Hp) (x y:V) (v u:Value) (Q:VK),Inv X a b H s->RelV x v->RelV y u->r x y H Q→
   wpAny (model X.prog X.w) X.A (f v u) (EP X a b Q) X.xe s
def Hu(X:Cx)(f:Value->Sem Value)(r:V->Hp->VK->Prop):Prop:=
 ∀ (a:List (Addr×Obj)) (s:Shared) (b:St) (H:Hp) (x:V) (v:Value) (Q:VK),Inv X a b H s->RelV x v->r x H Q→
   wpAny (model X.prog X.w) X.A (f v) (EP X a b Q) X.xe s
def jz(X:Cx)(f:Value)(r:List V->Hp->VK->Prop):Prop:=
 ∀ (a:List (Addr×Obj)) (s:Shared) (b:St) (H:Hp) (d:List V) (c:List Value) (Q:VK),Inv X a b H s->bf d c->r d H Q→
   wpAny (model X.prog X.w) X.A (call f c) (EP X a b Q) X.xe s
def HR(X:Cx)(r:V->Hp->(Bool->Hp->Prop)->Prop):Prop:=
 ∀ (a:List (Addr×Obj)) (s:Shared) (b:St) (H:Hp) (x:V) (v:Value) (Q:Bool->Hp->Prop),Inv X a b H s->RelV x v->r x H Q→
   wpAny (model X.prog X.w) X.A (truthy v) (TP X a b Q) X.xe s
def BQ(r:R2)(b c:TE):TE:=λa H Q=>b a H λx H1=>c a H1 λy H2=>r x y H2 Q
def JO(r:V->Hp->VK->Prop)(a:TE):TE:=λb H Q=>a b H λx H1=>r x H1 Q
def rI(C:Int->Int->Prop)(g:Int->Int->V):R2:=λx y H Q=>∃i j,x=.int i/\y=.int j/\C i j/\Q (g i j) H
def y7(g:Int->Int->V):R2:=λx y H Q=>∃i j,x=.int i/\y=.int j/\Q (g i j) H
def rU(g:Int->V):V->Hp->VK->Prop:=λx H Q=>∃i,x=.int i/\Q (g i) H
section
variable{X:Cx}{a b c:Expr}{ta tb tc:TE}{pos:Pos}
def DT(o:PE X a ta)(n:PE X b tb){d:List (Addr×Obj)}{s:Shared}{e:St}{H:Hp}{R:V->V->Hp->Prop}(I:Inv X d e H s)
  (h:ta e H λx H1=>tb e H1 λy H2=>R x y H2) {Q:Value->Shared->Prop} {f:Value->Value->Sem Value}
  (l:∀v u j x y H2,Inv X d e H2 j->RelV x v->RelV y u->R x y H2->wpAny (model X.prog X.w) X.A (f v u) Q X.xe j):
  wpAny (model X.prog X.w) X.A (eval a X.env) (λv i=>wpAny (model X.prog X.w) X.A (eval b X.env) (λu g=>wpAny (model X.prog X.w) X.A (f v u) Q X.xe g) X.xe i) X.xe s:=by
 refine bP (o d s e H _ I h) λv r k=> ?_
 obtain⟨x,H1,B,p,t⟩:=k
 refine bP (n d r e H1 _ B t) λu j k=> ?_
 obtain⟨y,H2,q,m,z⟩:=k
 exact l v u j x y H2 q p m z
def oU{e:Operator}{r:R2}(f:ip X (binaryOp e) r)(i:PE X a ta)(g:PE X b tb):PE X (.BinOp a e b pos) (BQ r ta tb):=by
 intro d s n H Q I h
 exact wpAny_BinOp (DT i g I h λv u k x y H2 l j m q=>f d k n H2 x y v u Q l j m q)
def FL{f:UnaryOp}{r:V->Hp->VK->Prop}(l:Hu X (unaryOp f) r)(i:PE X a ta):PE X (.UnaryOp f a pos) (JO r ta):=by
 intro d s e H Q I h
 exact UnaryOp_ (bP (i d s e H _ I h) λv m ⟨x,H1,k,j,g⟩=>l d m e H1 x v Q k j g)
def GN{f:Value->Value->Sem Value}{C:Int->Int->Prop}{g:Int->Int->Int}
  (d:∀(i j:Int) (t u:Tok) (s:Shared) (Q:Value->Shared->Prop) (E:Value->Shared->Prop),C i j->Q (.int (g i j) s.toks) {s with toks:=s.toks+1}->wpAny (model X.prog X.w) X.A (f (.int i t) (.int j u)) Q E s):
  ip X f (rI C λi j=>.int (g i j)):=by
 intro e s n H x y v u Q I k m h
 obtain⟨i,j,rfl,rfl,hc,q⟩:=h
 obtain⟨t,rfl⟩:=k
 obtain⟨l,rfl⟩:=m
 exact d i j t l s _ _ hc ⟨.int (g i j),H,I.tok _,⟨_,rfl⟩,q⟩
def E9{f:Value->Value->Sem Value}{g:Int->Int->Int}
  (d:∀(i j:Int) (t u:Tok) (s:Shared) (Q:Value->Shared->Prop) (E:Value->Shared->Prop),Q (.int (g i j) s.toks) {s with toks:=s.toks+1}->wpAny (model X.prog X.w) X.A (f (.int i t) (.int j u)) Q E s):
  ip X f (y7 λi j=>.int (g i j)):=by
 intro e s n H x y v u Q I k m h
 obtain⟨i,j,rfl,rfl,q⟩:=h
 obtain⟨t,rfl⟩:=k
 obtain⟨l,rfl⟩:=m
 exact d i j t l s _ _ ⟨.int (g i j),H,I.tok _,⟨_,rfl⟩,q⟩
def Cz{f:Value->Value->Sem Value}{g:Int->Int->Bool}
  (d:∀(i j:Int) (t u:Tok) (s:Shared) (Q:Value->Shared->Prop) (E:Value->Shared->Prop),Q (.bool (g i j)) s->wpAny (model X.prog X.w) X.A (f (.int i t) (.int j u)) Q E s):
  ip X f (y7 λi j=>.bl (g i j)):=by
 intro e s n H x y v u Q I k m h
 obtain⟨i,j,rfl,rfl,q⟩:=h
 obtain⟨t,rfl⟩:=k
 obtain⟨l,rfl⟩:=m
 exact d i j t l s _ _ ⟨.bl (g i j),H,I,rfl,q⟩
def AI(i j:Int):Prop:=0<j/\j<1073741824
def zS(i j:Int):Prop:=0<=j/\j<=1000000/\i.natAbs<2^64
def CK(i j:Int):Prop:=(-(2^64)<i/\i<2^64)\/(-(2^64)<j/\j<2^64)
def CK.ok{i j:Int}(h:CK i j):IntMulOk i j:=by
 rcases h with⟨d,e⟩|⟨d,e⟩
 ·exact .of_left (intBits_le_64 d e)
 ·exact .of_right (intBits_le_64 d e)
def Ei:ip X (binaryOp .Add) (y7 λi j=>.int (i+j)):=E9 λ_ _ _ _ _ _ _ q=>add_int q
def D7:ip X (binaryOp .Sub) (y7 λi j=>.int (i-j)):=E9 λ_ _ _ _ _ _ _ q=>sub_int q
def Cg:ip X (binaryOp .FloorDiv) (rI AI λi j=>.int (i/j)):=GN λi j _ _ _ _ _ d q=>by
 have e:(0:Int)<j:=d.1
 have f:j<1073741824:=d.2
 exact floordiv_int (by omega) (by rw[Int.fdiv_eq_ediv_of_nonneg i (by omega)];exact q) (.inl (PyProof.noPylong_small (by omega)))
def D0:ip X (binaryOp .Mod) (rI (λ_ j=>0<j) λi j=>.int (i%j)):=GN λi j _ _ _ _ _ d q=>by
 have e:(0:Int)<j:=d
 exact mod_int' (by omega) (by rw[Int.fmod_eq_emod_of_nonneg i (by omega)];exact q)
def Ea:ip X (binaryOp .Pow) (rI zS λi j=>.int (i^j.toNat)):=GN λ_ _ _ _ _ _ _ d q=>pow_int_small d.1 d.2.1 d.2.2 q
def JW{f:Value->Sem Value}{g:Int->Int}
  (d:∀(i:Int) (t:Tok) (s:Shared) (Q:Value->Shared->Prop) (E:Value->Shared->Prop),Q (.int (g i) s.toks) {s with toks:=s.toks+1}->wpAny (model X.prog X.w) X.A (f (.int i t)) Q E s):
  Hu X f (rU λi=>.int (g i)):=by
 intro e s k H x v Q I j h
 obtain⟨i,rfl,q⟩:=h
 obtain⟨t,rfl⟩:=j
 exact d i t s _ _ ⟨.int (g i),H,I.tok _,⟨_,rfl⟩,q⟩
def Di:Hu X (unaryOp .USub) (rU λi=>.int (-i)):=JW λ_ _ _ _ _ q=>neg_int q
end
def tM:V->V->Bool
 |.non,.non=>true|.non,.int _=>true|.int _,.non=>true|.non,.bl _=>true|.bl _,.non=>true|.non,.str _=>true|.str _,.non=>true
 |.int _,.int _=>true|.bl _,.bl _=>true|.str _,.str _=>true|.byt _,.byt _=>true
 |.int _,.str _=>true|.str _,.int _=>true|.bl _,.str _=>true|.str _,.bl _=>true
 |_,_=>false
def Jh:R2:=λx y H Q=>tM x y=true/\Q (.bl (decide (x=y))) H
def IH:R2:=λx y H Q=>tM x y=true/\Q (.bl (!decide (x=y))) H
def xa{i j:Int}:decide (V.int i=V.int j)=(i==j):=by
 rw[Bool.eq_iff_iff]
 simp
def Bc{i j:Bool}:decide (V.bl i=V.bl j)=(i==j):=by
 rw[Bool.eq_iff_iff]
 simp
def xM{i j:Str}:decide (V.str i=V.str j)=(i==j):=by
 rw[Bool.eq_iff_iff]
 simp
def xG{i j:Array UInt8}:decide (V.byt i=V.byt j)=(i.toList==j.toList):=by
 rw[Bool.eq_iff_iff]
 cases i
 cases j
 simp
section
variable{X:Cx}{a b c:Expr}{ta tb tc:TE}{pos:Pos}
def bp{d:List (Addr×Obj)}{g:St}{H:Hp}{s:Shared}{Q:VK}{k f:Bool}(I:Inv X d g H s)(q:Q (.bl k) H)(e:k=f):EP X d g Q (.bool f) s:=by
 subst e
 exact⟨.bl k,H,I,rfl,q⟩
def Fd:ip X (compareOp .Eq) Jh:=by
 intro k s l H x y v u Q I g d h
 obtain⟨f,q⟩:=h
 cases x with
 | non=>
   cases g
   cases y with
   |non=>cases d;exact PySem.EqNone.eq_none_none (bp I q (by simp))
   |bl j=>cases d;exact PySem.EqNone.eq_none_bool (bp I q (by simp))
   |int j=>obtain⟨e,rfl⟩:=d;exact PySem.EqNone.eq_none_int (bp I q (by simp))
   |str j=>obtain⟨e,rfl⟩:=d;exact PySem.EqNone.eq_none_str (bp I q (by simp))
   |_=>exact absurd (show false=true from f) Qtq
 | bl i=>
   cases g
   cases y with
   |non=>cases d;exact PySem.EqNone.eq_bool_none (bp I q (by simp))
   |bl j=>cases d;exact eq_bool (bp I q Bc)
   |str j=>obtain⟨e,rfl⟩:=d;exact PySem.EqMixed.eq_bool_str (bp I q (by simp))
   |_=>exact absurd (show false=true from f) Qtq
 | int i=>
   obtain⟨t,rfl⟩:=g
   cases y with
   |non=>cases d;exact PySem.EqNone.eq_int_none (bp I q (by simp))
   |int j=>obtain⟨e,rfl⟩:=d;exact eq_int (bp I q xa)
   |str j=>obtain⟨e,rfl⟩:=d;exact PySem.EqMixed.eq_int_str (bp I q (by simp))
   |_=>exact absurd (show false=true from f) Qtq
 | str i=>
   obtain⟨t,rfl⟩:=g
   cases y with
   |non=>cases d;exact PySem.EqNone.eq_str_none (bp I q (by simp))
   |bl j=>cases d;exact PySem.EqMixed.eq_str_bool (bp I q (by simp))
   |int j=>obtain⟨e,rfl⟩:=d;exact PySem.EqMixed.eq_str_int (bp I q (by simp))
   |str j=>obtain⟨e,rfl⟩:=d;exact eq_str (bp I q xM)
   |_=>exact absurd (show false=true from f) Qtq
 | byt i=>
   obtain⟨t,rfl⟩:=g
   cases y with
   |byt j=>obtain⟨e,rfl⟩:=d;exact PySem.W.eq_bytes (bp I q xG)
   |_=>exact absurd (show false=true from f) Qtq
 |_=>cases y <;>exact absurd (show false=true from f) Qtq
def JI:ip X (compareOp .NotEq) IH:=by
 intro k s l H x y v u Q I g d h
 obtain⟨f,q⟩:=h
 cases x with
 | non=>
   cases g
   cases y with
   |non=>cases d;exact PySem.EqNone.ne_none_none (bp I q (by simp))
   |bl j=>cases d;exact PySem.EqNone.ne_none_bool (bp I q (by simp))
   |int j=>obtain⟨e,rfl⟩:=d;exact PySem.EqNone.ne_none_int (bp I q (by simp))
   |str j=>obtain⟨e,rfl⟩:=d;exact PySem.EqNone.ne_none_str (bp I q (by simp))
   |_=>exact absurd (show false=true from f) Qtq
 | bl i=>
   cases g
   cases y with
   |non=>cases d;exact PySem.EqNone.ne_bool_none (bp I q (by simp))
   |bl j=>cases d;exact ne_bool (bp I q (congrArg not Bc))
   |str j=>obtain⟨e,rfl⟩:=d;exact PySem.EqMixed.ne_bool_str (bp I q (by simp))
   |_=>exact absurd (show false=true from f) Qtq
 | int i=>
   obtain⟨t,rfl⟩:=g
   cases y with
   |non=>cases d;exact PySem.EqNone.ne_int_none (bp I q (by simp))
   |int j=>obtain⟨e,rfl⟩:=d;exact ne_int (bp I q (congrArg not xa))
   |str j=>obtain⟨e,rfl⟩:=d;exact PySem.EqMixed.ne_int_str (bp I q (by simp))
   |_=>exact absurd (show false=true from f) Qtq
 | str i=>
   obtain⟨t,rfl⟩:=g
   cases y with
   |non=>cases d;exact PySem.EqNone.ne_str_none (bp I q (by simp))
   |bl j=>cases d;exact PySem.EqMixed.ne_str_bool (bp I q (by simp))
   |int j=>obtain⟨e,rfl⟩:=d;exact PySem.EqMixed.ne_str_int (bp I q (by simp))
   |str j=>obtain⟨e,rfl⟩:=d;exact ne_str (bp I q (congrArg not xM))
   |_=>exact absurd (show false=true from f) Qtq
 | byt i=>
   obtain⟨t,rfl⟩:=g
   cases y with
   |byt j=>obtain⟨e,rfl⟩:=d;exact PySem.W.ne_bytes (bp I q (congrArg not xG))
   |_=>exact absurd (show false=true from f) Qtq
 |_=>cases y <;>exact absurd (show false=true from f) Qtq
def Jy:ip X (compareOp .Lt) (y7 λi j=>.bl (decide (i<j))):=Cz λ_ _ _ _ _ _ _ q=>lt_int q
def IQ:ip X (compareOp .LtE) (y7 λi j=>.bl (decide (i<=j))):=Cz λ_ _ _ _ _ _ _ q=>le_int q
def Iz:ip X (compareOp .Gt) (y7 λi j=>.bl (decide (j<i))):=Cz λ_ _ _ _ _ _ _ q=>gt_int q
def Jz:ip X (compareOp .GtE) (y7 λi j=>.bl (decide (j<=i))):=Cz λ_ _ _ _ _ _ _ q=>ge_int q
def HJ:ip X (compareOp .Is) (λx y H Q=>y=.non/\Q (.bl (decide (x=.non))) H):=by
 intro e s g H x y v u Q I d f h
 obtain⟨rfl,q⟩:=h
 cases f
 refine is_none_gen (bp I q ?_)
 cases x <;>first
  |(cases d;rfl)
  |(obtain⟨t,rfl⟩:=d;rfl)
def GS:ip X (compareOp .IsNot) (λx y H Q=>y=.non/\Q (.bl (!decide (x=.non))) H):=by
 intro e s g H x y v u Q I d f h
 obtain⟨rfl,q⟩:=h
 cases f
 refine isnot_none_gen (bp I q ?_)
 cases x <;>first
  |(cases d;rfl)
  |(obtain⟨t,rfl⟩:=d;rfl)
def ip.or{f:Value->Value->Sem Value}{r g:R2}(h:ip X f r)(h':ip X f g):ip X f (λx y H Q=>r x y H Q\/g x y H Q):=by
 intro d s j H x y v u Q I i e q
 rcases q with q|q
 ·exact h d s j H x y v u Q I i e q
 ·exact h' d s j H x y v u Q I i e q
def A_(b:Expr){d:CmpOp}(h:d≠.In:=by decide)(g:d≠.NotIn:=by decide):behindInMarks d b=false:=by
 have e:(d==CmpOp.In)=false:=by cases d <;>first|rfl|exact absurd rfl h
 have f:(d==CmpOp.NotIn)=false:=by cases d <;>first|rfl|exact absurd rfl g
 cases b <;>simp[behindInMarks,e,f]
def xh{e:CmpOp}{r:R2}(f:ip X (compareOp e) r)(j:PE X a ta)(g:PE X b tb)(i:behindInMarks e b=false):PE X (.Compare a [e] [b] pos) (BQ r ta tb):=by
 intro d s o H Q I h
 exact wpAny_Compare1 (DT j g I h λv u l x y H2 m k n q=>f d l o H2 x y v u Q m k n q) i
def zR(t:TE):TT:=λd H Q=>t d H λx e=>∃k,x=.bl k/\Q k e
def nz{f:CmpOp}{r:R2}(i:ip X (compareOp f) r)(o:PE X a ta)(m:PE X b tb)(n:behindInMarks f b=false):PT X (.Compare a [f] [b] pos) (zR (BQ r ta tb)):=by
 intro d s g H Q I h
 refine wpAny_isTrue_Compare1 (bP (o d s g H _ I h) λv A ⟨x,H1,G,p,C⟩=>bP (m d A g H1 _ G C) λu q ⟨y,H2,t,l,F⟩=>
  bP (i d q g H2 x y v u _ t p l F) λc J ⟨z,H3,w,j,k,e,B⟩=> ?_) n
 subst e
 cases j
 exact wpAny_truthy_bool ⟨H3,w,B⟩
def Eg(K:PySem.W.Frag)(x:V)(H:Hp)(k:Bool):Prop:=
 match x with
 |.non=>k=false
 |.bl b=>k=b
 |.int i=>k=(i !=0)
 |.str y=>y.length<=sizeLine/\k=((y.length:Int) !=0)
 |.byt y=>y.size<=sizeLine/\k=((y.size:Int) !=0)
 |.ref p=>(∃e,gc K H p e/\k= !e.isEmpty)\/(∃e,fe K H p e/\k= !e.isEmpty)\/∃d,H p=some (.dK d)/\k= !d.isEmpty
 |_=>False
def wL{e:Type}{d:List (e×V)}{vs:List (e×Value)}(r:KV d vs):(!vs.isEmpty)= !d.isEmpty:=by
 cases r <;>rfl
def o6{xs:List V}{d:List Value}(r:bf xs d):(!d.toArray.isEmpty)= !xs.isEmpty:=by
 cases r <;>simp
def iz:(sizeLine:Nat)<2^63:=by rw[sizeLine_eq];decide
def Eo:HR X (λx H Q=>∃k,Eg X.K x H k/\Q k H):=by
 intro B s L H x v Q I l h
 obtain⟨k,e,q⟩:=h
 have J:=iz
 have G:sizeLine=16777216:=sizeLine_eq
 cases x with
 | non=>
   cases l
   have d:k=false:=e
   subst d
   exact truthy_none ⟨H,I,q⟩
 | bl b=>
   cases l
   have d:k=b:=e
   subst d
   exact wpAny_truthy_bool ⟨H,I,q⟩
 | int i=>
   obtain⟨t,rfl⟩:=l
   have d:k=(i !=0):=e
   subst d
   exact PySem.P.truthy_int ⟨H,I,q⟩
 | str y=>
   obtain⟨t,rfl⟩:=l
   obtain⟨C,d⟩:y.length<=sizeLine/\k=((y.length:Int) !=0):=e
   subst d
   exact PySem.P.truthy_str (by omega) ⟨H,I.tok _,q⟩
 | byt y=>
   obtain⟨t,rfl⟩:=l
   obtain⟨C,d⟩:y.size<=sizeLine/\k=((y.size:Int) !=0):=e
   subst d
   exact PySem.W.truthy_bytes (by omega) ⟨H,I.tok _,q⟩
 | ref p=>
   cases l
   have d:(∃j,gc X.K H p j/\k= !j.isEmpty)\/(∃j,fe X.K H p j/\k= !j.isEmpty)\/∃f,H p=some (.dK f)/\k= !f.isEmpty:=e
   rcases d with⟨j,n,d⟩|⟨j,n,d⟩|⟨f,n,d⟩
   · subst d
     obtain⟨z,r,u,A⟩:=I.list n
     have g:=r.length
     exact wpAny_truthy_list u.isList (by simp only[Qjq];omega) ⟨H,I.tok _,by rw[o6 r];exact q⟩
   · subst d
     obtain⟨z,r,u,A⟩:=I.tuple n
     have g:=r.length
     exact truthy_tuple u (by simp only[Qjq];omega) ⟨H,I.tok _,by rw[o6 r];exact q⟩
   · subst d
     obtain⟨A,F,o,r,m⟩:f.length<=sizeLine/\(p==sysModules)=false/\∃o,KV f o/\s.heap.DictOf (bg X.prog X.w) p o:=I.hok p _ n
     have g:f.length=o.length:=Paired.length r
     exact wpAny_truthy_dict F m (by omega) ⟨H,I.tok _,by rw[wL r];exact q⟩
 |_=>exact(show False from e).elim
def zT(i:PE X a ta)(he:∀d,isTrue a X.env d=(do let v←d;standAt a.pos;holding [v] (truthy v))):
  PT X a (λf H Q=>ta f H λx g=>∃k,Eg X.K x g k/\Q k g):=by
 intro e s f H Q I h
 exact isTrue_plain (bP (i e s f H _ I h) λv l ⟨x,H1,n,j,m⟩=>Eo e l f H1 x v Q n j m) (he _)
def wO:ip X (binaryOp .Add) (λx y H Q=>∃i j,x=.str i/\y=.str j/\i.length+j.length<=sizeLine/\Q (.str (i++j)) H):=by
 intro d s l H x y v u Q I f e h
 obtain⟨i,j,rfl,rfl,hz,q⟩:=h
 obtain⟨t,rfl⟩:=f
 obtain⟨g,rfl⟩:=e
 exact add_str (λg k=>⟨.str (i++j),H,I.tok _,⟨_,rfl⟩,q⟩) hz
def vals1{x:V}{d:List Value}(r:bf [x] d):∃u,d= [u]/\RelV x u:=by
 cases r with
 |cons e f=>cases f;exact⟨_,rfl,e⟩
def vals2{x y:V}{e:List Value}(r:bf [x,y] e):∃u d,e= [u,d]/\RelV x u/\RelV y d:=by
 cases r with
 | cons f g=>
   cases g with
   |cons i h=>cases h;exact⟨_,_,rfl,f,i⟩
def Fs:jz X (.builtin "abs") (λxs H Q=>∃i,xs= [.int i]/\Q (.int (if i<0 then -i else i)) H):=by
 intro d s f H xs g Q I r h
 obtain⟨i,rfl,q⟩:=h
 obtain⟨u,rfl,t,rfl⟩:=vals1 r
 exact call_abs_int λu e=>⟨.int (if i<0 then -i else i),H,I.tok _,⟨_,rfl⟩,q⟩
def EU(f:X.calm=true):jz X (.builtin "max") (λxs H Q=>∃i j,xs= [.int i,.int j]/\Q (.int (if j>i then j else i)) H):=by
 intro e s o H xs n Q I r h
 obtain⟨i,j,rfl,q⟩:=h
 obtain⟨u,m,rfl,⟨t,rfl⟩,⟨t',rfl⟩⟩:=vals2 r
 refine max_two_ints (I.ok.hd f) λg l k=>⟨_,H,I.kept k,?_,q⟩
 by_cases d:j>i
 ·rw[Qhq d,Qhq d];exact⟨_,rfl⟩
 ·rw[Quq d,Quq d];exact⟨_,rfl⟩
def EV(f:X.calm=true):jz X (.builtin "min") (λxs H Q=>∃i j,xs= [.int i,.int j]/\Q (.int (if j<i then j else i)) H):=by
 intro e s o H xs n Q I r h
 obtain⟨i,j,rfl,q⟩:=h
 obtain⟨u,m,rfl,⟨t,rfl⟩,⟨t',rfl⟩⟩:=vals2 r
 refine min_two_ints (I.ok.hd f) λg l k=>⟨_,H,I.kept k,?_,q⟩
 by_cases d:j<i
 ·rw[Qhq d,Qhq d];exact⟨_,rfl⟩
 ·rw[Quq d,Quq d];exact⟨_,rfl⟩
def EZ:jz X (.type "int") (λxs H Q=>(∃i,xs= [.int i]/\Q (.int i) H)\/∃k,xs= [.bl k]/\Q (.int (if k then 1 else 0)) H):=by
 intro d s e H xs f Q I r h
 rcases h with⟨i,rfl,q⟩|⟨k,rfl,q⟩
 ·obtain⟨u,rfl,t,rfl⟩:=vals1 r
  exact call_int_int ⟨.int i,H,I,⟨_,rfl⟩,q⟩
 ·obtain⟨u,rfl,r1⟩:=vals1 r
  cases r1
  exact call_int_bool ⟨.int (if k then 1 else 0),H,I.tok _,⟨_,rfl⟩,q⟩
end
structure DQ(h:Heap)(x dx C:Addr)(mA:Str->Option Value):Prop where
 obj:h.get? x=some (PySem.W.instObj C dx)
 ns:h.Ns1 dx mA
 ne:dx≠x
def yA{h:Heap}{d:Addr}{f:Str->Option Value}(n:h.Ns1 d f):∃c,h.get? d=some c/\∀name,PySem.W.lookIn name c=some (f name):=by
 obtain⟨o,g,r,i,k,p,_,j⟩:=n
 refine⟨o,i,λname=> ?_⟩
 have e:=j name
 unfold nsFind findBy at e
 rw[←Array.find?_toList] at e
 unfold PySem.W.lookIn
 rw[k]
 dsimp only
 split
 ·rename_i y q
  rw[q] at e
  exact congrArg some e
 ·rename_i q
  rw[q] at e
  have a:g.toList.any (·.refKey)=false:=by
   rw[List.any_eq_false]
   intro y m
   obtain⟨z,t,b⟩:=p y (Array.mem_toList_iff.mp m)
   simp[DictEntry.refKey,b]
  have l:¬g.toList.any (·.refKey)=true:=by rw[a];exact Qtq
  rw[Quq l]
  exact congrArg some e
def DQ.look{h:Heap}{x b C:Addr}{c:Str->Option Value}(I:DQ h x b C c):∃a,PySem.W.InstAt h x (PySem.W.instObj C b) C (some a)/\∀name,PySem.W.lookIn name a=some (c name):=
 let ⟨a,ho,hl⟩:=yA I.ns
 ⟨a,⟨I.obj,rfl,rfl,ho⟩,hl⟩
def o_.some_of{v:V}{o:Option Value}(r:o_ (some v) o):∃u,o=some u/\RelV v u:=by
 cases o with
 |none=>exact(show False from r).elim
 |some u=>exact⟨u,rfl,r⟩
section
variable{P:Program}{w:World}{H H':Hp}{h h':Heap}{a C dx:Addr}{fs fs':List (Str×V)}
def CL(c:ki P w H h)(e:H a=some (.ins C dx fs)):∃b,DQ h a dx C b/\(∀f,o_ (fs.lookup f) (b f))/\PySem.Within b (fs.map (·.1))/\fs.length<=1000/\H dx=some (.own a):=by
 obtain⟨d,z,g,i,b,n,r,q⟩:=(show b9 P w H h a (.ins C dx fs) from c a _ e)
 exact⟨b,⟨i,n,g⟩,r,q,z,d⟩
end
structure HC(K:PySem.W.Frag)(C:Addr):Prop where
 pg:PySem.W.plainGet K C Str.empty=true
 hd:PySem.W.hasDictIn K C=true
 po:PySem.W.plainOver K C=true
 sa:PySem.W.findIn K (.ref C) "__setattr__"=some (some (.builtin "object.__setattr__"))
def HC.get{K:PySem.W.Frag}{C:Addr}(c:HC K C)(f:Str):PySem.W.plainGet K C f=true:=c.pg
section
variable{X:Cx}{pins:List (Addr×Obj)}{σ:St}{H:Hp}{s:Shared}{A:Around}{E:Value->Shared->Prop}{Q:Value->Shared->Prop}{c:Value}{b:Bool}
inductive mv(K:PySem.W.Frag)(H:Hp):V->Value->Prop where
 |non:mv K H .non (.type "NoneType")
 |bl (x:Bool):mv K H (.bl x) (.type "bool")
 |int (i:Int):mv K H (.int i) (.type "int")
 |str (x:Str):mv K H (.str x) (.type "str")
 |flt (x:UInt64):mv K H (.flt x) (.type "float")
 |lst {a:Addr} {xs:List V} (e:H a=some (.lst xs)):mv K H (.ref a) (.type "list")
 |frz {a:Addr} {o:Obj} {xs:List V} (e:H a=some (.frz o (.lst xs))):mv K H (.ref a) (.type "list")
 |tup {a:Addr} {xs:List V} (e:H a=some (.tup xs)):mv K H (.ref a) (.type "tuple")
 |dK {a:Addr} {kvs:List (Key×V)} (e:H a=some (.dK kvs)):mv K H (.ref a) (.type "dict")
 |dT {a:Addr} {kvs:List (List Key×V)} (e:H a=some (.dT kvs)):mv K H (.ref a) (.type "dict")
 |ins {a C dx:Addr} {fs:List (Str×V)} (e:H a=some (.ins C dx fs)) (cl:HC K C) (ha:PySem.W.findIn K (.ref C) "__class__"=some (some (.builtin "object.__class__")))
   (hn:PySem.W.specialIn K (.builtin "object.__class__") "__get__"=some (some (.builtin "getset_descriptor.__get__"))) (htk:PySem.W.takesIn K (.builtin "object.__class__")=some true)
   (hm:PySem.W.mroIn K C (.type "object")=some true):mv K H (.ref a) (.ref C)
def yB{x:V}{u t:Value}(I:Inv X pins σ H s)(d:RelV x u)(r:mv X.K H x t)(e:PySem.W.kitOne X.K t c=some b)(h:∀k,Q (.bool b) {s with toks:=k}):
  wpAny (model X.prog X.w) A (call (.builtin "isinstance") [u,c]) Q E s:=by
 cases r with
 |non=>cases (show u=Value.none from d);exact PySem.W.kia_one PySem.W.kitx_none I.kIn True.intro e (λz=>nomatch z) h
 |bl y=>cases (show u=Value.bool y from d);exact PySem.W.kia_one PySem.W.kitx_bool I.kIn True.intro e (λz=>nomatch z) h
 |int i=>obtain⟨t,q⟩:=(show∃t,u=Value.int i t from d);cases q;exact PySem.W.kia_one PySem.W.kitx_int I.kIn True.intro e (λz=>nomatch z) h
 |str y=>obtain⟨t,q⟩:=(show∃t,u=Value.str y t from d);cases q;exact PySem.W.kia_one PySem.W.kitx_str I.kIn True.intro e (λz=>nomatch z) h
 |flt y=>obtain⟨t,q⟩:=(show∃t,u=Value.float y t from d);cases q;exact PySem.W.kia_one PySem.W.kitx_float I.kIn True.intro e (λz=>nomatch z) h
 | @lst a g ea=>
   cases (show u=Value.ref a from d)
   obtain⟨_,_,n,_,f⟩:=(show b9 X.prog X.w H s.heap a (.lst g) from I.hok a _ ea)
   exact PySem.W.kia_one PySem.W.kitx_list I.kIn ⟨_,f,rfl⟩ e (λz=>nomatch z) h
 | @frz a ob g ea=>
   cases (show u=Value.ref a from d)
   obtain⟨_,_,_,n,_,f⟩:=(show b9 X.prog X.w H s.heap a (.frz ob (.lst g)) from I.hok a _ ea)
   exact PySem.W.kia_one PySem.W.kitx_list I.kIn ⟨_,f,rfl⟩ e (λz=>nomatch z) h
 | @tup a g ea=>
   cases (show u=Value.ref a from d)
   obtain⟨_,_,_,p⟩:=(show b9 X.prog X.w H s.heap a (.tup g) from I.hok a _ ea)
   obtain⟨o,f,j,_⟩:=p
   exact PySem.W.kia_one PySem.W.kitx_tuple I.kIn ⟨o,f,j⟩ e (λz=>nomatch z) h
 | @dK a kvs ea=>
   cases (show u=Value.ref a from d)
   obtain⟨_,_,v,_,p⟩:=(show b9 X.prog X.w H s.heap a (.dK kvs) from I.hok a _ ea)
   obtain⟨o,l,m,f,j,_⟩:=p
   exact PySem.W.kia_one PySem.W.kitx_dict I.kIn ⟨o,f,j.1⟩ e (λz=>nomatch z) h
 | @dT a kvs ea=>
   cases (show u=Value.ref a from d)
   obtain⟨_,_,g,_,o,l,m,f,j,_⟩:=(show b9 X.prog X.w H s.heap a (.dT kvs) from I.hok a _ ea)
   exact PySem.W.kia_one PySem.W.kitx_dict I.kIn ⟨o,f,j.1⟩ e (λz=>nomatch z) h
 | @ins a C dx fs ea cl ha hn htk hm=>
   cases (show u=Value.ref a from d)
   obtain⟨F,O,_⟩:=CL I.hok ea
   obtain⟨B,J,_⟩:=O.look
   exact PySem.W.kia_one (PySem.W.kitx_own (cl.get _) cl.hd ha hn htk hm) I.kIn J e (λz=>nomatch z) h
end
structure dC(k:Nat)(A:Around):Prop where
 hd:A.handled=none
 dp:A.depth+3*k+5<recursionLimit
 un:A.units+16*k+200<cLine
def dC.mono{j k:Nat}{A:Around}(r:dC k A)(h:j<=k):dC j A:=⟨r.hd,by have:=r.dp;omega,by have:=r.un;omega⟩
def dC.deeper{k:Nat}{A:Around}(r:dC (k+1) A)(env:Env):dC k (A.deeper env):=
 ⟨r.hd,by have:=r.dp;show A.depth+1+3*k+5<_;omega,by have:=r.un;show A.units+3+16*k+200<_;omega⟩
def dC.depth{k:Nat}{A:Around}(r:dC k A):A.depth<recursionLimit:=by have:=r.dp;omega
def dC.units{k:Nat}{A:Around}(r:dC k A):A.units+64<cLine:=by have:=r.un;omega
def dC.units0{k:Nat}{A:Around}(r:dC k A):A.units<cLine:=by have:=r.un;omega
def Dq:TA:=λ_ H Q=>Q [] H
def zK(b:TE)(tr:TA):TA:=λa H Q=>b a H λx H1=>tr a H1 λc H2=>Q (x::c) H2
section
variable{X:Cx}{e:Expr}{es:List Expr}{te:TE}{t:TA}{pos:Pos}
def fV:PA X [] Dq:=λ_ _ _ _ H Q I h=>Calls.spliced_nil ⟨[],H,I,.nil,h⟩
def c9(g:PE X e te)(c:PA X es t)(d:starEach (e::es) X.env=(false,eval e X.env)::starEach es X.env:=by rfl):PA X (e::es) (zK te t):=by
 intro pos a s b H Q I h
 rw[d]
 show wpAny _ _ (spliced ((false,eval e X.env)::backTo pos (starEach es X.env))) _ _ s
 refine Calls.spliced_cons (bP (g a s b H _ I h) λu l m=> ?_)
 obtain⟨x,H1,p,i,n⟩:=m
 exact bP (c pos a l b H1 _ p n) λr q ⟨k,H2,j,f,o⟩=>⟨x::k,H2,j,.cons i f,o⟩
def HU(t:TA):TE:=λb H Q=>t b H λa H1=>a.length<=sizeLine/\∀p,H1 p=none->Q (.ref p) (upd H1 p (.tup a))
def HP(t:TA):TE:=λb H Q=>t b H λa H1=>a.length<=sizeLine/\∀p,H1 p=none->Q (.ref p) (upd H1 p (.lst a))
def DK{x1}(h:PA X es t):PE X (.Tuple es x1 pos) (HU t):=by
 intro a s k H Q I j
 refine wpAny_Tuple_spliced (bP (h pos a s k H _ I j) λi c ⟨g,H1,d,r,z,q⟩=>⟨by rw[←r.length];exact z,?_⟩)
 have f:H1 c.heap.objs.size=none:=d.hok.fresh (Qmq _)
 refine⟨.ref c.heap.objs.size,upd H1 c.heap.objs.size (.tup g),d.laid (t':=c.toks) (λb u e=>Qcq _ e) (Qmq _) ?_,rfl,q _ f⟩
 exact⟨z,i,r,⟨_,Qrq _ rfl,rfl,rfl,_,rfl⟩⟩
def D1(h:PA X es t):PE X (.List es pos) (HP t):=by
 intro a s k H Q I j
 refine wpAny_List_spliced (bP (h pos a s k H _ I j) λi c ⟨g,H1,d,r,z,q⟩=>⟨by rw[←r.length];exact z,?_⟩)
 have f:H1 c.heap.objs.size=none:=d.hok.fresh (Qmq _)
 refine⟨.ref c.heap.objs.size,upd H1 c.heap.objs.size (.lst g),d.laid (t':=c.toks) (λb u e=>Qcq _ e) (Qmq _) ?_,rfl,q _ f⟩
 exact⟨z,i,0,r,Qrq _ rfl⟩
end
abbrev Sp:=List V->Hp->VK->XK->Prop
abbrev zo:=List Env->Hp->Shared->XK->Value->Shared->Prop
structure Cj(P:Program)(w:World)(K:PySem.W.Frag)(mg:Str->Option Value)(base:Heap)(A:Around)(outer:List Env)(s:Shared)(H:Hp):Prop where
 frames:A.frames=some outer
 mod:Mod K mg base
 bs:∀b o,base.get? b=some o->s.heap.get? b=some o/\H b=none
 bsz:base.objs.size<=s.heap.objs.size
 funs:s.heap.FunFrames base outer
 frf:∀b∈Bj outer,H b=none
 hok:ki P w H s.heap
 bare:AllBare s.gens
def CE(outer:List Env)(P:Program)(w:World)(H:Hp)(s:Shared)(Q:VK)(u:Value)(a:Shared):Prop:=
 ∃v b,a.os=s.os/\AllBare a.gens/\Un (Bj outer) [] H b s.heap a.heap/\ki P w b a.heap/\RelV v u/\Q v b
def CR(CX:zo)(outer:List Env)(P:Program)(w:World)(H:Hp)(s:Shared)(Q:VK)(E:XK)(r:Result)(a:Shared):Prop:=
 match r with
 |.ok (.ret u)=>CE outer P w H s Q u a
 |.ok _=>False
 |.error e=>CX outer H s E e a
structure aY(P:Program)(w:World)(K:PySem.W.Frag)(mg:Str->Option Value)(base:Heap)(CX:zo)(k:Nat)(f:Addr)(fd:FuncData)(ps:List Str)(sp:Sp):Prop where
 len:∀vs H Q E,sp vs H Q E->vs.length=ps.length
 run:∀(A:Around) (outer:List Env) (s:Shared) (H:Hp) (args:Args) (us:List Value) (vs:List V) (Q:VK) (E:XK),dC k A->Cj P w K mg base A outer s H->BindsTo s fd args (ps.zip us)->bf vs us->sp vs H Q E→
  codeAny (model P w) A (.call (.ref f) args) (CR CX outer P w H s Q E) s
def aY.mono{P:Program}{w:World}{K:PySem.W.Frag}{mg:Str->Option Value}{base:Heap}{CX:zo}{j k:Nat}{f:Addr}{c:FuncData}{ps:List Str}{sp:Sp}(F:aY P w K mg base CX j f c ps sp)(h:j<=k):
  aY P w K mg base CX k f c ps sp:=⟨F.len,λA a s H b g d Q E e=>F.run A a s H b g d Q E (e.mono h)⟩
def aY.imp{P:Program}{w:World}{K:PySem.W.Frag}{mg:Str->Option Value}{base:Heap}{CX:zo}{k:Nat}{f:Addr}{d:FuncData}{ps:List Str}{sp b:Sp}(F:aY P w K mg base CX k f d ps sp)
  (h:∀vs H Q E,b vs H Q E->sp vs H Q E):aY P w K mg base CX k f d ps b:=
 ⟨λvs H Q E q=>F.len vs H Q E (h _ _ _ _ q),λA a s H c l vs Q E e m i j g=>F.run A a s H c l vs Q E e m i j (h _ _ _ _ g)⟩
section
variable{X:Cx}{pins:List (Addr×Obj)}{σ:St}{H:Hp}{s s':Shared}
def Inv.env0(I:Inv X pins σ H s):Cj X.prog X.w X.K X.mg X.base X.A X.stack s H:=
 ⟨I.ok.frames,I.ok.mod,I.bs,QAq I.ok.bsz I.sz,I.stack,I.stkFree,I.hok,I.bare⟩
def Inv.after{Q:VK}{u:Value}(I:Inv X pins σ H s)(h:CE X.stack X.prog X.w H s Q u s'):EP X pins σ Q u s':=by
 obtain⟨v,k,i,a,f,e,r,q⟩:=h
 obtain⟨j,g,d,t,c⟩:=s'
 obtain rfl:c=s.os:=i
 exact⟨v,k,I.call (h':=j) (g':=g) (d':=d) (t':=t) (ch:= []) f e a (λb z=>absurd z (by simp)),r,q⟩
end
def zU(sp:Sp)(a:List V)(E:XK)(t:TA):TE:=λc H Q=>t c H λb H1=>sp (b++a) H1 Q E
def Binds(K:PySem.W.Frag)(b:FuncData)(ps:List Str)(ds:List Value):Prop:=
 ∀(s:Shared) (a:List Value),K.In s.heap->(a++ds).length=ps.length->BindsTo s b ⟨a,[]⟩ (ps.zip (a++ds))
def Binds.all{K:PySem.W.Frag}{b:FuncData}{ps:List Str}(h:∀a:List Value,a.length=ps.length->bindArgs b ⟨a,[]⟩=pure (ps.zip a)):Binds K b ps []:=λs a _ c=>by
 rw[List.append_nil] at c⊢
 exact .of_eq (h a c)
def v7(CX:zo)(X:Cx)(E:XK):Prop:=∀(a:List (Addr×Obj)) (c:St) (H:Hp) (s:Shared) (e:Value) (b:Shared),Inv X a c H s->CX X.stack H s E e b->X.xe e b
section
variable{X:Cx}{CX:zo}{k:Nat}{f C:Addr}{fd:FuncData}{ps:List Str}{sp:Sp}{dvs:List V}{ds:List Value}{E:XK}{x m:Str}{p pos apos:Pos}{e o:Expr}{es:List Expr}{ta:TE}{t:TA}
def As{a:List (Addr×Obj)}{d:St}{H:Hp}{s:Shared}{Q:VK}{b:List Value}{vs:List V}(F:aY X.prog X.w X.K X.mg X.base CX k f fd ps sp)(j:dC k X.A)(l:Binds X.K fd ps ds)(hd:bf dvs ds)(i:v7 CX X E)
  (I:Inv X a d H s) (r:bf vs b) (h:sp (vs++dvs) H Q E):wpAny (model X.prog X.w) X.A (call (.ref f) b) (EP X a d Q) X.xe s:=by
 have g:bf (vs++dvs) (b++ds):=r.append hd
 have v:(b++ds).length=ps.length:=by rw[←g.length];exact F.len _ _ _ _ h
 refine wpAny_call (codeAny_mono (F.run X.A X.stack s H ⟨b,[]⟩ (b++ds) (vs++dvs) Q E j I.env0 (l s b I.kIn v) g h) λr q c=> ?_)
 cases r with
 |error e=>exact i a d H s e q I c
 | ok n=>
   cases n with
   |ret u=>exact I.after c
   |next=>exact False.elim c
   |brk=>exact False.elim c
   |cont=>exact False.elim c
def xQ(F:aY X.prog X.w X.K X.mg X.base CX k f fd ps sp)(g:dC k X.A)(n:Gl X x)(j:X.mg x=some (.ref f))(v:PySem.W.keepIn X.K (.ref f)=true)(i:Binds X.K fd ps ds)(hd:bf dvs ds)(d:v7 CX X E)
  (l:PA X (e::es) t) (b:(x==("__debug__":Str))=false:=by decide) (he:starEach (e::es) X.env=(false,eval e X.env)::starEach es X.env:=by rfl) (hpl:(backTo pos (starEach es X.env)).any (·.1)=false:=by rfl):
  PE X (.Call (.Name x p) (e::es) [] pos) (zU sp dvs E t):=by
 intro a s u H Q I h
 refine wpAny_Call_Name_kw (rD I n j ?_ b)
 refine PySem.W.callWith_K (h₀:=X.base) I.ok.mod.kin v (bP (l pos a s u H _ I h) λB z ⟨y,H1,c,r,q⟩=>⟨c.kIn,?_⟩) he hpl
 exact As F g i hd d c r q
end
structure aE(N P:List Str)(sc:Scope):Prop where
 kind:sc.kind=.function
 co:sc.isCoroutine=false
 gen:sc.isGenerator=false
 nd:N.Nodup
 pre:N.take P.length=P
 par:∀x∈P,sc.names.lookup x=some .local\/sc.names.lookup x=some .cell
 nofree:∀y∈sc.names,y.2≠.free
theorem qC{b:Str->Option NameKind}{x:Str}:∀{a:List (Str×Value)} {m:Str->Option Value},(∀v,(x,v)∉a)->bindL b a m x=m x
 | [],_,_=>rfl
 | (n,v)::r,m,h=>by
   unfold bindL
   rw[qC λw c=>h w (Qpq _ c)]
   split
   · have:x≠n:=by rintro rfl;exact h v QBq
     simp[this]
   · rfl
theorem qO{b:Str->Option NameKind}{x:Str}:∀{a:List (Str×Value)} {m:Str->Option Value},(∀v,(x,v)∉a)->bindC b a m x=m x
 | [],_,_=>rfl
 | (n,v)::r,m,h=>by
   unfold bindC
   rw[qO λw c=>h w (Qpq _ c)]
   split
   · rfl
   · have:x≠n:=by rintro rfl;exact h v QBq
     simp[this]
theorem qL{a:Str->Option NameKind}{x:Str}{v:Value}:∀{P:List Str} {vs:List Value} {i:Nat} {m:Str->Option Value},P.Nodup->P[i]?=some x->vs[i]?=some v->a x=some .local→
  bindL a (P.zip vs) m x=some v
 | [],_,_,_,_,h,_,_=>by simp at h
 |_::_,[],_,_,_,_,h,_=>by simp at h
 | p::P,w::vs,0,m,nd,h1,h2,hk=>by
   simp at h1 h2;subst h1;subst h2
   show bindL a ((p,w)::P.zip vs) m p=_
   unfold bindL
   rw[qC λv b=>(List.nodup_cons.mp nd).1 (QeQ b).1,Qhq hk]
   simp
 | p::P,w::vs,i+1,m,nd,h1,h2,hk=>by
   show bindL a ((p,w)::P.zip vs) m x=_
   unfold bindL
   exact qL (i:=i) (List.nodup_cons.mp nd).2 (by simpa using h1) (by simpa using h2) hk
theorem qk{a:Str->Option NameKind}{x:Str}{v:Value}:∀{P:List Str} {vs:List Value} {i:Nat} {m:Str->Option Value},P.Nodup->P[i]?=some x->vs[i]?=some v->a x≠some .local→
  bindC a (P.zip vs) m x=some v
 | [],_,_,_,_,h,_,_=>by simp at h
 |_::_,[],_,_,_,_,h,_=>by simp at h
 | p::P,w::vs,0,m,nd,h1,h2,hk=>by
   simp at h1 h2;subst h1;subst h2
   show bindC a ((p,w)::P.zip vs) m p=_
   unfold bindC
   rw[qO λv b=>(List.nodup_cons.mp nd).1 (QeQ b).1,Quq hk]
   simp
 | p::P,w::vs,i+1,m,nd,h1,h2,hk=>by
   show bindC a ((p,w)::P.zip vs) m x=_
   unfold bindC
   exact qk (i:=i) (List.nodup_cons.mp nd).2 (by simpa using h1) (by simpa using h2) hk
def start(N:List Str)(vs:List V):St:=vs.map some++List.replicate (N.length-vs.length) none
def vd(CX:zo)(P:Program)(w:World)(K:PySem.W.Frag)(mg:Str->Option Value)(base:Heap)(N:List Str)(b:Str)(a:Scope)(f:Addr)(d:Value)(A:Around)(outer:List Env)(s:Shared)(H:Hp)(E:XK):Cx where
 prog:=P
 w:=w
 K:=K
 mg:=mg
 base:=base
 A:=A.deeper (envOfC b a s.heap.objs.size f d)
 N:=N
 s₀:=s
 H₀:=H
 env:=envOfC b a s.heap.objs.size f d
 outer:=outer
 stack:=envOfC b a s.heap.objs.size f d::outer
 ex:= []
 calm:=true
 fn:=λ_=>true
 pn:= []
 xe:=λe g=>wpAny (model P w) (A.deeper (envOfC b a s.heap.objs.size f d)) (leaving (envOfC b a s.heap.objs.size f d) e) (λ_ c=>CX outer H s E e c) (λh c=>CX outer H s E h c) g
def vc{a:Scope}{n:Nat}{x:Str}(h:a.names.lookup x=some .cell):∃c,(cellsFrom n a.names []).lookup x=some c:=by
 have q:=PySem.W.cellsFrom_some a.names n [] (.inl h)
 exact Option.isSome_iff_exists.mp q
def zd{CX:zo}{P:Program}{w:World}{K:PySem.W.Frag}{mg:Str->Option Value}{base:Heap}{N ps:List Str}{g:Str}{d:Scope}{f:Addr}{C:Value}{A:Around}{outer:List Env}{s J:Shared}{H:Hp}{E:XK}{I:List Value}{vs:List V}
  (S:aE N ps d) (hd:A.handled=none) (l:Cj P w K mg base A outer s H) (X:vs.length=ps.length) (r:bf vs I)
  (x:InCallC s s.heap.objs.size (bindL (envOfC g d s.heap.objs.size f C).kindOf (ps.zip I) λ_=>none) (cellsFrom (s.heap.objs.size+1) d.names []) (bindC (envOfC g d s.heap.objs.size f C).kindOf (ps.zip I) λ_=>none) J):
  Inv (vd CX P w K mg base N g d f C A outer s H E) [] (start N vs) H J:=by
 have M:ps.length<=N.length:=by have:=congrArg List.length S.pre;rw[Qxq] at this;omega
 obtain⟨G,U,rfl,hk⟩:=x.done
 have o:∀b:Addr,b∉(vd CX P w K mg base N g d f C A outer s H E).ex:=λb z=>absurd (show b∈([]:List Addr) from z) (by simp)
 refine⟨⟨l.mod,S.kind,rfl,rfl,Qmq _,λy z c G j=> ?_,λy m=> ?_,λy c _ h=> ?_,λ_=>hd,Around.frames_deeper l.frames,.inr ⟨rfl,rfl⟩,λb z=>absurd z (o b),l.bs,l.bsz,λb _ _=>o b,λb z=>absurd z (o b),l.funs,l.frf⟩,
  rfl,l.bare,Un.kept hk,⟨_,x.toInCall.ns,λi y v G j Y=> ?_⟩,λy c h=>⟨_,x.cell y c h⟩,l.hok.fresh (Qmq _),λy c h=> ?_,λp t=>absurd (show p∈([]:List (Addr×Obj)) from t) (by simp),l.hok.kept hk,?_⟩
 ·exact name_of_addr x.apart (PySem.mem_of_lookup G) (PySem.mem_of_lookup j)
 ·have m:d.names.lookup y=some .cell\/d.names.lookup y=some .free:=m
  rcases m with m|m
  ·exact vc m
  ·exact absurd rfl (S.nofree _ (PySem.mem_of_lookup m))
 ·exact nQl (x.above y c (PySem.mem_of_lookup h))
 ·have F:i<vs.length:=by
   unfold start at j
   by_cases F:i<vs.length
   ·exact F
   ·rw[QQq (by simpa using F)] at j
    rw[List.getElem?_replicate] at j
    split at j <;>cases j
  have Q:vs[i]?=some v:=by
   unfold start at j
   rw[QHq (by simpa using F),gQm] at j
   cases e:vs[i]? with
   |none=>rw[e] at j;cases j
   |some a=>rw[e] at j;cases j;rfl
  obtain⟨u,L,R⟩:=r.get Q
  have t:ps[i]?=some y:=by
   rw[←S.pre,List.getElem?_take_of_lt (by omega)];exact G
  have B:ps.Nodup:=by rw[←S.pre];exact S.nd.sublist (List.take_sublist _ _)
  refine⟨u,R,?_⟩
  rcases S.par y (mQg t) with k|k
  ·exact .inl ⟨k,qL B t L k⟩
  ·obtain⟨c,e⟩:=vc (n:=s.heap.objs.size+1) k
   refine .inr ⟨.inl k,c,e,?_⟩
   have q:=x.cell y c e
   rw[qk B t L (by show d.names.lookup y≠_;rw[k];decide)] at q
   exact q
 ·exact l.hok.fresh (nQl (x.above y c (PySem.mem_of_lookup h)))
 ·unfold start
  show _=N.length
  rw[lQa,lQm,QIq]
  omega
def FF{CX:zo}{P:Program}{w:World}{K:PySem.W.Frag}{mg:Str->Option Value}{base:Heap}{k:Nat}{f:Addr}{name c:Str}{g:Arguments}{h:List Stmt}{a:Scope}{dV kV C Y d ct oc:Value}{an od:Option Addr}
  {M:Array (Option Value)} {N ps:List Str} {sp:Sp} (lk:K.lookup f=some ⟨oc,od,.func (PySem.W.fnOf name c g h a dV kV C Y an d ct),M⟩) (R:PySem.W.codeIn K d c=true) (S:aE N ps a)
  (len:∀vs H Q E,sp vs H Q E->vs.length=ps.length)
  (m:∀(A:Around) (outer:List Env) (s:Shared) (H:Hp) (vs:List V) (Q:VK) (E:XK),dC k (A.deeper (envOfC c a s.heap.objs.size f d))->sp vs H Q E→
   ∃t,oS (vd CX P w K mg base N c a f d A outer s H E) h t/\t {nx:=λ_ j=>Q .non j,rt:=Q} (start N vs) H):
  aY P w K mg base CX (k+1) f (PySem.W.fnOf name c g h a dV kV C Y an d ct) ps sp:=by
 refine⟨len,λA outer s H a0 us vs Q E G z hb r F=> ?_⟩
 have hl:=len _ _ _ _ F
 have KX:K.In s.heap:=z.mod.kin.keeps λb o e=>(z.bs b o e).1
 have L:s.heap.NoLimit:=z.mod.nolimit.keeps λb o e=>(z.bs b o e).1
 have l:∀y∈ps.zip us,a.names.lookup y.1=some .local\/(a.names.lookup y.1=some .cell/\((cellsFrom (s.heap.objs.size+1) a.names []).lookup y.1).isSome=true):=λ⟨n,v⟩ hy=>by
  rcases S.par n (QeQ hy).1 with q|q
  ·exact .inl q
  ·exact .inr ⟨q,PySem.W.cellsFrom_some _ _ _ (.inl q)⟩
 refine codeAny_call_function G.depth (KX _ _ lk) rfl S.co S.gen rfl (PySem.W.codeRec_of KX R) (hb _ _ _ _ ?_)
 refine wpAny_newFunctionEnv_cells S.kind l λa1 he Z x=> ?_
 subst he
 refine⟨L.keeps x.toInCall.keep,codeAny_func ?_⟩
 obtain⟨t,ht,hq⟩:=m A outer s H vs Q E (G.deeper _) F
 have I:Inv (vd CX P w K mg base N c a f d A outer s H E) [] (start N vs) H Z:=zd S G.hd z hl r x
 refine QRq (ht [] Z (start N vs) H _ I hq) (λfl U p=> ?_) λe U p=>p
 have B:∀{i:St} {j:Hp} {v:V} {u:Value},Inv (vd CX P w K mg base N c a f d A outer s H E) [] i j U->RelV v u->Q v j->CE outer P w H s Q u U:=
  λ{i j v u} J X q=>⟨v,j,J.os,J.bare,J.base,J.hok,X,q⟩
 cases fl with
 | ret u=>
   obtain⟨v,i,j,J,X,q⟩:=p
   exact B J X q
 | next=>
   obtain⟨i,j,J,q⟩:=p
   exact B (v:=V.non) (u:=Value.none) J rfl q
 | brk=>
   obtain⟨_,_,_,q⟩:=p
   exact False.elim q
 | cont=>
   obtain⟨_,_,_,q⟩:=p
   exact False.elim q
section
variable{X:Cx}{x:Str}{p pos:Pos}{e:Expr}{es:List Expr}{t:TA}{id T:String}{r:List V->Hp->VK->Prop}
def GG(r:List V->Hp->VK->Prop)(t:TA):TE:=λb H Q=>t b H λa H1=>r a H1 Q
def pk(m:jz X (.builtin id) r)(n:Gl X x)(g:X.mg x=none)(k:bootBuiltins x=some (.builtin id))(i:PA X (e::es) t)(f:x≠"__name__":=by decide)(b:(x==("__debug__":Str))=false:=by decide)
  (he:starEach (e::es) X.env=(false,eval e X.env)::starEach es X.env:=by rfl) (hpl:(backTo pos (starEach es X.env)).any (·.1)=false:=by rfl):PE X (.Call (.Name x p) (e::es) [] pos) (GG r t):=by
 intro a s c H Q I h
 refine wpAny_Call_Name_kw (iD I n g k ?_ f b)
 exact PyProof.Rows.callWith_builtin1 (bP (i pos a s c H _ I h) λo l ⟨d,H1,u,j,q⟩=>m a l c H1 d o Q u j q) he hpl
def zm(m:jz X (.type T) r)(n:Gl X x)(g:X.mg x=none)(k:bootBuiltins x=some (.type T))(i:PA X (e::es) t)(f:x≠"__name__":=by decide)(b:(x==("__debug__":Str))=false:=by decide)
  (he:starEach (e::es) X.env=(false,eval e X.env)::starEach es X.env:=by rfl) (hpl:(backTo pos (starEach es X.env)).any (·.1)=false:=by rfl):PE X (.Call (.Name x p) (e::es) [] pos) (GG r t):=by
 intro a s c H Q I h
 refine wpAny_Call_Name_kw (iD I n g k ?_ f b)
 exact PyProof.Rows.callWith_type1 (bP (i pos a s c H _ I h) λo l ⟨d,H1,u,j,q⟩=>m a l c H1 d o Q u j q) he hpl
end
section
variable{κ:Type}[DecidableEq κ]
def l7(a:List (κ×V))(k:κ):Option V:=(a.find? λb=>decide (b.1=k)).map (·.2)
def putK(a:List (κ×V))(k:κ)(v:V):List (κ×V):=
 if (a.any λb=>decide (b.1=k))=true then a.map (λb=>if b.1=k then(b.1,v) else b) else a++ [(k,v)]
def oW{p:κ×V}{r:List (κ×V)}{k:κ}(e:p.1=k):l7 (p::r) k=some p.2:=by simp[l7,List.find?_cons,e]
def oK{p:κ×V}{r:List (κ×V)}{k:κ}(e:¬p.1=k):l7 (p::r) k=l7 r k:=by simp[l7,List.find?_cons,e]
theorem uF(k:κ):∀a:List (κ×V),(a.any λkv=>decide (kv.1=k))=(l7 a k).isSome
 | []=>rfl
 | p::r=>by
   rw[List.any_cons]
   by_cases e:p.1=k
   · simp only[oW e,Qeq e,Bool.true_or,Option.isSome_some]
   · rw[oK e,Qdq e,Bool.false_or];exact uF k r
def fL(a:List (κ×V))(k:κ)(v:V):(putK a k v).length<=a.length+1:=by
 unfold putK
 split
 ·rw[lQm];omega
 ·rw[lQa,Qnq,QGq];omega
def o_.isSome_eq{o:Option V}{u:Option Value}(r:o_ o u):o.isSome=u.isSome:=by
 cases o with
 | none=>cases u with
   |none=>rfl
   |some _=>exact(show False from r).elim
 | some _=>cases u with
   |none=>exact(show False from r).elim
   |some _=>rfl
def KV.val{a:List (κ×V)}{vs:List (κ×Value)}(r:KV a vs)(k:κ):o_ (l7 a k) (valueAt vs k):=by
 unfold KV at r
 induction r with
 |nil=>exact True.intro
 | @cons p q ps qs h t ih=>
   obtain⟨d,f⟩:=h
   by_cases e:p.1=k
   · have c:q.1=k:=d.symm.trans e
     have b:valueAt (q::qs) k=some q.2:=by simp[valueAt,List.find?_cons,c]
     rw[oW e,b];exact f
   · have c:¬q.1=k:=λz=>e (d.trans z)
     have b:valueAt (q::qs) k=valueAt qs k:=by simp[valueAt,List.find?_cons,c]
     rw[oK e,b];exact ih
theorem KV.any{a:List (κ×V)}{vs:List (κ×Value)}(r:KV a vs)(k:κ):(a.any λkv=>decide (kv.1=k))=vs.any λkv=>decide (kv.1=k):=by
 unfold KV at r
 induction r with
 |nil=>rfl
 |cons h t b=>rw[List.any_cons,List.any_cons,b,h.1]
def KV.repl{a:List (κ×V)}{vs:List (κ×Value)}(r:KV a vs)(k:κ){y:V}{u:Value}(c:RelV y u):
  KV (a.map λkv=>if kv.1=k then(kv.1,y) else kv) (vs.map λkv=>if kv.1=k then(kv.1,u) else kv):=by
 unfold KV at r⊢
 induction r with
 |nil=>exact .nil
 | @cons p q ps qs h t ih=>
   rw[QDq,QDq]
   refine .cons ?_ ih
   obtain⟨b,d⟩:=h
   by_cases e:p.1=k
   · rw[Qhq e,Qhq (b.symm.trans e)];exact⟨b,c⟩
   · rw[Quq e,Quq (λz=>e (b.trans z))];exact⟨b,d⟩
def KV.put{a:List (κ×V)}{vs:List (κ×Value)}(r:KV a vs)(k:κ){y:V}{u:Value}(b:RelV y u):KV (putK a k y) (stored vs k u):=by
 unfold putK stored
 rw[r.any k]
 by_cases e:(vs.any λc=>decide (c.1=k))=true
 ·rw[Qhq e,Qhq e];exact r.repl k b
 ·rw[Quq e,Quq e];exact Paired.snoc r ⟨rfl,b⟩
def KV.length{a:List (κ×V)}{vs:List (κ×Value)}(r:KV a vs):a.length=vs.length:=Paired.length r
end
def t_{P:Program}{w:World}{k:Key}{u:Value}(r:RelV (kV k) u):(bg P w).is k u=true:=by
 cases k with
 |inl i=>obtain⟨t,e⟩:=(show∃t,u=Value.int i t from r);subst e;exact tV P w i t
 |inr x=>obtain⟨t,e⟩:=(show∃t,u=Value.str x t from r);subst e;exact ug P w x t
theorem qB{P:Program}{w:World}:∀{a:List Key} {b:List Value},bf (a.map kV) b->ItemsAre (bg P w) a b
 | [],_,r=>by rw[List.map_nil] at r;cases r;exact .nil
 | k::a,_,r=>by
   rw[QDq] at r
   cases r with
   |cons h t=>exact .cons (t_ h) (qB t)
abbrev KT(H:Hp):List (List Key×V)->List (List Key×Addr×Value)->Prop:=Paired λp q=>p.1=q.1/\H q.2.1=some (.tup (p.1.map kV))/\RelV p.2 q.2.2
def KT.val{H:Hp}{a:List (List Key×V)}{xs:List (List Key×Addr×Value)}(r:KT H a xs)(k:List Key):o_ (l7 a k) ((atKey xs k).map (·.2)):=by
 induction r with
 |nil=>exact True.intro
 | @cons p q ps qs h t ih=>
   obtain⟨d,_,f⟩:=h
   by_cases e:p.1=k
   · have c:q.1=k:=d.symm.trans e
     have b:atKey (q::qs) k=some q.2:=by simp[atKey,List.find?_cons,c]
     rw[oW e,b];exact f
   · have c:¬q.1=k:=λz=>e (d.trans z)
     have b:atKey (q::qs) k=atKey qs k:=by simp[atKey,List.find?_cons,c]
     rw[oK e,b];exact ih
def KT.repl{H:Hp}{a:List (List Key×V)}{xs:List (List Key×Addr×Value)}(r:KT H a xs)(k:List Key){y:V}{u:Value}(d:RelV y u):
  KT H (a.map λkv=>if kv.1=k then(kv.1,y) else kv) (xs.map (putAt k u)):=by
 induction r with
 |nil=>exact .nil
 | @cons p q ps qs h t ih=>
   rw[QDq,QDq]
   refine .cons ?_ ih
   obtain⟨b,c,f⟩:=h
   unfold putAt
   by_cases e:p.1=k
   · rw[Qhq e,Qhq (b.symm.trans e)];exact⟨b,c,d⟩
   · rw[Quq e,Quq (λz=>e (b.trans z))];exact⟨b,c,f⟩
def KT.put{H:Hp}{a:List (List Key×V)}{xs:List (List Key×Addr×Value)}(r:KT H a xs)(k:List Key){b:Addr}{y:V}{u:Value}(d:H b=some (.tup (k.map kV)))(c:RelV y u):
  KT H (putK a k y) (storedH xs k b u):=by
 have e:(a.any λf=>decide (f.1=k))=(atKey xs k).isSome:=by
  rw[uF,(r.val k).isSome_eq,Option.isSome_map]
 unfold putK storedH
 rw[e]
 by_cases q:(atKey xs k).isSome=true
 ·rw[Qhq q,Qhq q];exact r.repl k c
 ·rw[Quq q,Quq q];exact Paired.snoc r ⟨rfl,d,c⟩
def KT.keeps{H c:Hp}{a:List (List Key×V)}{xs:List (List Key×Addr×Value)}(r:KT H a xs)(d:∀b ys,H b=some (.tup ys)->c b=some (.tup ys)):KT c a xs:=
 Paired.mapP r λ_ _ z=>⟨z.1,d _ _ z.2.1,z.2.2⟩
section
variable{P:Program}{w:World}{H:Hp}{h:Heap}{a:Addr}
def C0{u:HO}(ok:ki P w H h)(e:Rd H a u):b9 P w H h a u:=e.ok ok
def Av{b:List (Key×V)}(ok:ki P w H h)(e:Rd H a (.dK b)):b.length<=sizeLine/\(a==sysModules)=false/\∃vs,KV b vs/\h.DictOf (bg P w) a vs:=
 show b9 P w H h a (.dK b) from C0 ok e
def xX{b:List (Key×V)}(ok:ki P w H h)(e:H a=some (.dK b)):b.length<=sizeLine/\(a==sysModules)=false/\∃vs,KV b vs/\h.DictOf (bg P w) a vs:=Av ok (.inl e)
def wH{c:List Key}(ok:ki P w H h)(e:H a=some (.tup (c.map kV))):(tupleKind (bg P w)).is h c a:=by
 obtain⟨_,b,r,o,d,f,_,n,g⟩:=(show b9 P w H h a (.tup (c.map kV)) from ok a _ e)
 exact⟨o,b.toArray,n,d,f,g,by simpa using qB r⟩
def zz{b:List (List Key×V)}(ok:ki P w H h)(e:Rd H a (.dT b)):b.length<=sizeLine/\(a==sysModules)=false∧
  ∃xs,KT H b xs/\h.DictOfH (tupleKind (bg P w)) a xs:=by
 obtain⟨z,y,xs,r,o,k,n,g,f,i,s,j⟩:=(show b9 P w H h a (.dT b) from C0 ok e)
 refine⟨z,y,xs,r,o,k,n,g,f,i,s,λx c=> ?_,j⟩
 have d:∀{l:List (List Key×V)} {m:List (List Key×Addr×Value)},KT H l m->∀x∈m,(tupleKind (bg P w)).is h x.1 x.2.1:=by
  intro l m q
  induction q with
  |nil=>intro x c;exact nomatch c
  | @cons p q ps qs hq t ih=>
    intro x c
    rcases Qsq.mp c with e|c
    · subst e
      exact wH ok (by rw[←hq.1];exact hq.2.1)
    · exact ih x c
 exact d r x c
def Fq{b:List (List Key×V)}(ok:ki P w H h)(e:H a=some (.dT b)):b.length<=sizeLine/\(a==sysModules)=false∧
  ∃xs,KT H b xs/\h.DictOfH (tupleKind (bg P w)) a xs:=zz ok (.inl e)
end
def yy(H:Hp)(a:Addr)(y:V)(r:Option V):Prop:=
 (∃c k,Rd H a (.dK c)/\y=kV k/\r=l7 c k)\/∃c k b,Rd H a (.dT c)/\y=.ref b/\H b=some (.tup (k.map kV))/\r=l7 c k
def AZ(H:Hp)(a:Addr)(y v:V)(d:Hp):Prop:=
 (∃c k,H a=some (.dK c)/\y=kV k/\c.length<sizeLine/\d=upd H a (.dK (putK c k v)))∨
 ∃c k b,H a=some (.dT c)/\y=.ref b/\H b=some (.tup (k.map kV))/\c.length<sizeLine/\d=upd H a (.dT (putK c k v))
def yy.k{H:Hp}{a:Addr}{b:List (Key×V)}{k:Key}(e:H a=some (.dK b)):yy H a (kV k) (l7 b k):=.inl ⟨b,k,.inl e,rfl,rfl⟩
def AZ.k{H:Hp}{a:Addr}{b:List (Key×V)}{k:Key}{v:V}(e:H a=some (.dK b))(c:b.length<sizeLine):AZ H a (kV k) v (upd H a (.dK (putK b k v))):=.inl ⟨b,k,e,rfl,c,rfl⟩
section
variable{X:Cx}{pins:List (Addr×Obj)}{σ:St}{H:Hp}{s:Shared}{a:Addr}{y v:V}{u r:Value}{o:Option V}{A:Around}{E:Value->Shared->Prop}
def Inv.big(I:Inv X pins σ H s):sysModules<s.heap.objs.size:=by
 have h:mainGlobals<s.heap.objs.size:=(I.mod.glob.keeps I.bk).lt
 exact Nat.lt_trans (by decide) h
def yb{Q:Value->Shared->Prop}(J:A.units+1<cLine)(I:Inv X pins σ H s)(g:yy H a y (some v))(x:RelV y u)(h:∀f t,Inv X pins σ H t->RelV v f->Q f t):
  wpAny (model X.prog X.w) A (getItem (.ref a) u) Q E s:=by
 rcases g with⟨q,k,e,i,l⟩|⟨q,k,b,e,i,K,l⟩
 ·subst i
  obtain⟨z,F,B,d,m⟩:=Av I.hok e
  obtain⟨f,j,c⟩:=o_.some_of (v:=v) (o:=valueAt B k) (by rw[l];exact d.val k)
  exact wpAny_getItem_of (t_ x) m.mapOf j (h f _ (I.tok _) c)
 ·subst i
  cases (show u=Value.ref b from x)
  obtain⟨z,F,G,d,m⟩:=zz I.hok e
  obtain⟨f,j,c⟩:=o_.some_of (v:=v) (o:=(atKey G k).map (·.2)) (by rw[l];exact d.val k)
  obtain⟨p,C,n⟩:=oQm.mp j
  refine wpAny_getItem_heap (tupleKind_room_in1 J) (wH I.hok K) m C ?_
  rw[n]
  exact h f _ (I.tok _) c
def ni{h':Heap}{t':Nat}{c:HO}(I:Inv X pins σ H s)(f:Gp (H a))(g:Heap.SameBut a s.heap h')(he:∃q,h'.get? a=some q)(new:b9 X.prog X.w (upd H a c) h' a c):
  Inv X pins σ (upd H a c) {s with heap:=h',toks:=t'}:=
 I.write (x:=a) (e:=a) f (.inl rfl) (λb q d z=>(g.2 b d).trans z) he new
def oH{P:Program}{w:World}{e:Hp}{h':Heap}{b:List (Key×V)}{vs:List (Key×Value)}(z:b.length<=sizeLine)(hd:(a==sysModules)=false)(c:KV b vs)(d:h'.DictOf (bg P w) a vs):
  b9 P w e h' a (.dK b):=⟨z,hd,vs,c,d⟩
def zf{N:Hp}{Q:Unit->Shared->Prop}(U:A.units+1<cLine)(I:Inv X pins σ H s)(g:AZ H a y v N)(L:RelV y u)(K:RelV v r)(h:∀J,Inv X pins σ N J->Q () J):
  wpAny (model X.prog X.w) A (setItem (.ref a) u r) Q E s:=by
 rcases g with⟨f,k,e,m,l,C⟩|⟨f,k,b,e,m,M,l,C⟩
 ·subst m C
  obtain⟨z,t,P,d,n⟩:=xX I.hok e
  have B:P.length<=sizeLine:=by rw[←d.length];exact z
  have x:(putK f k v).length<=sizeLine:=by have:=fL f k v;omega
  refine wpAny_setItem_pairs (hsz:=B) (t_ L) n λF i p=>h _ ?_
  have he:∃q,F.get? a=some q:=let ⟨q,_,_,j,_⟩:=i;⟨q,j⟩
  exact ni I (by rw[e];exact True.intro) p he (oH x t (d.put k K) i)
 ·subst m C
  cases (show u=Value.ref b from L)
  obtain⟨z,t,R,d,n⟩:=Fq I.hok e
  have B:R.length<=sizeLine:=by rw[←Paired.length d];exact z
  have x:(putK f k v).length<=sizeLine:=by have:=fL f k v;omega
  refine wpAny_setItem_heap (hsz:=B) (tupleKind_room_in1 U) (wH I.hok M) n λF i p=>h _ ?_
  obtain⟨q,Z,ep,j,S,W,h4,_,Y⟩:=i
  refine ni I (by rw[e];exact True.intro) p ⟨q,j⟩ ⟨x,t,_,(d.put k M K).keeps λc ys G=> ?_,q,Z,ep,j,S,W,h4,Y⟩
  rw[aO (A6 G e (λz=>nomatch z))]
  exact G
end
def B3(i:Expr):Prop:=∀b a,subscripted i false b a=operate [b,a] (getItem b a)
def x9{prog:Program}{w:World}{A:Around}{E:Value->Shared->Prop}{s:Shared}{env:Env}{b a:Expr}{pos:Pos}{T id:String}{Q:Value->Shared->Prop}
  (n:typeLookup (.type T) "__getitem__"=pure (some (.builtin id))) (m:B3 a)
  (h:wpAny (model prog w) A (eval b env) (λo f=>wpAny (model prog w) A (eval a env) (λi c=>c.TypeIs o T/\wpAny (model prog w) A (getItem o i) Q E c) E f) E s):
  wpAny (model prog w) A (eval (.Subscript b a pos) env) Q E s:=by
 refine Subscript_ (QRq h (λo f j=>QRq j (λi c d=> ?_) λ_ _ x=>x) λ_ _ x=>x)
 obtain⟨l,d⟩:=d
 unfold subscriptTail
 refine Qaq ?_
 rw[getitemInPython_of_ne l.not_modules]
 refine Qaq (wpAny_specialOf l n ?_)
 have g:wpAny (model prog w) A (subscripted a false o i) (λr e=>wpAny (model prog w) A (letTemporaryGo b o r >>= λ_=>pure r) Q E e) E c:=by
  rw[m o i]
  exact wpAny_operating (QRq d (λr e k=>Qaq (wpAny_letTemporaryGo (Qgq k))) λ_ _ x=>x)
 first
  |exact Qgq (Qaq g)
  |exact Qaq (Qgq (Qaq g))
  |exact Qaq g
def u_{X:Cx}{c:List (Addr×Obj)}{h:St}{H:Hp}{s:Shared}{a:Addr}{y:V}{o:Option V}(I:Inv X c h H s)(g:yy H a y o):s.TypeIs (.ref a) "dict":=by
 rcases g with⟨d,k,e,_,_⟩|⟨d,k,b,e,_,_,_⟩
 ·obtain⟨_,_,j,_,f⟩:=Av I.hok e
  exact f.typeIs
 ·obtain⟨_,_,i,_,f⟩:=zz I.hok e
  exact f.typeIs
def Gb(c d:TE):TE:=λb H Q=>c b H λx H1=>d b H1 λy H2=>∃a v,x=.ref a/\yy H2 a y (some v)/\Q v H2
def F8(c d e:TE):TS:=λD b H=>e b H λv H1=>c b H1 λx H2=>d b H2 λy H3=>∃a H4,x=.ref a/\AZ H3 a y v H4/\D.nx b H4
section
variable{X:Cx}{o i e value:Expr}{pos pos' tpos:Pos}{td ty tv:TE}
def CA(q:X.A.units+1<cLine)(j:PE X o td)(hi:PE X i ty)(k:B3 i):PE X (.Subscript o i pos) (Gb td ty):=by
 intro b s f H Q I h
 refine x9 PySem.F.slot_dict_getitem.lookup k (bP (j b s f H _ I h) λu n ⟨x,H1,B,l,w⟩=>bP (hi b n f H1 _ B w) λJ C r=> ?_)
 obtain⟨y,H2,d,t,a,v,p,g,z⟩:=r
 subst p
 obtain rfl:u=Value.ref a:=l
 exact⟨u_ d g,yb q d g t λG K m c=>⟨v,H2,m,c,z⟩⟩
def CJ(w:X.A.units+1<cLine)(d:PE X o td)(hi:PE X i ty)(n:PE X value tv)(f:swapsWith value (some (.Subscript o i pos')) pos.line X.env=pure false):
  PS X (.Assign [.Subscript o i pos'] value pos) (F8 td ty tv):=by
 intro b s c H D I h
 refine wpAny_Assign_Subscript (bP (n b s c H _ I h) λr p ⟨v,H1,G,z,C⟩=>bP (d b p c H1 _ G C) λu k ⟨x,H2,l,j,F⟩=>bP (hi b k c H2 _ l F) λL M ⟨y,H3,m,B,a,H4,q,g,t⟩=> ?_) f
 subst q
 obtain rfl:u=Value.ref a:=j
 exact zf w m g B z λK J=>⟨c,H4,J,t⟩
end
def Az{P:Program}{w:World}{H:Hp}(h:Heap)(a:sysModules<h.objs.size):b9 P w H (h.push {cls:=.type "dict",data:=.dict #[]}) h.objs.size (.dK []):=
 ⟨Nat.zero_le _,beq_eq_false_iff_ne.mpr (Ne.symm (Qwq a)),[],.nil,Heap.DictOf.new h⟩
def Ey:TE:=λ_ H Q=>∀p,H p=none->Q (.ref p) (upd H p (.dK []))
section
variable{X:Cx}{pos:Pos}
def zY:PE X (.Dict [] [] pos) Ey:=λb s c H Q I h=>
 wpAny_Dict_empty ⟨.ref s.heap.objs.size,_,I.laid (a:=s.heap.objs.size) (o:=.dK []) (t':=s.toks) (λ_ _ q=>Qcq _ q) (Qmq _) (Az s.heap I.big),rfl,h _ (I.hok.fresh (Qmq _))⟩
end
def g_(a more:List (Key×V)):List (Key×V):=more.foldl (λb c=>putK b c.1 c.2) a
def KV.merge:∀{more:List (Key×V)} {b:List (Key×Value)} {a:List (Key×V)} {vs:List (Key×Value)},KV more b->KV a vs->KV (g_ a more) (merged vs b):=by
 intro more b a vs r
 unfold KV at r
 induction r generalizing a vs with
 |nil=>intro q;exact q
 | @cons p q ps qs h t ih=>
   intro c
   have e:KV (putK a p.1 p.2) (stored vs q.1 q.2):=by
     have:=c.put p.1 h.2
     rw[←h.1];exact this
   exact ih e
theorem fZ:∀(more a:List (Key×V)),(g_ a more).length<=a.length+more.length
 | [],a=>by show a.length<=a.length+0;omega
 | p::r,a=>by
   have b:=fZ r (putK a p.1 p.2)
   have c:=fL a p.1 p.2
   show(g_ (putK a p.1 p.2) r).length<=_
   rw[Qnq];omega
end L2
namespace HT
open PySem PyProof.Rows
section
open PySem.SeqAt
open PySem.AutoSeq1 (wpAny_loadPart')
open PySem.MeetsSeq PySem.MeetsSeq2 PySem.MeetsSeq3
end
section
variable{prog:Program}{w:World}{A:Around}{E:Value->Shared->Prop}{s:Shared}
def CG{t b:Addr}{vs ws:List Value}{Q:Value->Shared->Prop}(y:IsTup s.heap t vs.toArray)(u:IsTup s.heap b ws.toArray)(o:vs≠[])
  (x:ws= []->Q (.ref t) s) (v:ws≠[]->Q (.ref s.heap.objs.size) {s with heap:=s.heap.push {cls:=.type "tuple",data:=.seq (vs++ws).toArray}})
  (hsz:vs.length+ws.length<=sizeLine):wpAny (model prog w) A (binaryOp .Add (.ref t) (.ref b)) Q E s:=by
 obtain⟨⟨cls,k,data,l⟩,i,p,n,m⟩:=id y
 obtain⟨⟨r,c,j,f⟩,a,g,q,d⟩:=id u
 simp only at p m g d
 subst p m g d
 have e:vs.toArray++ws.toArray=(vs++ws).toArray:=by simp
 by_cases h:ws= []
 ·exact concat_meets ⟨_,i,rfl⟩ ⟨_,a,rfl⟩ noFill_tuple_add seq_tuple_add PySem.F.slot_tuple_add PySem.F.entry_tuple_add (PySem.F.args_tuple_add_2 _ _)
   (tuple_addW1 t b vs.toArray ws.toArray n q k c l f (by simpa using o) (by simp[h])) ⟨i,a,x h⟩
 ·refine concat_meets ⟨_,i,rfl⟩ ⟨_,a,rfl⟩ noFill_tuple_add seq_tuple_add PySem.F.slot_tuple_add PySem.F.entry_tuple_add (PySem.F.args_tuple_add_2 _ _)
   (tuple_addW2 t b vs.toArray ws.toArray n q k c l f (by simpa using o) (by simpa using h) (by rw[Qjq,Qjq];exact hsz)) ⟨i,a,?_⟩
  rw[e]
  exact v h
def dk(n d:Nat):Option Int->Nat
 |none=>d
 |some v=>if v<0 then(v+(n:Int)).toNat else min v.toNat n
def oX(n d:Nat):dk n d none=d:=rfl
def wX(n d k:Nat):dk n d (some (k:Int))=min k n:=by
 show(if (k:Int)<0 then((k:Int)+(n:Int)).toNat else min (k:Int).toNat n)=min k n
 rw[Quq (by omega),Int.toNat_natCast]
def Er(n d:Nat)(hd:d<=n)(o:Option Int):dk n d o<=n:=by
 cases o with
 |none=>exact hd
 | some v=>
   show(if v<0 then(v+(n:Int)).toNat else min v.toNat n)<=n
   by_cases a:v<0
   · rw[Qhq a];omega
   · rw[Quq a];exact Nat.min_le_right _ _
def w5(v:Int)(n d:Nat):(if v<0 then max (v+(n:Int)) 0 else min v (n:Int))=((dk n d (some v):Nat):Int):=by
 show(if v<0 then max (v+(n:Int)) 0 else min v (n:Int))=(((if v<0 then(v+(n:Int)).toNat else min v.toNat n):Nat):Int)
 by_cases a:v<0
 ·simp only[Qhq a];omega
 ·simp only[Quq a];omega
def vU(lo hi:Option Int)(n:Nat):Builtin.Slice.sliceAdjust lo hi 1 (n:Int)=(((dk n 0 lo:Nat):Int),((dk n n hi:Nat):Int)):=by
 have a:¬((1:Int)<0):=by omega
 unfold Builtin.Slice.sliceAdjust
 simp only[a,if_false]
 refine Prod.ext ?_ ?_
 ·cases lo with
  |none=>rfl
  |some v=>exact w5 v n 0
 ·cases hi with
  |none=>rfl
  |some v=>exact w5 v n n
def wq(i j:Nat):Builtin.Slice.slicePlaces (i:Int) (j:Int) 1=j-i:=by
 unfold Builtin.Slice.slicePlaces
 have a:(1:Int)>0:=by omega
 simp only[a,if_true,Int.ediv_one]
 split <;>omega
def pB{v:Value}{o:Option Int}{Q:Option Int->Shared->Prop}(p:IsPart v o)(h:Q o s):wpAny (model prog w) A (Builtin.Slice.slicePartIndex v) Q E s:=by
 cases p with
 |none=>exact slicePart_none h
 |int i t=>exact slicePart_int h
def gh{e:Addr}{c d:Value}{lo hi:Option Int}{n:Nat}{Q:Int×Int×Nat->Shared->Prop}(j:s.heap.IsSliceOf e c d .none)(i:IsPart c lo)(f:IsPart d hi)
  (h:Q (((dk n 0 lo:Nat):Int),1,dk n n hi-dk n 0 lo) s):wpAny (model prog w) A (Builtin.Slice.sliceApplied (.ref e) (pure (n:Int))) Q E s:=by
 obtain⟨k,b,g,a⟩:=id j
 unfold Builtin.Slice.sliceApplied Builtin.Slice.sliceFields
 refine Qaq (Qaq (QMq b a (x:=c) rfl (Qaq (QMq b a (x:=d) rfl (Qaq (QMq b a (x:=.none) rfl (Qgq ?_)))))))
 refine Qaq (slicePart_none ?_)
 show wpAny _ _ (if ((1:Int)==0)=true then _ else _) _ _ s
 rw[Quq (by decide)]
 refine Qaq (pB i (Qaq (pB f (Qaq (Qgq ?_)))))
 show wpAny _ _ (match Builtin.Slice.sliceAdjust lo hi 1 (n:Int) with|(lo,hi)=>pure (lo,(1:Int),Builtin.Slice.slicePlaces lo hi 1)) _ _ s
 rw[vU lo hi n]
 show wpAny _ _ (pure (((dk n 0 lo:Nat):Int),(1:Int),Builtin.Slice.slicePlaces ((dk n 0 lo:Nat):Int) ((dk n n hi:Nat):Int) 1)) _ _ s
 rw[wq]
 exact Qgq h
def Am(xs:Array Value)(i k:Nat):((List.range k).filterMap λ(m:Nat)=>xs[((i:Int)+(m:Int)*1).toNat]?).toArray=((xs.toList.drop i).take k).toArray:=by
 have e:(λ(m:Nat)=>xs[((i:Int)+(m:Int)*1).toNat]?)=λm=>xs[i+m]? :=by
  funext m
  have:((i:Int)+(m:Int)*1).toNat=i+m:=by omega
  rw[this]
 rw[e]
 have:=pick_run xs i k
 rw[List.filterMap_map] at this
 have a:((λx=>xs[x]?)∘λx=>i+x)=λm=>xs[i+m]? :=rfl
 rw[a] at this
 rw[this]
def kI{t d:Addr}{items:Array Value}{i j:Value}{lo hi:Option Int}{Q:Value->Shared->Prop}(b:IsTup s.heap t items)(k:s.heap.IsSliceOf d i j .none)(n:IsPart i lo)(r:IsPart j hi)
  (l:¬(dk items.size 0 lo=0/\dk items.size items.size hi=items.size))
  (h:Q (.ref s.heap.objs.size) {s with heap:=s.heap.push {cls:=.type "tuple",data:=.seq ((items.toList.drop (dk items.size 0 lo)).take (dk items.size items.size hi-dk items.size 0 lo)).toArray}})
  (hsz:items.size<=sizeLine):wpAny (model prog w) A (getItem (.ref t) (.ref d)) Q E s:=by
 have a:sizeOk (.seq ((items.toList.drop (dk items.size 0 lo)).take (dk items.size items.size hi-dk items.size 0 lo)).toArray):=by
  show((items.toList.drop (dk items.size 0 lo)).take (dk items.size items.size hi-dk items.size 0 lo)).toArray.size<=sizeLine
  rw[Qjq,Qxq,List.length_drop,Array.length_toList]
  omega
 have u:dk items.size items.size hi<=items.size:=Er _ _ (Qmq _) hi
 obtain⟨p,g,e,o⟩:=id k
 have c:s.TypeIs (.ref d) "slice":=⟨p,g,e⟩
 unfold getItem
 try with_reducible refine QLq ?_
 first|refine Qaq (Qgq ?_)|skip
 refine Qaq (wpAny_sequenceKey b.typeIs (by decide) ?_)
 refine Qaq (QiQ (name:=Str.ofString "__getitem__") b.typeIs PyProof.Rows.slot_tuple_getitem
  (wpAny_call_entry PyProof.Rows.slot_tuple_getitem b.typeIs entry_tuple_getitem ?_ (args_tuple_getitem _ _)))
 show wpAny _ _ (Builtin.Tuple.tupleItemsOf (.ref t) >>= _) _ _ s
 refine Qaq (tupleItemsOf_ b ?_)
 refine Qaq (wpAny_typeOf c ?_)
 rw[Qhq (by decide)]
 refine Qaq (gh k n r ?_)
 have f:¬((((dk items.size 0 lo:Nat):Int)==0&&(1:Int)==1&&(dk items.size items.size hi-dk items.size 0 lo)==items.size)=true):=by
  intro q
  rw[QCq,QCq] at q
  have v:((dk items.size 0 lo:Nat):Int)=0:=eq_of_beq q.1.1
  have x:dk items.size items.size hi-dk items.size 0 lo=items.size:=eq_of_beq q.2
  exact l ⟨by omega,by omega⟩
 show wpAny _ _ (if (((dk items.size 0 lo:Nat):Int)==0&&(1:Int)==1&&(dk items.size items.size hi-dk items.size 0 lo)==items.size)=true then _ else _) _ _ s
 rw[Quq f,Am]
 first
  |exact Qaq (m:=Builtin.Tuple.tupleExact _) (QhQ (Qgq ⟨_,rfl,Qgq h⟩) a)
  |exact Qaq (m:=Builtin.Tuple.tupleExact _) (QhQ (Qaq (Qgq (Qgq ⟨_,rfl,Qgq h⟩))) a)
  |exact Qaq (Qaq (m:=Builtin.Tuple.tupleExact _) (QhQ (Qgq (Qgq ⟨_,rfl,Qgq h⟩)) a))
  |exact Qaq (Qaq (m:=Builtin.Tuple.tupleExact _) (QhQ (Qgq ⟨_,rfl,Qgq h⟩) a))
end
end HT
namespace L2
open PySem PySem.Spec PyProof.Rows
abbrev TO:=St->Hp->(Option Int->Hp->Prop)->Prop
def PO(X:Cx)(e:Option Expr)(t:TO):Prop:=
 ∀ (a:List (Addr×Obj)) (s:Shared) (b:St) (H:Hp) (Q:Option Int->Hp->Prop),Inv X a b H s->t b H Q→
   wpAny (model X.prog X.w) X.A (evalPart e X.env) (λu d=>∃o c,Inv X a b c d/\IsPart u o/\Q o c) X.xe s
def CI:TO:=λ_ H Q=>Q none H
def Fu(t:TE):TO:=λa H Q=>t a H λx H1=>∃i,x=.int i/\Q (some i) H1
section
variable{X:Cx}{e:Expr}{te:TE}{lo hi:Option Expr}{tl th:TO}{pos p2:Pos}
def BN:PO X none CI:=by
 intro a s b H Q I h
 rw[evalPart_none]
 exact Qgq ⟨none,H,I,.none,h⟩
def BZ(h:PE X e te):PO X (some e) (Fu te):=by
 intro a s g H Q I c
 rw[evalPart_some]
 refine bP (h a s g H _ I c) λu k j=> ?_
 obtain⟨x,H1,f,d,b⟩:=j
 obtain⟨i,rfl,q⟩:=b
 obtain⟨t,rfl⟩:=d
 exact⟨some i,H1,f,.int i t,q⟩
def Iv(X:Cx)(r:V->Option Int->Option Int->Hp->VK->Prop):Prop:=
 ∀ (a:List (Addr×Obj)) (s:Shared) (c:St) (H:Hp) (x:V) (v b f:Value) (lo hi:Option Int) (d:Addr) (Q:VK),Inv X a c H s->RelV x v->s.heap.IsSliceOf d b f .none->IsPart b lo->IsPart f hi->r x lo hi H Q→
   ∃T id,typeLookup (.type T) "__getitem__"=pure (some (.builtin id))/\s.TypeIs v T/\wpAny (model X.prog X.w) X.A (getItem v (.ref d)) (EP X a c Q) X.xe s
def JR(r:V->Option Int->Option Int->Hp->VK->Prop)(te:TE)(tl th:TO):TE:=λa H Q=>te a H λx H1=>tl a H1 λl H2=>th a H2 λu H3=>r x l u H3 Q
def AR{r:V->Option Int->Option Int->Hp->VK->Prop}(k:Iv X r)(he:PE X e te)(B:PO X lo tl)(z:PO X hi th):PE X (.Subscript e (.Slice lo hi none p2) pos) (JR r te tl th):=by
 intro a s d H Q I h
 refine Subscript_ (bP (he a s d H _ I h) λv t i=> ?_)
 obtain⟨x,H1,J,m,C⟩:=i
 refine wpAny_Slice (bP (B a t d H1 _ J C) λf n ⟨l,H2,o,j,F⟩=>bP (z a n d H2 _ o F) λg c i=> ?_)
 obtain⟨u,H3,p,G,y⟩:=i
 rw[evalPart_none]
 refine Qgq ?_
 have K:Inv X a d H3 {c with heap:=c.heap.push {cls:=.type "slice",data:=.fields #[f,g,.none]}}:=p.kept (t':=c.toks) λb L q=>Qcq _ q
 obtain⟨T,id,hT,ht,hg⟩:=k a {c with heap:=c.heap.push {cls:=.type "slice",data:=.fields #[f,g,.none]}} d H3 x v f g l u c.heap.objs.size Q K m (Heap.IsSliceOf.new ..) j G y
 show wpAny (model X.prog X.w) X.A (subscriptTail e (.Slice lo hi none p2) v (.ref c.heap.objs.size)) (EP X a d Q) X.xe {c with heap:=c.heap.push {cls:=.type "slice",data:=.fields #[f,g,.none]}}
 exact tail_any (ops:= [.ref c.heap.objs.size,v]) ht hT hg (by with_unfolding_all rfl)
def vn(xs:List V)(lo hi:Option Int):List V:=(xs.drop (HT.dk xs.length 0 lo)).take (HT.dk xs.length xs.length hi-HT.dk xs.length 0 lo)
def uq(xs:List V)(lo hi:Option Int):(vn xs lo hi).length<=xs.length:=by
 unfold vn
 rw[Qxq,List.length_drop]
 omega
def HE(K:PySem.W.Frag):V->Option Int->Option Int->Hp->VK->Prop:=λx lo hi H Q=>∃a b,x=.ref a/\fe K H a b∧
 ¬(HT.dk b.length 0 lo=0/\HT.dk b.length b.length hi=b.length)/\∀p,H p=none->Q (.ref p) (upd H p (.tup (vn b lo hi)))
def DF:Iv X (HE X.K):=by
 intro j s y H x v p u lo hi t Q I m l k n h
 obtain⟨a,d,rfl,hx,hw,q⟩:=h
 cases m
 obtain⟨f,r,i,g⟩:=I.tuple hx
 have c:f.toArray.size=d.length:=by rw[Qjq];exact r.length.symm
 refine⟨"tuple",_,PyProof.Rows.slot_tuple_getitem.lookup,i.typeIs,?_⟩
 refine HT.kI i l k n (by rw[c];exact hw) ?_ (by rw[c];exact g)
 rw[c]
 refine⟨.ref s.heap.objs.size,_,I.laid (t':=s.toks) (o:=.tup (vn d lo hi)) (λb w q=>Qcq _ q) (Qmq _) ?_,rfl,q _ (I.hok.fresh (Qmq _))⟩
 exact⟨QAq (uq d lo hi) g,_,(r.drop (HT.dk d.length 0 lo)).take (HT.dk d.length d.length hi-HT.dk d.length 0 lo),p8.new _ _⟩
def CO(K:PySem.W.Frag):R2:=λx y H Q=>∃a b d c,x=.ref a/\y=.ref b/\fe K H a d/\fe K H b c/\d≠[]/\d.length+c.length<=sizeLine∧
 (c= []->Q (.ref a) H)/\(c≠[]->∀p,H p=none->Q (.ref p) (upd H p (.tup (d++c))))
def bf.nil_iff{xs:List V}{a:List Value}(r:bf xs a):a= []↔xs= []:=by
 cases r with
 |nil=>simp
 |cons _ _=>simp
def Bq:ip X (binaryOp .Add) (CO X.K):=by
 intro g s r H x y v u Q I j m h
 obtain⟨a,b,l,i,rfl,rfl,ha,hb,hx,hz,q1,q2⟩:=h
 cases j
 cases m
 obtain⟨n,d,k,_⟩:=I.tuple ha
 obtain⟨f,c,p2,_⟩:=I.tuple hb
 refine HT.CG k p2 (λz=>hx (d.nil_iff.mp z)) (λz=>⟨.ref a,H,I,rfl,q1 (c.nil_iff.mp z)⟩) (λz=> ?_) (by rw[←d.length,←c.length];exact hz)
 refine⟨.ref s.heap.objs.size,_,I.laid (t':=s.toks) (o:=.tup (l++i)) (λb p q=>Qcq _ q) (Qmq _) ?_,rfl,q2 (λw=>z (c.nil_iff.mpr w)) _ (I.hok.fresh (Qmq _))⟩
 exact⟨by rw[lQa];exact hz,_,d.append c,p8.new _ _⟩
end
def yC(n:Nat)(i:Int):Option Nat:=if 0<=i then(if i<n then some i.toNat else none) else if -(n:Int)<=i then some (i+n).toNat else none
def lM{α:Type}(xs:List α)(i:Int):Option α:=(yC xs.length i).bind λj=>xs[j]?
def rp{n:Nat}{i:Int}{j:Nat}(h:yC n i=some j):seqIndex? i n=some j/\j<n/\ -(n:Int)<=i/\i<n:=by
 unfold yC at h
 by_cases b:0<=i
 ·rw[Qhq b] at h
  by_cases a:i<n
  ·rw[Qhq a] at h
   have e:i.toNat=j:=QdQ h
   exact⟨by rw[seqIndex_of b a,e],by omega,by omega,a⟩
  ·rw[Quq a] at h;cases h
 ·rw[Quq b] at h
  by_cases a: -(n:Int)<=i
  ·rw[Qhq a] at h
   have e:(i+n).toNat=j:=QdQ h
   exact⟨by rw[seqIndex_neg (by omega) a,e],by omega,a,by omega⟩
  ·rw[Quq a] at h;cases h
def sN{α:Type}{xs:List α}{i:Int}{v:α}(h:lM xs i=some v):∃j,seqIndex? i xs.length=some j/\xs[j]?=some v/\j<xs.length/\ -(xs.length:Int)<=i/\i<xs.length:=by
 unfold lM at h
 cases e:yC xs.length i with
 |none=>rw[e] at h;cases h
 | some j=>
   rw[e] at h
   obtain⟨a,d,b,c⟩:=rp e
   exact⟨j,a,h,d,b,c⟩
def x_(b:Expr):Prop:=∀o i,subscripted b false o i=operate [o,i] (getItem o i)
def Cm(X:Cx)(r:R2):Prop:=
 ∀ (c a:Expr) (b:List (Addr×Obj)) (s:Shared) (d:St) (H:Hp) (x y:V) (v u:Value) (Q:VK),Inv X b d H s->RelV x v->RelV y u->r x y H Q→
   subscripted a false v u=operate [v,u] (getItem v u)->wpAny (model X.prog X.w) X.A (subscriptTail c a v u) (EP X b d Q) X.xe s
def G8(X:Cx)(id:String)(r:V->List V->Hp->VK->Prop):Prop:=
 ∀ (a:List (Addr×Obj)) (s:Shared) (b:St) (H:Hp) (x:V) (d:List V) (v:Value) (c:List Value) (Q:VK),Inv X a b H s->RelV x v->bf d c->r x d H Q→
   wpAny (model X.prog X.w) X.A (call (.builtin id) (v::c)) (EP X a b Q) X.xe s
section
variable{X:Cx}{a b:Expr}{ta tb:TE}{pos:Pos}
def Cm.or{r i:R2}(h:Cm X r)(h':Cm X i):Cm X (λx y H Q=>r x y H Q\/i x y H Q):=by
 intro c d e s k H x y v u Q I g j q f
 rcases q with q|q
 ·exact h c d e s k H x y v u Q I g j q f
 ·exact h' c d e s k H x y v u Q I g j q f
def Gc{r:R2}(d:Cm X r)(g:PE X a ta)(f:PE X b tb)(e:x_ b):PE X (.Subscript a b pos) (BQ r ta tb):=by
 intro c s m H Q I h
 exact Subscript_ (DT g f I h λv u j x y H2 k i l q=>d a b c j m H2 x y v u Q k i l q (e _ _))
def FY(K:PySem.W.Frag):R2:=λx y H Q=>∃p c i v,x=.ref p/\y=.int i/\gc K H p c/\lM c i=some v/\Q v H
def FC(K:PySem.W.Frag):R2:=λx y H Q=>∃p c i v,x=.ref p/\y=.int i/\fe K H p c/\lM c i=some v/\Q v H
def FK:R2:=λx y H Q=>∃z i c,x=.str z/\y=.int i/\z.length<=sizeLine/\lM z.cps.toList i=some c/\Q (.str ⟨#[c]⟩) H
def Cd:Cm X (FY X.K):=by
 intro k m c s C H x y v u Q I F N h o
 obtain⟨p,S,i,z,rfl,rfl,hq,he,q⟩:=h
 cases F
 obtain⟨t,rfl⟩:=N
 obtain⟨n,r,g,W⟩:=I.list hq
 obtain⟨j,e,G,U,P,M⟩:=sN he
 obtain⟨w,B,f⟩:=r.get G
 have L:=r.length
 have R:=iz
 have d:EP X c C Q w s:=⟨z,H,I,f,q⟩
 by_cases A:0<=i
 ·have l:i.toNat=j:=by
   rw[seqIndex_of A M] at e
   exact QdQ e
  exact item_listR g.isList A (by omega) (by rw[l];simpa using B) d o
 ·have l:(i+(n.toArray.size:Int)).toNat=j:=by
   rw[seqIndex_neg (by omega) P] at e
   rw[Qjq,←L]
   exact QdQ e
  exact subscriptTail_builtinR (x:=w) g.isList.typeIs slot_list_getitem.lookup
   (wpAny_getItem_list_neg (Q:=λr J=>r=w/\EP X c C Q r J) g.isList (by omega) (by rw[Qjq] <;>omega) (by omega) (by rw[l];simpa using B) ⟨rfl,d⟩) o
def Ep:Cm X (FC X.K):=by
 intro f g c s l H x y v u Q I n F h m
 obtain⟨p,M,i,z,rfl,rfl,hq,he,q⟩:=h
 cases n
 obtain⟨t,rfl⟩:=F
 obtain⟨J,r,k,P⟩:=I.tuple hq
 obtain⟨j,B,o,N,S,R⟩:=sN he
 obtain⟨w,G,d⟩:=r.get o
 have C:=r.length
 have L:=iz
 have e:EP X c l Q w s:=⟨z,H,I,d,q⟩
 exact subscriptTail_builtinR (x:=w) k.typeIs slot_tuple_getitem.lookup
  (getItem_tuple (j:=j) (Q:=λr A=>r=w/\EP X c l Q r A) k (by omega) (by omega) (by rw[Qjq,←C];exact B) (by simpa using G) ⟨rfl,e⟩) m
def Da:Cm X FK:=by
 intro d e g s G H x y v u Q I m r h l
 obtain⟨z,i,c,rfl,rfl,hz,he,q⟩:=h
 obtain⟨t,rfl⟩:=m
 obtain⟨C,rfl⟩:=r
 obtain⟨j,f,n,F,A,p⟩:=sN he
 have o:z.cps.toList.length=z.length:=by simp[Str.length]
 rw[o] at f A p
 have B:=iz
 exact tail_any (typeIs_str s z t) slot_str_getitem.lookup (getItem_str (c:=c) (by
  have k:decide (i< -(2^63:Int))=false:=Qdq (by omega)
  have w:decide (i>=2^63)=false:=Qdq (by omega)
  rw[k,w,Bool.or_false]) (by rw[f];simpa using n) ⟨.str ⟨#[c]⟩,H,I.tok _,⟨_,rfl⟩,q⟩) l
def JF(K:PySem.W.Frag):R2:=λx y H Q=>FY K x y H Q\/FC K x y H Q\/FK x y H Q
def DB:Cm X (JF X.K):=Cd.or (Ep.or Da)
def we(c:List Value)(n j:Nat)(u:Value):Obj.mapSeq (·.setIfInBounds j u) {cls:=.type "list",data:=.seq c.toArray n}={cls:=.type "list",data:=.seq (c.set j u).toArray n}:=by
 simp[Obj.mapSeq]
def Inv.lst{d:List (Addr×Obj)}{f:St}{H:Hp}{s:Shared}{p:Addr}{xs:List V}(I:Inv X d f H s)(h:H p=some (.lst xs)):
  ∃(c:List Value) (n:Nat),bf xs c/\s.heap.get? p=some {cls:=.type "list",data:=.seq c.toArray n}/\xs.length<=sizeLine:=by
 obtain⟨z,c,n,r,e⟩:=I.hok p _ h
 exact⟨c,n,r,e,z⟩
def Inv.lstUpd{c:List (Addr×Obj)}{j:St}{H:Hp}{s:Shared}{p:Addr}{xs ys:List V}{d its':List Value}{n g:Nat}{f:Obj->Obj}(I:Inv X c j H s)(h:H p=some (.lst xs))
  (k:s.heap.get? p=some {cls:=.type "list",data:=.seq d.toArray n}) (i:f {cls:=.type "list",data:=.seq d.toArray n}={cls:=.type "list",data:=.seq its'.toArray g}) (r:bf ys its') (hz:ys.length<=sizeLine) (t:Nat):
  Inv X c j (upd H p (.lst ys)) {s with heap:=s.heap.update p f,toks:=t}:=by
 have e:(s.heap.update p f).get? p=some {cls:=.type "list",data:=.seq its'.toArray g}:=by
  rw[Heap.get?_update_self f k (by rw[i] <;>rfl),i]
 refine I.write (x:=p) (e:=p) (by rw[h];trivial) (.inl rfl) (λb u l q=>(Heap.get?_update_other _ _ (Ne.symm l)).trans q) ⟨_,e⟩ ?_
 exact⟨hz,its',g,r,e⟩
def CP:V->V->V->Hp->(Hp->Prop)->Prop:=λo i v H Q=>∃p c k j,o=.ref p/\i=.int k/\H p=some (.lst c)/\yC c.length k=some j/\Q (upd H p (.lst (c.set j v)))
def set_list:Ej X CP:=by
 intro d s G H o i v M L u Q I A z F h
 obtain⟨p,B,k,j,rfl,rfl,hp,hj,q⟩:=h
 cases A
 obtain⟨t,rfl⟩:=z
 obtain⟨c,n,r,f,C⟩:=I.lst hp
 obtain⟨e,K,x,m⟩:=rp hj
 have g:=r.length
 have J:=iz
 have y:Inv X d G (upd H p (.lst (B.set j v))) {s with heap:=s.heap.update p (Obj.mapSeq (·.setIfInBounds j u))}:=
  I.lstUpd hp f (we c n j u) (r.set F j) (by rw[List.length_set];exact C) s.toks
 by_cases w:0<=k
 ·have l:k.toNat=j:=by
   rw[seqIndex_of w m] at e
   exact QdQ e
  exact PySem.W.ki_setAt f w (by omega) (by rw[Qjq,←g];exact m) (by rw[l];exact⟨_,y,q⟩)
 ·have l:(k+(c.toArray.size:Int)).toNat=j:=by
   rw[seqIndex_neg (by omega) x] at e
   rw[Qjq,←g]
   exact QdQ e
  exact PySem.W.ki_setBack f (by omega) (by rw[Qjq,←g];exact x) (by omega) (by rw[l];exact⟨_,y,q⟩)
def dJ:V->Bool
 |.non=>true
 |.bl _=>true
 |.int _=>true
 |.str _=>true
 |_=>false
def kb:V->V->Bool
 |.non,.non=>true
 |.bl a,.bl b=>a==b
 |.bl a,.int b=>(if a then 1 else 0)==b
 |.int a,.bl b=>a==(if b then 1 else 0)
 |.int a,.int b=>a==b
 |.str a,.str b=>a==b
 |_,_=>false
def A3{A:Around}{s:Shared}{y x:V}{u v:Value}(e:RelV y u)(c:RelV x v)(g:dJ y=true)(f:dJ x=true):SeqAt.EqAt A s u v (kb y x):=by
 cases y with
 | non=>
   cases e
   cases x with
   |non=>cases c;exact SeqAt.EqAt.same _
   |bl b=>cases c;exact SeqAt.EqAt.none_bool b
   |int b=>obtain⟨t,rfl⟩:=c;exact SeqAt.EqAt.none_int b t
   |str b=>obtain⟨t,rfl⟩:=c;exact SeqAt.EqAt.none_str b t
   |_=>exact absurd (show false=true from f) Qtq
 | bl a=>
   cases e
   cases x with
   |non=>cases c;exact SeqAt.EqAt.bool_none a
   |bl b=>cases c;exact SeqAt.EqAt.bool_bool a b
   |int b=>obtain⟨t,rfl⟩:=c;exact SeqAt.EqAt.bool_int a b t
   |str b=>obtain⟨t,rfl⟩:=c;exact SeqAt.EqAt.bool_str a b t
   |_=>exact absurd (show false=true from f) Qtq
 | int a=>
   obtain⟨d,rfl⟩:=e
   cases x with
   |non=>cases c;exact SeqAt.EqAt.int_none a d
   |bl b=>cases c;exact SeqAt.EqAt.int_bool a d b
   |int b=>obtain⟨t,rfl⟩:=c;exact SeqAt.EqAt.int_int a d b t
   |str b=>obtain⟨t,rfl⟩:=c;exact SeqAt.EqAt.int_str a d b t
   |_=>exact absurd (show false=true from f) Qtq
 | str a=>
   obtain⟨d,rfl⟩:=e
   cases x with
   |non=>cases c;exact SeqAt.EqAt.str_none a d
   |bl b=>cases c;exact SeqAt.EqAt.str_bool a d b
   |int b=>obtain⟨t,rfl⟩:=c;exact SeqAt.EqAt.str_int a d b t
   |str b=>obtain⟨t,rfl⟩:=c;exact SeqAt.EqAt.str_str a d b t
   |_=>exact absurd (show false=true from f) Qtq
 |_=>exact absurd (show false=true from g) Qtq
def tq(x:V)(u:Value):Bool:=match u with
 |.none=>kb .non x
 |.bool b=>kb (.bl b) x
 |.int i _=>kb (.int i) x
 |.str z _=>kb (.str z) x
 |_=>false
def nR{x y:V}{u:Value}(r:RelV y u)(f:dJ y=true):tq x u=kb y x:=by
 cases y with
 |non=>cases r;rfl
 |bl b=>cases r;rfl
 |int i=>obtain⟨t,rfl⟩:=r;rfl
 |str z=>obtain⟨t,rfl⟩:=r;rfl
 |_=>exact absurd (show false=true from f) Qtq
theorem ku{x:V}:∀{xs:List V} {c:List Value},bf xs c->xs.all dJ=true->c.any (tq x)=xs.any λy=>kb y x
 |_,_,.nil,_=>rfl
 | y::xs,u::c,.cons r t,f=>by
   rw[List.all_cons,QCq] at f
   rw[List.any_cons,List.any_cons,nR r f.1,ku t f.2]
theorem fu{A:Around}{s:Shared}{x:V}{v:Value}(e:RelV x v)(g:dJ x=true):∀{xs:List V} {d:List Value},bf xs d->xs.all dJ=true->∀u∈d,SeqAt.EqAt A s u v (tq x u)
 |_,_,.nil,_=>λu c=>by cases c
 | y::xs,u::d,.cons r t,f=>λh c=>by
   rw[List.all_cons,QCq] at f
   rcases Qsq.mp c with rfl|c
   · rw[nR r f.1];exact A3 r e f.1 g
   · exact fu e g t f.2 h c
def xD(x:V)(xs:List V):Bool:=xs.any λy=>kb y x
def GE(K:PySem.W.Frag)(d:Bool):R2:=λx y H Q=>∃p c,y=.ref p/\(gc K H p c\/fe K H p c)/\dJ x=true/\c.all dJ=true/\Q (.bl (if d then !xD x c else xD x c)) H
def qm:ip X (compareOp .In) (GE X.K false):=by
 intro i s m H x y v u Q I g k h
 obtain⟨p,l,rfl,d,fx,fs,q⟩:=h
 cases k
 rcases d with d|d
 ·obtain⟨c,r,f,j⟩:=I.list d
  refine SeqAt.in_listAt (tq x) f.isList (λw e=>fu g fx r fs w (by simpa using e)) ⟨.bl _,H,I,rfl,?_⟩
  rw[show c.toArray.any (tq x)=c.any (tq x) by simp,ku r fs]
  exact q
 ·obtain⟨c,r,f,j⟩:=I.tuple d
  refine SeqAt.in_tupleAt (tq x) f (λw e=>fu g fx r fs w (by simpa using e)) ⟨.bl _,H,I,rfl,?_⟩
  rw[show c.toArray.any (tq x)=c.any (tq x) by simp,ku r fs]
  exact q
def tf:ip X (compareOp .NotIn) (GE X.K true):=by
 intro i s m H x y v u Q I g k h
 obtain⟨p,l,rfl,d,fx,fs,q⟩:=h
 cases k
 rcases d with d|d
 ·obtain⟨c,r,f,j⟩:=I.list d
  refine SeqAt.notIn_listAt (tq x) f.isList (λw e=>fu g fx r fs w (by simpa using e)) ⟨.bl _,H,I,rfl,?_⟩
  rw[show c.toArray.any (tq x)=c.any (tq x) by simp,ku r fs]
  exact q
 ·obtain⟨c,r,f,j⟩:=I.tuple d
  refine SeqAt.notIn_tupleAt (tq x) f (λw e=>fu g fx r fs w (by simpa using e)) ⟨.bl _,H,I,rfl,?_⟩
  rw[show c.toArray.any (tq x)=c.any (tq x) by simp,ku r fs]
  exact q
def tj:jz X (.builtin "len") (λxs H Q=>∃p ys,xs= [.ref p]/\(gc X.K H p ys\/fe X.K H p ys)/\Q (.int ys.length) H):=by
 intro i s m H xs l Q I r h
 obtain⟨p,ys,rfl,d,q⟩:=h
 obtain⟨u,rfl,rx⟩:=vals1 r
 cases rx
 have k:=iz
 rcases d with d|d
 ·obtain⟨g,f,e,j⟩:=I.list d
  have c:=f.length
  exact Calls.call_len_list e.isList (by simp only[Qjq] <;>omega) ⟨.int ys.length,H,I.tok _,⟨s.toks+1,by rw[Qjq,c]⟩,q⟩
 ·obtain⟨g,f,e,j⟩:=I.tuple d
  have c:=f.length
  exact len_tuple e (by simp only[Qjq] <;>omega) ⟨.int ys.length,H,I.tok _,⟨s.toks+1,by rw[Qjq,c]⟩,q⟩
def qf:jz X (.type "tuple") (λxs H Q=>∃p ys,xs= [.ref p]/\((gc X.K H p ys/\∀l,H l=none->Q (.ref l) (upd H l (.tup ys)))\/(fe X.K H p ys/\Q (.ref p) H))):=by
 intro c s t H xs y Q I r h
 obtain⟨p,ys,rfl,h⟩:=h
 obtain⟨u,rfl,rx⟩:=vals1 r
 cases rx
 rcases h with⟨j,q⟩|⟨j,q⟩
 ·obtain⟨d,i,g,m⟩:=I.list j
  have k:=i.length
  refine call_tuple_list g.isList (λf v=> ?_) (by simp only[Qjq] <;>omega)
  have n:Inv X c t H {s with heap:=f}:=I.kept (t':=s.toks) v
  have x:Inv X c t (upd H f.objs.size (.tup ys)) {s with heap:=f.push {cls:=.type "tuple",data:=.seq d.toArray}}:=
   n.laid (t':=s.toks) (λb o e=>Qcq _ e) (Qmq _) (show b9 X.prog X.w _ _ _ (.tup ys) from⟨m,d,i,p8.new _ _⟩)
  exact⟨.ref f.objs.size,_,x,rfl,q _ (n.hok.fresh (Qmq _))⟩
 ·obtain⟨d,i,g,m⟩:=I.tuple j
  exact call_tuple_same g ⟨.ref p,H,I,rfl,q⟩
def Jw(K:PySem.W.Frag)(T:String)(x:V)(H:Hp):Prop:=match x with
 |.str _=>T="str"
 |.int _=>T="int"
 |.ref p=>(T="list" /\∃d,gc K H p d)\/(T="tuple" /\∃o,K.lookup p=some o/\o.cls=.type "tuple" /\o.dict=none)∨
   (T="dict" /\((∃c,H p=some (.dK c))\/∃c,H p=some (.dT c)))\/(T="set" /\∃S n,H p=some (.set S n))
 |_=>False
def D5{g:List (Addr×Obj)}{u:St}{H:Hp}{s:Shared}{T:String}{x:V}{v:Value}(I:Inv X g u H s)(r:RelV x v)(h:Jw X.K T x H):
  s.TypeIs v T/\∀a,v=.ref a->∃q,s.heap.get? a=some q/\q.dict=none:=by
 cases x with
 | str z=>
   obtain⟨t,rfl⟩:=r
   cases (show T="str" from h)
   exact⟨typeIs_str s z t,λ_ e=>nomatch e⟩
 | int i=>
   obtain⟨t,rfl⟩:=r
   cases (show T="int" from h)
   exact⟨typeIs_int s i t,λ_ e=>nomatch e⟩
 | ref p=>
   cases r
   rcases h with⟨rfl,xs,hq⟩|⟨rfl,o,d,hc,j⟩|⟨rfl,d⟩|⟨rfl,S,n,d⟩
   · obtain⟨w,_,m,_⟩:=I.list hq
     refine⟨m.isList.typeIs,λa e=> ?_⟩
     cases e
     obtain⟨o,n,e,c,j,_⟩:=m
     exact⟨o,e,j⟩
   · refine⟨⟨o,I.kIn p o d,hc⟩,λa e=> ?_⟩
     cases e
     exact⟨o,I.kIn _ o d,j⟩
   · have z:∃o,s.heap.get? p=some o/\o.ExactDict:=by
       rcases d with⟨k,d⟩|⟨k,d⟩
       · obtain⟨_,_,_,_,o,_,_,e,f,_⟩:=I.hok p _ d
         exact⟨o,e,f⟩
       · obtain⟨_,_,_,_,o,_,_,e,f,_⟩:=I.hok p _ d
         exact⟨o,e,f⟩
     obtain⟨o,e,f⟩:=z
     refine⟨⟨o,e,f.1⟩,λa l=> ?_⟩
     cases l
     exact⟨o,e,f.2.1⟩
   · obtain⟨o,_,_,_,e,f,_⟩:=I.hok p _ d
     refine⟨⟨o,e,f.1⟩,λa l=> ?_⟩
     cases l
     exact⟨o,e,f.2.1⟩
 |_=>exact False.elim h
def G7(K:PySem.W.Frag)(T:String)(r:V->List V->Hp->VK->Prop)(d:TE)(t:TA):TE:=λc H Q=>d c H λx H1=>Jw K T x H1/\t c H1 λe H2=>r x e H2 Q
variable{o e:Expr}{es:List Expr}{to:TE}{t:TA}{name:Str}{apos cpos:Pos}{T id:String}{r:V->List V->Hp->VK->Prop}
def pI(C:PlainAttrs T)(slot:Slot T name id)(j:typeOf (.builtin id)=pure (.type "method_descriptor"))(y:G8 X id r)(q:PE X o to)(z:PA X (e::es) t)
  (g:attributeBase o name X.env (eval o X.env)=eval o X.env:=by rfl)
  (i:((backTo cpos (starEach (e::es) X.env)).all (λx=> !x.1)&&(backToKw cpos (keywordEach [] X.env)).all (λx=>x.1.isSome)
   &&decide ((e::es).length+([]:List Keyword).length+(if ([]:List Keyword).isEmpty then 0 else 1)<30))=true:=by rfl)
  (f:(apos.endLine==cpos.line)=true:=by rfl) (u:starEach (e::es) X.env=(false,eval e X.env)::starEach es X.env:=by rfl) (d:(backTo cpos (starEach es X.env)).any (·.1)=false:=by rfl):
  PE X (.Call (.Attribute o name apos) (e::es) [] cpos) (G7 X.K T r to t):=by
 intro c s k H Q I h
 refine wpAny_Call_method_late g i f rfl (bP (q c s k H _ I h) λv F M=> ?_)
 obtain⟨x,H1,n,l,R,N⟩:=M
 obtain⟨J,G⟩:=D5 n l R
 refine⟨T,id,C,slot,j,J,G,?_⟩
 have m:=z cpos c F k H1 _ n N
 rw[u] at m⊢
 refine Calls.callWith_builtin (by show(false||(backTo cpos (starEach es X.env)).any (·.1))=false;rw[d] <;>rfl) (Calls.evalArgs_plain ?_)
 exact bP m λL A ⟨p,H2,B,w,P⟩=>y c A k H2 x p v L Q B l w P
end
def G0(X:Cx)(id:String)(r:V->List V->Hp->VK->Prop):Prop:=
 ∀ (a:List (Addr×Obj)) (s:Shared) (b:St) (H:Hp) (x:V) (d:List V) (v:Value) (c:List Value) (Q:VK),Inv X a b H s->RelV x v->bf d c->r x d H Q→
   wpAny (model X.prog X.w) X.A (call (.builtin id) (v::c)) (EP X a b Q) X.xe s
def bf.one:∀{x:V} {a:List Value},bf [x] a->∃u,a= [u]/\RelV x u
 |_,_,.cons r .nil=>⟨_,rfl,r⟩
theorem bf.eraseIdx:∀{xs:List V} {a:List Value} (i:Nat),bf xs a->bf (xs.eraseIdx i) (a.eraseIdx i)
 |_,_,_,.nil=>.nil
 |_,_,0,.cons _ t=>t
 |_,_,i+1,.cons r t=>.cons r (bf.eraseIdx i t)
theorem bf.rep{xs:List V}{a:List Value}(h:bf xs a):∀k:Nat,bf (List.replicate k xs).flatten (List.replicate k a).flatten
 |0=>.nil
 | k+1=>by
   rw[QNq,QNq,List.flatten_cons,List.flatten_cons]
   exact bf.append h (bf.rep h k)
theorem qw{α:Type}:∀(l:List α) (i:Nat),(l.eraseIdx i).length<=l.length
 | [],_=>Qmq _
 |_::_,0=>Nat.le_succ _
 |_::r,i+1=>Nat.succ_le_succ (qw r i)
theorem foldl_rep(b:List Value):∀(k:Nat) (a:List Value),
  List.foldl (λc f=>c++f) a.toArray (List.replicate k b.toArray)=(a++(List.replicate k b).flatten).toArray
 |0,a=>by simp
 | k+1,a=>by
   have e:a.toArray++b.toArray=(a++b).toArray:=by simp
   have d:(a++b)++(List.replicate k b).flatten=a++(List.replicate (k+1) b).flatten:=by
     rw[QNq,List.flatten_cons,Qvq]
   rw[←d,←foldl_rep b k (a++b),←e,QNq,List.foldl_cons]
section
variable{X:Cx}{pins:List (Addr×Obj)}{σ:St}{H:Hp}{s:Shared}{l b:Addr}{xs ys zs:List V}
def Inv.lset{a its':List Value}{n:Nat}{f:Array Value->Array Value}{t':Nat}(I:Inv X pins σ H s)(i:H l=some (.lst xs))
  (e:s.heap.get? l=some {cls:=.type "list",data:=.seq a.toArray n}) (h:f a.toArray=its'.toArray) (g:bf ys its') (hz:ys.length<=sizeLine):
  Inv X pins σ (upd H l (.lst ys)) {s with heap:=s.heap.update l (Obj.mapSeq f),toks:=t'}:=by
 have q:=PySem.IsL.update e f
 rw[h] at q
 refine I.write (x:=l) (e:=l) (by rw[i];exact trivial) (.inl rfl) (λj u c d=>(Heap.get?_update_other s.heap (Obj.mapSeq f) (Ne.symm c)).trans d) ⟨_,q⟩ ?_
 exact⟨hz,its',_,g,q⟩
def Inv.fresh(I:Inv X pins σ H s):H s.heap.objs.size=none:=I.hok.fresh (Qmq _)
def Inv.lstM(I:Inv X pins σ H s)(c:H l=some (.lst xs)):xs.length<=sizeLine/\∃(a:List Value) (n:Nat),bf xs a/\xs.length=a.length/\s.heap.get? l=some {cls:=.type "list",data:=.seq a.toArray n}:=by
 obtain⟨z,a,n,r,e⟩:=I.hok l _ c
 exact⟨z,a,n,r,r.length,e⟩
def uZ{n:Nat}(h:n<=sizeLine):Builtin.List.listTooLong n=false:=by
 unfold Builtin.List.listTooLong
 exact Qdq (by omega)
end
section
variable{X:Cx}
def xx:V->List V->Hp->VK->Prop:=λx b H Q=>∃l a y,x=.ref l/\b= [y]/\H l=some (.lst a)/\a.length<sizeLine/\Q .non (upd H l (.lst (a++ [y])))
def lN:G0 X "list.append" xx:=by
 intro b s k H x f v j Q I c d h
 obtain⟨l,g,y,rfl,rfl,hH,hz,q⟩:=h
 cases c
 obtain⟨u,rfl,ru⟩:=d.one
 obtain⟨z,a,n,r,i,e⟩:=I.lstM hH
 refine call_meets F.slot_list_append ⟨_,e,rfl⟩ F.entry_list_append (F.args_list_append_2 _ _) (PySem.list_append l a.toArray n u (by rw[Qjq];omega)) ⟨e,?_⟩
 refine⟨.non,_,I.lset (its':=a++ [u]) hH e (by simp) (r.append (.cons ru .nil)) ?_,rfl,q⟩
 rw[lQa,List.length_singleton]
 omega
def xP:V->List V->Hp->VK->Prop:=λx d H Q=>∃l b a c,x=.ref l/\d= [.ref b]/\H l=some (.lst a)/\H b=some (.lst c)/\a.length+c.length<=sizeLine/\Q .non (upd H l (.lst (a++c)))
def zk:G0 X "list.extend" xP:=by
 intro g s C H x t v B Q I j o h
 obtain⟨l,b,w,y,rfl,rfl,hH,hB,hz,q⟩:=h
 cases j
 obtain⟨u,rfl,ru⟩:=o.one
 cases ru
 obtain⟨z,c,n,r,A,e⟩:=I.lstM hH
 obtain⟨G,a,k,i,m,p⟩:=I.lstM hB
 have f:c.toArray.size+a.toArray.size<=sizeLine:=by rw[Qjq,Qjq];omega
 have d:¬(!c.toArray.isEmpty&&Builtin.List.listTooLong (c.toArray.size+a.toArray.size))=true:=by
  rw[uZ f,Bool.and_false]
  exact Qtq
 refine call_meets F.slot_list_extend ⟨_,e,rfl⟩ F.entry_list_extend (F.args_list_extend_2 _ _)
  (AutoSeq1.list_extend_list_list_0 l c.toArray n b a.toArray k d (by rw[Qjq];omega) (by omega)) ⟨e,p,?_⟩
 refine⟨.non,_,I.lset (its':=c++a) hH e (by simp) (r.append i) ?_,rfl,q⟩
 rw[lQa]
 omega
def zq:V->List V->Hp->VK->Prop:=λx b H Q=>∃l a i k y,x=.ref l/\b= [.int i]/\H l=some (.lst a)/\ -(2^63)<=i/\i<2^63/\seqIndex? i a.length=some k/\a[k]?=some y/\Q y (upd H l (.lst (a.eraseIdx k)))
def zv:G0 X "list.pop" zq:=by
 intro c s A H x o v p Q I f m h
 obtain⟨l,g,i,k,y,rfl,rfl,hH,h1,h2,hk,hy,q⟩:=h
 cases f
 obtain⟨u,rfl,ru⟩:=m.one
 obtain⟨t,rfl⟩:=ru
 obtain⟨z,a,n,r,j,e⟩:=I.lstM hH
 obtain⟨w,d,b⟩:=r.get hy
 refine call_meets F.slot_list_pop ⟨_,e,rfl⟩ F.entry_list_pop (F.args_list_pop_2 _ _)
  (MeetsSeq.list_pop_at l a.toArray n i t k w (fitsIndex_both h1 h2) (by rw[Qjq,←j];exact hk) (by rw[←Array.getElem?_toList];exact d) (by rw[Qjq];omega)) ⟨e,?_⟩
 refine⟨y,_,I.lset (its':=a.eraseIdx k) hH e ?_ (r.eraseIdx k) ?_,b,q⟩
 ·show a.toArray.eraseIdxIfInBounds k=(a.eraseIdx k).toArray
  rw[List.eraseIdxIfInBounds_toArray]
 ·have:=qw g k
  omega
def len_rep{α:Type}(xs:List α)(k:Nat):(List.replicate k xs).flatten.length=k*xs.length:=by
 induction k with
 |zero=>simp
 |succ k a=>rw[QNq,List.flatten_cons,lQa,a,Nat.succ_mul,Nat.add_comm]
end
end L2
namespace Att
open PySem PySem.W PySem.Calls PyProof.Rows
def m6{P:Params}{h:Heap}:∀(ns:List Int) (vs:List Value),WellAll P h vs (ns.map WData.int)->IntsAre vs ns:=by
 intro ns
 induction ns with
 | nil=>
   intro vs w
   rw[List.map_nil] at w
   cases w
   exact .nil
 | cons n ns c=>
   intro vs w
   rw[QDq] at w
   cases w with
   | cons a b=>
     cases a
     exact .cons _ _ (c _ b)
def yL{l:OpenLaw}{n:Nat}(m:l.most=some n){P:Params}{h:Heap}{args:List WData}{vals:List Value}
  (b:l.row.toRowW.claim.pre args=true) (i:WellAll P h vals args):
  ∃a vs ns,vals= [Value.ref a]/\args= [WData.list (ns.map WData.int)]/\h.get? a=some {cls:=.type "list",data:=.seq vs.toArray}/\IntsAre vs ns/\ns.length<=n:=by
 have j:WShape.hasAll [] args [.list .int]=true:=(pre_splitW b).1
 have k:l.pre.holds [] {args:=args}=true:=(pre_splitW b).2
 obtain⟨d,r,rfl,h1,h2⟩:=hasAllW_cons j
 obtain rfl:=hasAllW_nil h2
 obtain⟨u,rfl,h3⟩:=hasW_list h1
 obtain⟨ns,rfl⟩:=items_int h3
 have c:ns.length<=n:=by
  unfold OpenLaw.pre at k
  have g:(WTm.not (.lt (.lit (.int (n:Int))) (.len (.arg 0)))).holds [] {args:= [.list (ns.map .int)]}=true:=by
   have g:=(holds_andW k).1
   rw[m] at g
   exact g
  have f:=condW_of g (w_not (w_lt w_lit (w_len_list (w_arg rfl))))
  rw[lQm] at f
  refine Nat.le_of_not_lt λq=> ?_
  have p:(n:Int)<((ns.length:Nat):Int):=by omega
  first
   |(rw[Qeq p] at f;exact absurd f (by decide))
   |(simp at f;omega)
 cases i with
 | cons t s=>
   cases s
   cases t with
   |list o e=>exact⟨_,_,ns,rfl,rfl,o,m6 ns _ e,c⟩
def yz(l:OpenLaw)(args:List WData):l.row.toRowW.claim.post args (.bool true) args=true:=
 postW_of (r:=l.row.toRowW) (X:=(true==true))
  (show WShape.has [] (.bool true) .bool=true by first|rfl|decide|simp[WShape.has,WShape.arms,WShape.armsAll])
  (show(WTm.eq .res (.lit (.bool true))).value [] {args:=args,res:=some (.bool true),after:=args}=some (.bool (true==true)) from w_eq_bool (w_res rfl) w_lit) rfl
def tO{l:OpenLaw}{n:Nat}{q:Program}{c:List Str}{x:(Str->Option Value)->Heap->Prop}{A:World->Heap->Prop}{d:DefRec}
  (F:l.most=some n) (s:d.params.defaults= [])
  (h:∀(w:World) (s₀ b:Shared) (mg m:Str->Option Value) (i:Addr) (o:Obj) (p j e:Value) (a:Addr) (vs:List Value) (ns:List Int),
   Ground q c [] x w s₀ mg m b.heap->A w b.heap→
   b.heap.get? i=some o->o.data=.func (docDef d.name d.params d.body d.scope p j e)->b.heap.CodeRec j d.name->mg d.name=some (.ref i)→
   b.heap.get? a=some {cls:=.type "list",data:=.seq vs.toArray}->IntsAre vs ns->ns.length<=n->b.gens= #[]→
   codeAny (model l.prog w) callerA (.call (.ref i) ⟨[.ref a],[]⟩) (λr k=>r=.ok (.ret (.bool true))/\OldK b.heap k.heap/\k.os=b.os/\AllBare k.gens) b):
  WalkO q c x A l.row.toRowW d [] (λf vs=>PySem.call f vs):=by
 intro w s₀ b mg m G Y i o p j e L kV H K u z v M B y Q g C J t N
 obtain rfl:L=.none:=Dflts.none z s
 obtain rfl:kV=.none:=Dflts.noKw z
 obtain⟨a,vs,ns,rfl,rfl,hobj,hints,hlen⟩:=yL F g t
 refine enter_call (codeAny_mono (h w s₀ b mg m i o p j e a vs ns G Y H (fd_plain K) u v hobj hints hlen M) λr k P=> ?_)
 obtain⟨rfl,h2,h3,h4⟩:=P
 exact⟨.inl ⟨.bool true,.bool true,[],rfl,λ_=>rfl,.bool true,yz l _,λ_=>⟨List.Pairwise.nil,λ_ I=>(nomatch I)⟩⟩,h2,h3,h4⟩
end Att
namespace L2
open PySem PySem.Spec PyProof.Rows
theorem qM:∀{vs:List Value} {ns:List Int},IntsAre vs ns->bf (ns.map V.int) vs
 |_,_,.nil=>.nil
 |_,_,.cons n t h=>.cons ⟨t,rfl⟩ (qM h)
def BW(H:Hp):Prop:=∀b,H b=none\/∃o a,H b=some (.frz o (.lst a))
def A1{P:Program}{w:World}{K:PySem.W.Frag}{mg S:Str->Option Value}{CX:zo}{k:Nat}{fa a:Addr}{fd:FuncData}{x:Str}{sp:Sp}{c:Shared}{vs:List Value}{ns:List Int}
  (KX:K.In c.heap) (B:c.heap.Ns mainGlobals mg) (g:c.heap.Ns builtinsNs S) (Q:∀x:Str,x≠"__name__" ->S x=bootBuiltins x) (I:c.heap.NoLimit) (hg:c.gens= #[])
  (N:c.heap.get? a=some {cls:=.type "list",data:=.seq vs.toArray}) (hi:IntsAre vs ns) (hl:ns.length<=sizeLine) (hr:dC k callerA)
  (F:∀base:Heap,K.In base->base.Ns mainGlobals mg->aY P w K mg base CX k fa fd [x] sp) (p:∀(s:Shared) (u:Value),BindsTo s fd ⟨[u],[]⟩ [(x,u)])
  (X:∀H:Hp,BW H->gc K H a (ns.map V.int)->sp [.ref a] H (λv _=>v=.bl true) λ_ _ _=>False)
  (U:∀H e i,CX [] H c (λ_ _ _=>False) e i->False):
  codeAny (model P w) callerA (.call (.ref fa) ⟨[.ref a],[]⟩) (λr i=>r=.ok (.ret (.bool true))/\OldK c.heap i.heap/\i.os=c.os/\AllBare i.gens) c:=by
 have rv:=qM hi
 have C:=hi.length
 have l:∀H:Hp,BW H->gc K H a (ns.map V.int)->ki P w H c.heap->(∀b,H b≠none->b=a)->(H a≠none->K.lookup a=none)→
   codeAny (model P w) callerA (.call (.ref fa) ⟨[.ref a],[]⟩) (λr i=>r=.ok (.ret (.bool true))/\OldK c.heap i.heap/\i.os=c.os/\AllBare i.gens) c:=by
  intro H hO hS J hA hK
  have f:∀{b:Addr} {o:Obj},c.heap.get? b=some o->H b=none->(rf c.heap H).get? b=some o:=λe n=>zH e n
  have Z:∀{b:Addr} {o:Obj} {M:Array DictEntry} {y:Nat},c.heap.get? b=some o->o.data=.dict M y->H b=none:=λ{b o M y} e d=>by
   cases q:H b with
   |none=>rfl
   | some u=>
     have R:b=a:=hA b (by rw[q];simp)
     subst R
     rw[N] at e;cases e
     have d':Data.seq vs.toArray _=Data.dict M y:=d
     cases d'
  have j:∀{b:Addr} {m:Str->Option Value},c.heap.Ns b m->(rf c.heap H).Ns b m:=λ{b m} ⟨o,M,y,e,d,r⟩=>⟨o,M,y,f e (Z e d),d,r⟩
  have A:K.In (rf c.heap H):=λb o e=>f (KX b o e) (by
   cases q:H b with
   |none=>rfl
   | some u=>
     have R:b=a:=hA b (by rw[q];simp)
     subst R
     rw[hK (by rw[q];simp)] at e;cases e)
  have hM:Mod K mg (rf c.heap H):=⟨A,j B,⟨S,j g,Q⟩,let ⟨mc,h1,h2⟩:=I;⟨mc,j h1,h2⟩⟩
  have e0:Cj P w K mg (rf c.heap H) callerA [] c H:=⟨rfl,hM,λb o e=>B9 e,Nat.le_of_eq (yW _ _),trivial,λb g=>absurd (show b∈([]:List Addr) from g) (by simp),J,.of_eq hg⟩
  refine codeAny_mono ((F _ A (j B)).run callerA [] c H ⟨[.ref a],[]⟩ [.ref a] [.ref a] _ _ hr e0 (p c (.ref a)) (.cons rfl .nil) (X H hO hS)) λr i h=> ?_
  cases r with
  |error e=>exact(U H e i h).elim
  | ok fl=>
    cases fl with
    |next=>exact False.elim h
    |brk=>exact False.elim h
    |cont=>exact False.elim h
    | ret u=>
      obtain⟨v,H',os,L,un,t,r',q⟩:=h
      have q':v=.bl true:=q
      subst q'
      obtain rfl:u=Value.bool true:=r'
      refine⟨rfl,OldK.of_keep λb o e=> ?_,os,L⟩
      cases q:H b with
      |none=>exact un.keep b o e q (by intro z;exact absurd (show b∈([]:List Addr) from z) (by simp)) (by simp)
      | some u=>
        rcases hO b with z|⟨ob,xs,z⟩
        · rw[q] at z;cases z
        · have z2:=un.frzs b ob _ z
          obtain⟨e1,_⟩:=J b _ z
          obtain⟨e2,_⟩:=t b _ z2
          rw[e] at e1;cases e1
          exact e2
 cases Y:K.lookup a with
 | some o=>
   have e:=KX a o Y
   rw[N] at e
   cases e
   refine l (λ_=>none) (λ_=>.inl rfl) (.inr ⟨_,vs.toArray,_,Y,rfl,rfl,rfl,by rw[Qjq,C];exact hl,by simpa using rv⟩) (λb u z=>by have G:(none:Option HO)=some u:=z;cases G) (λb z=>absurd rfl z) λz=>absurd rfl z
 | none=>
   refine l (λb=>if b=a then some (.frz {cls:=.type "list",data:=.seq vs.toArray} (.lst (ns.map V.int))) else none) (λb=> ?_) (.inl (.inr ⟨{cls:=.type "list",data:=.seq vs.toArray},Qhq rfl⟩)) (λb u z=> ?_) (λb z=> ?_) λ_=>Y
   · by_cases g:b=a
     · exact .inr ⟨_,_,Qhq g⟩
     · exact .inl (Quq g)
   · by_cases g:b=a
     · have G:=(Qhq g).symm.trans z
       cases G
       subst g
       exact⟨N,by rw[lQm];exact hl,vs,_,rv,N⟩
     · have G:=(Quq g).symm.trans z
       cases G
   · by_cases g:b=a
     · exact g
     · exact absurd (Quq g) z
def B7{l:PySem.W.OpenLaw}{n k:Nat}{q:Program}{i:List Str}{N:(Str->Option Value)->Heap->Prop}{L:World->Heap->Prop}{d:DefRec}{K:Params->PySem.W.Frag}{CX:World->zo}{sp:World->Sp}{x:Str}
  (P:l.most=some n) (B:n<=sizeLine) (t:d.params.defaults= []) (Q:dC k callerA)
  (S:∀(w:World) (h:Heap),L w h->(K w.params).In h)
  (F:∀(w:World) (mg:Str->Option Value) (r:Addr) (h:Heap),(K w.params).In h->h.Ns mainGlobals mg->mg d.name=some (.ref r)→
   ∃ y:FuncData,(∀(s:Shared) (u:Value),BindsTo s y ⟨[u],[]⟩ [(x,u)])∧
     ∀base:Heap,(K w.params).In base->base.Ns mainGlobals mg->aY l.prog w (K w.params) mg base (CX w) k r y [x] (sp w))
  (I:∀(w:World) (H:Hp) (a:Addr) (ns:List Int),ns.length<=n->BW H->gc (K w.params) H a (ns.map V.int)->sp w [.ref a] H (λv _=>v=.bl true) λ_ _ _=>False)
  (C:∀(w:World) (H:Hp) (s:Shared) (e:Value) (z:Shared),CX w [] H s (λ_ _ _=>False) e z->False):
  PySem.W.WalkO q i N L l.row.toRowW d [] (λf vs=>PySem.call f vs):=by
 refine Att.tO P t λw J p mg mb r o pm cd a0 a vs ns G Y ho hd X A m j c Z=> ?_
 have M:=S w _ Y
 obtain⟨y,R,hF⟩:=F w mg r _ M G.T.g A
 exact A1 M G.T.g G.T.b G.T.builtins G.T.nolimit Z m j (QAq c B) Q hF R (λH U hS=>I w H a ns c U hS) λH e z=>C w H p e z
def eR(s:Stmt):Arguments:=match s with
 |.FunctionDef _ a _ _ _ _ _ _ _ _=>a
 |_=>{posonlyargs:= [],args:= [],vararg:=none,kwonlyargs:= [],kw_defaults:= [],kwarg:=none,defaults:= []}
def dg(s:Stmt):List Stmt:=match s with
 |.FunctionDef _ _ b _ _ _ _ _ _ _=>b
 |_=> []
def aA(s:Stmt):Scope:=match s with
 |.FunctionDef _ _ _ _ _ _ a _ _ _=>a
 |_=>{kind:=.function,names:= [],isGenerator:=false,isCoroutine:=false}
abbrev de:zo:=λ_ _ _ _ _ _=>False
abbrev E0:XK:=λ_ _ _=>False
def zL{X:Cx}:v7 de X E0:=λ_ _ _ _ _ _ _ h=>h.elim
structure dD(K:PySem.W.Frag)(x qual:Str)(st:Stmt)(f:Addr)(fd:FuncData):Prop where
 ex:∃(oc:Value) (od:Option Addr) (kV doc pm:Value) (an:Option Addr) (cdv ct:Value) (osl:Array (Option Value)),
  fd=PySem.W.fnOf x qual (eR st) (dg st) (aA st) .none kV doc pm an cdv ct/\K.lookup f=some ⟨oc,od,.func fd,osl⟩/\PySem.W.codeIn K cdv qual=true
 kp:PySem.W.keepIn K (.ref f)=true
section
variable{P:Program}{w:World}{K:PySem.W.Frag}{mg:Str->Option Value}{base:Heap}
def dD.ok{x a:Str}{st:Stmt}{f:Addr}{e:FuncData}{N ps:List Str}{k:Nat}{sp:Sp}(F:dD K x a st f e)(S:aE N ps (aA st))(len:∀vs H Q E,sp vs H Q E->vs.length=ps.length)
  (c:∀(b:Value) (A:Around) (outer:List Env) (s:Shared) (H:Hp) (vs:List V) (Q:VK) (E:XK),dC k (A.deeper (envOfC a (aA st) s.heap.objs.size f b))->sp vs H Q E→
   ∃t,oS (vd de P w K mg base N a (aA st) f b A outer s H E).nox (dg st) t/\t {nx:=λ_ l=>Q .non l,rt:=Q} (start N vs) H):aY P w K mg base de (k+1) f e ps sp:=by
 obtain⟨r,n,kV,j,m,o,b,p,i,rfl,lk,hcd⟩:=F.ex
 refine FF lk hcd S len λA outer s H vs Q E g d=> ?_
 obtain⟨t,h,q⟩:=c b A outer s H vs Q E g d
 exact⟨t,h.nox,q⟩
def dD.binds{x a:Str}{st:Stmt}{f:Addr}{i:FuncData}{ps:List Str}(F:dD K x a st f i)
  (h:∀(kV b d:Value) (e:Option Addr) (c ct:Value) (g:List Value),g.length=ps.length->bindArgs (PySem.W.fnOf x a (eR st) (dg st) (aA st) .none kV b d e c ct) ⟨g,[]⟩=pure (ps.zip g)):Binds K i ps []:=by
 obtain⟨l,k,kV,b,d,e,c,ct,j,rfl,lk,hcd⟩:=F.ex
 exact .all (h kV b d e c ct)
def v9{x a:Str}{st:Stmt}{f:Addr}{j:Value}{i h:Option Addr}{e:Array (Option Value)}{kV d g b ct:Value}(l:K.lookup f=some ⟨j,i,.func (PySem.W.fnOf x a (eR st) (dg st) (aA st) .none kV d g h b ct),e⟩)
  (c:PySem.W.codeIn K b a=true) (k:PySem.W.keepIn K (.ref f)=true):dD K x a st f (PySem.W.fnOf x a (eR st) (dg st) (aA st) .none kV d g h b ct):=⟨⟨j,i,kV,d,g,h,b,ct,e,rfl,l,c⟩,k⟩
end
def CV{A:Around}{k:Nat}(a:dC k A):A.units+1<cLine:=Nat.lt_of_le_of_lt (Nat.add_le_add_left (by decide:1<=64) _) a.units
def aH{n:Nat}(h:n<=1000):n<sizeLine:=Nat.lt_of_le_of_lt h (by decide)
section
variable{X:Cx}
def pv(i:Nat){x:Str}{pos:Pos}(c:X.N[i]?=some x:=by rfl)(b:C2 X.env.scope x:=by first|exact Or.inl rfl|exact Or.inr (Or.inl rfl)|exact Or.inr (Or.inr rfl))(hd:(x==("__debug__":Str))=false:=by decide)
  (a:(x==("__classdict__":Str))=false:=by decide):PE X (.Name x pos) (Ed i):=zx c b hd a
end
section
variable{prog:Program}{w:World}{A:Around}{s:Shared}
def kG{p a g:Expr}{t:List Expr}{b:Scope}{pos:Pos}{it q:Value}{env:Env}{R:Result->Shared->Prop}(I:Nat->Shared->Prop)
  (z:∀n s,I n s->wpAny (model prog w) A (pyNext it) (λr f=>match r with
   |none=>R (.ok .next) f
   |some v=>wpAny (model prog w) A (letOwnedTupleGo a it v) (λ_ e=>wpAny (model prog w) A (assign a env v) (λ_ i=>
     wpAny (model prog w) A (forIn t true λc r=>if r=true then do let ok←isTrue c env (eval c env);pure (ForInStep.yield ok) else pure (ForInStep.yield r)) (λok s₃=>
      if ok=true then wpAny (model prog w) A (eval p env) (λx j=>
       wpAny (model prog w) A (call (.builtin "list.append") [q,x]) (λ_ l=>∃m,m<n/\I m l) (λ_ _=>False) j) (λ_ _=>False) s₃
      else∃m,m<n/\I m s₃) (λ_ _=>False) i) (λ_ _=>False) e) (λ_ _=>False) f) (λ_ _=>False) s)
  (n:Nat) (h:I n s):codeAny (model prog w) A (.compLoop (.ListComp p [⟨a,g,t,0⟩] b pos) 0 it q env) R s:=by
 refine codeAny_loop rfl I (λn s C=> ?_) n h
 show wpAny _ A ((compTurn (.ListComp p [⟨a,g,t,0⟩] b pos) 0 it q env).onRaise (λx=>do noteFrame x env;theTreesLotGoes x)) _ _ s
 refine wpAny_noted ?_
 rw[compTurn_list]
 refine Qaq (wpAny_standAt (Qaq (QRq (z n s C) (λr f k=> ?_) λ_ _ d=>d.elim)))
 cases r with
 |none=>exact Qgq k
 | some v=>
   refine Qaq (QRq k (λ_ e o=> ?_) λ_ _ d=>d.elim)
   refine Qaq (QRq o (λ_ i B=>Qaq (QRq B (λok s₃ h₃=> ?_) λ_ _ d=>d.elim)) λ_ _ d=>d.elim)
   cases ok with
   |false=>exact Qgq ⟨rfl,h₃⟩
   | true=>
     exact Qaq (Qaq (QRq h₃ (λx j y=>Qaq (QRq y (λ_ l u=>Qgq (Qgq ⟨rfl,u⟩)) λ_ _ d=>d.elim)) λ_ _ d=>d.elim))
end
def aD(X:Cx)(N:List Str)(a:Scope)(b:List (Str×Addr))(C:Addr)(s:Shared)(H:Hp)(fp:List Addr):Cx where
 prog:=X.prog
 w:=X.w
 K:=X.K
 mg:=X.mg
 base:=X.base
 A:=X.A
 N:=N
 s₀:=s
 H₀:=H
 env:=compEnvC a b C X.env
 outer:=X.stack
 stack:=X.stack
 ex:=fp
 fn:=λ_=>false
 calm:=X.calm
 pn:= []
 xe:=λ_ _=>False
def g9(js:List (Option Nat))(a:St):St:=js.map λo=>o.bind λj=>a.getD j none
structure aR(X:Cx)(N:List Str)(js:List (Option Nat))(scope:Scope)(cl:List (Str×Addr)):Prop where
 kind:scope.kind=.function
 nocell:∀y∈scope.names,y.2≠.cell
 names:∀y∈scope.names,y.2=.local->scope.names.lookup y.1=some .local
 clos:closureFor scope X.env=pure cl
 sub:∀x c,cl.lookup x=some c->X.env.cells.lookup x=some c
 has:∀x,((relabel scope X.env).names.lookup x=some .cell\/(relabel scope X.env).names.lookup x=some .free)->∃c,cl.lookup x=some c
 cap:∀(k j:Nat) (x:Str),js[k]?=some (some j)->N[k]?=some x->X.N[j]?=some x/\(X.env.kindOf x=some .cell\/X.env.kindOf x=some .free)/\((relabel scope X.env).names.lookup x=some .cell\/(relabel scope X.env).names.lookup x=some .free)
 len:js.length=N.length
def jH(X:Cx)(b:List Expr)(t:TT):Prop:=
 ∀ (a:List (Addr×Obj)) (s:Shared) (d:St) (H:Hp) (Q:Bool->Hp->Prop),Inv X a d H s->t d H Q→
   wpAny (model X.prog X.w) X.A (forIn b true λc r=>if r=true then do let ok←isTrue c X.env (eval c X.env);pure (ForInStep.yield ok) else pure (ForInStep.yield r)) (TP X a d Q) X.xe s
def Dv{X:Cx}:jH X [] (λ_ H Q=>Q true H):=λ_ _ _ H _ I h=>wpAny_tests_nil ⟨H,I,h⟩
def DU{X:Cx}{c:Expr}{t:TT}(b:PT X c t):jH X [c] t:=λa s d H Q I h=>
 wpAny_tests_one (bP (b a s d H Q I h) λok s' h'=>h')
def FA(J:It)(g:TG)(k:TT)(n:TE)(Q:VK)(D:Addr)(l:St)(H:Hp):Prop:=
 ∃ W:Nat->Nat->St->Hp->Prop,(∃m,W 0 m l H)/\∀i m c e,W i m c e→
   (J.stop i e/\Q (.ref D) e)\/(J.go i e/\∃f:St->Hp->Prop,(∀b d,f b d->∃j,j<m/\W (i+1) j b d)∧
     ∀ x H2,J.yld i e x H2->g x c H2 λa H3=>k a H3 λok H4=>
       if ok=true then n a H4 λy H5=>∃h,H5 D=some (.lst h)/\h.length<sizeLine/\f a (upd H5 D (.lst (h++ [y]))) else f a H4)
def zy(js:List (Option Nat))(b:TI)(g:TG)(c:TT)(d:TE):TE:=λa H Q=>b a H λJ H1=>∀D,H1 D=none->FA J g c d Q D (g9 js a) (upd H1 D (.lst []))
def CB{X:Cx}{N:List Str}{js:List (Option Nat)}{a:Scope}{P:List (Str×Addr)}{tg R b0:Expr}{b3:List Expr}{pos:Pos}{wi:TI}{g:TG}{tt:TT}{te:TE}
  (S:aR X N js a P) (hc:X.calm=true) (hi:PI X tg R wi)
  (hg:∀C s H fp,PG (aD X N a P C s H fp) tg g) (ht:∀C s H fp,jH (aD X N a P C s H fp) b3 tt) (he:∀C s H fp,PE (aD X N a P C s H fp) b0 te)
  (hs:∀x,foldedSetIterable R X.env x=pure x:=by intro _;rfl):PE X (.ListComp b0 [⟨tg,R,b3,0⟩] a pos) (zy js wi g tt te):=by
 intro a8 s σ H Q I h
 rw[eval_ListComp]
 refine wpAny_comprehension_free (use:=none) rfl hs S.clos S.kind S.names (bP (hi a8 s σ H _ I h) λv s1 h1=>bP h1 λd4 f h2=> ?_)
 obtain⟨it,fp,tn,J,H2,e,B,T,b2,f2,hD⟩:=h2
 subst e
 refine QhQ (wpAny_newFunctionEnv S.nocell (by intro y hy;simp at hy) (λL G t=> ?_) S.kind)
 dsimp only at G t⊢
 generalize b1:f.heap.push {cls:=.type "list",dict:=none,data:=.seq ([]:List Value).toArray}=P2 at G t⊢
 have hC:P2.objs.size=f.heap.objs.size+1:=by rw[←b1,Heap.size_push]
 have c8:f.heap.objs.size≠P2.objs.size:=by rw[hC];exact Qwq (Nat.lt_succ_self _)
 have a5:f.heap.objs.size<=P2.objs.size:=by rw[hC];exact Nat.le_succ _
 have F:∀b,b<f.heap.objs.size->b≠P2.objs.size:=λb k=>by rw[hC];exact Qwq (Nat.lt_succ_of_lt k)
 have Y:∀b o,f.heap.get? b=some o->L.get? b=some o:=λb o e=>t.extBut b o (F b (Qiq e)) (Qcq _ (b1▸Qcq _ e))
 have b7:L.get? f.heap.objs.size=some {cls:=.type "list",dict:=none,data:=.seq ([]:List Value).toArray}:=t.extBut _ _ c8 (Qcq _ (b1▸Qrq _ rfl))
 have nD:H2 f.heap.objs.size=none:=B.fresh
 have nC:H2 P2.objs.size=none:=B.hok.fresh a5
 have a9:∀b∈fp,b<f.heap.objs.size:=λb k=>by
  obtain⟨o,e,_⟩:=T.obj _ _ b2 b k
  exact Qiq e
 obtain⟨W,⟨m0,w0⟩,b6⟩:=hD f.heap.objs.size nD
 have b5:(aD X N a P P2.objs.size f H2 fp).Ok:=by
  refine⟨B.ok.mod,S.kind,B.ok.glob,B.ok.blt,a5,λx y c h1 h2=>B.ok.inj x y c (S.sub x c h1) (S.sub y c h2),S.has,(λx c h=>by cases h),B.ok.hd,B.ok.frames,.inl rfl,
   λb k=>⟨F b (a9 b k),λx c h=>(f2 b k).2.2.2.2.1 x c (S.sub x c h)⟩,B.bs,QAq B.ok.bsz B.sz,λb o e k=> ?_,λb k z=> ?_,B.stack,B.stkFree⟩
  ·rcases(f2 b k).2.2.2.1 with z|z
   ·exact B.ok.noex b o e z
   ·exact absurd (Qqq (Qqq (Qiq e) B.ok.bsz) z) (Nat.lt_irrefl _)
  ·rcases Qsq.mp (B.stkSub b z) with q|q
   ·exact(f2 b k).2.1 q
   ·exact(f2 b k).2.2.1 q
 have c0:b9 X.prog X.w (upd H2 f.heap.objs.size (.lst [])) L f.heap.objs.size (.lst []):=⟨Nat.zero_le _,[],0,.nil,b7⟩
 have I4:Inv (aD X N a P P2.objs.size f H2 fp) [] (g9 js σ) (upd H2 f.heap.objs.size (.lst [])) {f with heap:=L,toks:=f.toks+([]:List (Str×Value)).length}:=by
  refine⟨b5,rfl,B.bare,Un.laid Y (Qmq _) nD,⟨_,G,λi x v h1 h2 h3=> ?_⟩,λx c h=> ?_,by show upd H2 _ _ P2.objs.size=none;rw[aO c8.symm];exact nC,λx c h=> ?_,λp hp=>absurd (show p∈([]:List (Addr×Obj)) from hp) (by simp),B.hok.laid Y (Qmq _) c0,by show(g9 js σ).length=N.length;unfold g9;rw[lQm];exact S.len⟩
  ·unfold g9 at h2
   rw[gQm] at h2
   cases e:js[i]? with
   |none=>rw[e] at h2;cases h2
   | some o=>
     rw[e] at h2
     cases o with
     |none=>cases h2
     | some j=>
       have a0:σ.getD j none=some v:=QdQ h2
       have hj:σ[j]?=some (some v):=by
         rw[Qlq] at a0
         cases q:σ[j]? with
         |none=>rw[q] at a0;cases a0
         |some y=>rw[q] at a0;exact congrArg some a0
       obtain⟨c1,c2,c3⟩:=S.cap i j x e h1
       obtain⟨m,hn,hl⟩:=B.loc
       have d1:C2 X.env.scope x:=by
         rcases c2 with z|z
         · exact .inr (.inl z)
         · exact .inr (.inr z)
       obtain⟨u,r,l⟩:=hl j x v c1 hj d1
       refine⟨u,r,.inr ⟨c3,?_⟩⟩
       obtain⟨c,c4⟩:=S.has x c3
       refine⟨c,c4,?_⟩
       rcases l with⟨z,_⟩|⟨_,c',e',z⟩
       · rcases c2 with y|y <;>rw[y] at z <;>cases z
       · rw[S.sub x c c4] at e'
         cases e'
         obtain⟨o,ho,hd⟩:=z
         exact⟨o,Y _ _ ho,hd⟩
  ·obtain⟨v,o,ho,hd⟩:=B.cell x c (S.sub x c h)
   exact⟨v,o,Y _ _ ho,hd⟩
  ·obtain⟨v,o,ho,hd⟩:=B.cell x c (S.sub x c h)
   rw[aO (Qwq (Qiq ho))]
   exact B.freeC x c (S.sub x c h)
 have a2:∀{M:List (Addr×Obj)} {U:Hp},M= []->(∀b∈fp,U b=none)->∀b∈fp,mh (aD X N a P P2.objs.size f H2 fp) M U b:=λ{M U} ep hn b k=>by
  subst ep
  refine⟨hn b k,F b (a9 b k),λz=>b5.exfs b k z,.inl k,λx c h=>(f2 b k).2.2.2.2.1 x c (S.sub x c h),λp hp=>absurd (show p∈([]:List (Addr×Obj)) from hp) (by simp)⟩
 have a6:codeAny (model X.prog X.w) X.A (.compLoop (.ListComp b0 [⟨tg,R,b3,0⟩] a pos) 0 (.ref it) (.ref f.heap.objs.size) (compEnvC a P P2.objs.size X.env))
   (compPost (model X.prog X.w) X.A X.xe none (EP X a8 σ Q) (.ref f.heap.objs.size) P2.objs.size) {f with heap:=L,toks:=f.toks+([]:List (Str×Value)).length}:=by
  refine kG (λn s'=>∃i a1 U,Inv (aD X N a P P2.objs.size f H2 fp) [] a1 U s'/\tn i s'.heap/\(∀b∈fp,U b=none)/\W i n a1 U) ?_ m0
   ⟨0,_,_,I4,T.keep _ _ _ b2 λb _ o e=>Y b o e,λb k=>by rw[aO (Qwq (a9 b k))];exact(f2 b k).1,w0⟩
  rintro n s3 ⟨i,a3,H3,I3,c5,c6,w3⟩
  rcases b6 i n a3 H3 w3 with⟨stop,q⟩|⟨go,Nx,hN,b8⟩
  ·refine bP (T.done (aD X N a P P2.objs.size f H2 fp) rfl rfl rfl hc i [] s3 a3 H3 _ I3 (a2 rfl c6) c5 stop) λr s4 Z=> ?_
   obtain⟨hr,I5⟩:=Z
   subst hr
   obtain⟨m,hn,_⟩:=id I5.loc
   refine⟨m,hn,λh' a4=>⟨.ref f.heap.objs.size,H3,?_,rfl,q⟩⟩
   have u:=I5.base
   have ne:∀b o,f.heap.get? b=some o->b≠P2.objs.size:=λb o e=>F b (Qiq e)
   refine B.call' (ch:=fp) I5.os ⟨λb o e n k hx=>(a4.2 b (ne b o e)).trans (u.keep b o e n k hx),λb o e n k hx=> ?_,u.free,λb o e hx=> ?_,u.tups,u.frzs,u.tbls⟩ (λb ob e=> ?_) I5.bare λb k=>⟨(f2 b k).2.2.2.1,(f2 b k).2.1,(f2 b k).2.2.2.2.1,(f2 b k).2.2.2.2.2⟩
   ·obtain⟨sl,e1⟩:=u.slot b o e n k hx
    exact⟨sl,(a4.2 b (ne b o e)).trans e1⟩
   ·obtain⟨o',e1⟩:=u.there b o e hx
    exact⟨o',(a4.2 b (ne b o e)).trans e1⟩
   ·refine(I5.hok b ob e).stay (λc w' hc q=>(a4.2 c ?_).trans q) (λ_ q=>q) λ_ _ q=>q
    have fC:H3 P2.objs.size=none:=I5.free
    rintro rfl
    rcases hc with z|z
    ·rw[←z,fC] at e;cases e
    ·rw[fC] at z;cases z
  ·refine bP (T.item (aD X N a P P2.objs.size f H2 fp) rfl rfl rfl hc i [] s3 a3 H3 _ I3 (a2 rfl c6) c5 go) λr s4 Z=> ?_
   obtain⟨u,hr,h4⟩:=Z
   subst hr
   refine bP h4 λ_ s5 Z=> ?_
   obtain⟨x,H5,I5,r5,y5,b4,d3⟩:=Z
   have d2:=I5.pinned (a2 rfl d3) (T.obj _ _ b4)
   refine bP (hg P2.objs.size f H2 fp _ s5 a3 H5 x u _ d2 r5 (b8 x H5 y5)) λ_ s6 Z=> ?_
   obtain⟨K,H6,I6,q6⟩:=Z
   refine bP (ht P2.objs.size f H2 fp _ s6 K H6 _ I6 q6) λok s7 Z=> ?_
   obtain⟨H7,I7,q7⟩:=Z
   have again:∀{s8:Shared} {H8:Hp},Inv (aD X N a P P2.objs.size f H2 fp) ([]++jY fp s5.heap) K H8 s8->Nx K H8->∃m,m<n/\∃i a1 U,Inv (aD X N a P P2.objs.size f H2 fp) [] a1 U s8/\tn i s8.heap/\(∀b∈fp,U b=none)/\W i m a1 U:=λ{s8 H8} I8 n8=>by
    obtain⟨m',hm,w8⟩:=hN K H8 n8
    refine⟨m',hm,i+1,K,H8,I8.unpinned,T.keep _ _ _ b4 λb k o e=>(I8.pin (b,o) (Qoq _ (Qoq _ (cu k e)))).1,λb k=> ?_,w8⟩
    obtain⟨o,e,d⟩:=T.obj _ _ b4 b k
    exact(I8.pin (b,o) (Qoq _ (Qoq _ (cu k e)))).2.1
   cases ok with
   |false=>exact again I7 q7
   | true=>
     refine bP (he P2.objs.size f H2 fp _ s7 K H7 _ I7 q7) λyv s8 Z=> ?_
     obtain⟨y,H8,I8,ry,xs,hx,hl,n8⟩:=Z
     refine bP (lN (X:=aD X N a P P2.objs.size f H2 fp) _ s8 K H8 (.ref f.heap.objs.size) [y] (.ref f.heap.objs.size) [yv] (λ_ U=>Nx K U) I8 rfl (.cons ry .nil) ⟨_,xs,y,rfl,rfl,hx,hl,n8⟩) λ_ s9 Z=> ?_
     obtain⟨z,H9,I9,_,q9⟩:=Z
     exact again I9 q9
 exact codeAny_compStart_list a6 (T.self _ 0 _ _ _ (T.keep _ _ _ b2 λb _ o e=>Y b o e) a6)
section
variable{X:Cx}
def AW:jz X (.builtin "isinstance") (λxs H Q=>∃x T t b,xs= [x,.ty T]/\mv X.K H x t/\PySem.W.kitOne X.K t (.type T)=some b/\Q (.bl b) H):=by
 intro a s f H xs g Q I r h
 obtain⟨x,T,t,b,rfl,ty,e,q⟩:=h
 obtain⟨u,d,rfl,rx,rt⟩:=vals2 r
 cases (show d=Value.type T from rt)
 exact yB I rx ty e λc=>⟨.bl b,H,I.tok c,rfl,q⟩
def C5:List V->List V->Bool
 | [],[]=>true
 |x::xs,y::ys=>kb x y&&C5 xs ys
 |_,_=>false
theorem wW:∀{xs ys:List V},xs.length≠ys.length->C5 xs ys=false
 | [],[],h=>absurd rfl h
 | [],_::_,_=>rfl
 |_::_,[],_=>rfl
 | x::xs,y::ys,h=>by
   have:=wW (xs:=xs) (ys:=ys) λe=>h (by simp[e])
   show(kb x y&&C5 xs ys)=false
   rw[this,Bool.and_false]
theorem xF:∀{xs ys:List V},xs.length=ys.length->(List.range xs.length).all (λj=>kb (xs.getD j .non) (ys.getD j .non))=C5 xs ys
 | [],[],_=>rfl
 | [],_::_,h=>by cases h
 |_::_,[],h=>by cases h
 | x::xs,y::ys,h=>by
   have a:=xF (xs:=xs) (ys:=ys) (Nat.succ.inj h)
   rw[Qnq,List.range_succ_eq_map,List.all_cons,List.all_map]
   show(kb x y&&_)=(kb x y&&C5 xs ys)
   rw[←a]
   rfl
def Eh{A:Around}{s:Shared}{xs ys:List V}{a vs:List Value}(r:bf xs a)(d:bf ys vs)(f:xs.all dJ=true)(f':ys.all dJ=true)(j:Nat)(k:j<a.toArray.size)(i:j<vs.toArray.size):
  SeqAt.EqAt A s a.toArray[j] vs.toArray[j] (kb (xs.getD j .non) (ys.getD j .non)):=by
 have g:=r.length
 have l:=d.length
 have b:j<xs.length:=by rw[g];simpa using k
 have c:j<ys.length:=by rw[l];simpa using i
 obtain⟨u,e,o⟩:=r.get (gQe b)
 obtain⟨v,t,p⟩:=d.get (gQe c)
 have q:xs.getD j .non=xs[j]:=by rw[Qlq,gQe b];rfl
 have m:ys.getD j .non=ys[j]:=by rw[Qlq,gQe c];rfl
 have n:a.toArray[j]=u:=by
  have:=(gQs.mp e).2
  simpa using this
 have h:vs.toArray[j]=v:=by
  have:=(gQs.mp t).2
  simpa using this
 rw[n,h,q,m]
 exact A3 o p (QUq.mp f _ (List.getElem_mem b)) (QUq.mp f' _ (List.getElem_mem c))
def HB(K:PySem.W.Frag)(e:Bool):R2:=λx y H Q=>∃a b d c,x=.ref a/\y=.ref b/\gc K H a d/\gc K H b c/\d.all dJ=true/\c.all dJ=true/\Q (.bl (if e then !C5 d c else C5 d c)) H
def DI(p:X.A.units<cLine):ip X (compareOp .NotEq) (HB X.K true):=by
 intro t s J H x y v u Q I w C h
 obtain⟨a,b,f,i,rfl,rfl,ha,hb,fa,fb,q⟩:=h
 cases w
 cases C
 obtain⟨d,r,n,G⟩:=I.list ha
 obtain⟨l,m,c,F⟩:=I.list hb
 by_cases g:f.length=i.length
 ·have k:d.toArray.size=l.toArray.size:=by simp[←r.length,←m.length,g]
  refine SeqAt.RcNeAt.lists (e:=λj=>kb (f.getD j .non) (i.getD j .non)) n.isList c.isList k p (λj B z=>Eh r m fa fb j B z) _ _ _ _ ⟨.bl _,H,I,rfl,?_⟩
  rw[show d.toArray.size=f.length by simp[r.length],xF g]
  exact q
 ·refine SeqAt.RcNeAt.lists_lengths n.isList c.isList (by simpa [←r.length,←m.length] using g) p _ _ _ _ ⟨.bl _,H,I,rfl,?_⟩
  have o:Q (.bl (!C5 f i)) H:=q
  rw[wW g] at o
  exact o
end
section
variable{X:Cx}
def AA{bs:List Bool}{a:List Value}(r:bf (bs.map V.bl) a){i:Nat}{v:Value}(h:a.toArray[i]?=some v):v=.bool (bs.getD i false):=by
 have f:i<a.length:=by
  have:=(Array.getElem?_eq_some_iff.mp h).1
  simpa using this
 have l:=r.length
 rw[lQm] at l
 have b:i<bs.length:=by omega
 obtain⟨u,e,q⟩:=r.get (i:=i) (x:=V.bl bs[i]) (by rw[gQm,gQe b];rfl)
 have c:a[i]?=some v:=by simpa using h
 rw[e] at c
 cases c
 have d:bs.getD i false=bs[i]:=by rw[Qlq,gQe b];rfl
 rw[d]
 exact q
theorem uv:∀bs:List Bool,(List.range bs.length).all (λi=>bs.getD i false)=bs.all id
 | []=>rfl
 | b::bs=>by
   rw[Qnq,List.range_succ_eq_map,List.all_cons,List.all_map,List.all_cons,←uv bs]
   rfl
def F7(K:PySem.W.Frag)(f:List Bool->Bool):List V->Hp->VK->Prop:=λc H Q=>∃a b,c= [.ref a]/\gc K H a (b.map V.bl)/\Q (.bl (f b)) H
def y_(l:X.calm=true):jz X (.builtin "all") (F7 X.K λbs=>bs.all id):=by
 intro g s F H x B Q I r h
 obtain⟨a,bs,rfl,ha,q⟩:=h
 obtain⟨u,rfl,rx⟩:=vals1 r
 cases (show u=Value.ref a from rx)
 obtain⟨c,j,f,z⟩:=I.list ha
 have m:c.toArray.size=bs.length:=by have:=j.length;simp at this;simp[this]
 have d:a<s.heap.objs.size:=by obtain⟨o,e,_⟩:=f.isList;exact Qiq e
 refine call_all_walk (wpAny_pyIter_list f.isList ⟨s.heap.objs.size,_,_,_,_,_,λi=>bs.getD i false,rfl,Walks.list (A:=X.A.in1) (show X.A.in1.handled=none from I.ok.hd l) s.heap.objs.size a (Qwq d) c.toArray,⟨⟨_,Qrq _ rfl,rfl,rfl⟩,f.isList.at λo e=>Qcq _ e⟩,?_,λh' t p=> ?_⟩)
 ·intro i v y w C k n
  rw[AA j k]
  exact wpAny_truthy_bool n
 ·rw[m,uv]
  refine⟨.bl _,H,I.kept (h':=h') λb o e=>p b o ?_ (Qcq _ e),rfl,q⟩
  have:=Qiq e
  simp
  exact Qwq this
end
end L2
namespace Dk
open PySem
def pD:mroOf (Value.type "dict")=pure [Value.type "dict",Value.type "object"]:=by
 rw[mroOf_type]
 rfl
def m7:typeLookup (Value.type "dict") (Str.ofString "__new__")=pure (some (Value.builtin "dict.__new__")):=by
 rw[typeLookup_type,builtinLookup_eq_fast]
 rfl
def uu:isSubtype (Value.type "dict") (Value.type "dict")=pure true:=by
 rw[isSubtype_type]
 rfl
def fc:plainId "dict.__new__"=true:=by decide +kernel
def cg:TypeCalled "dict" "dict.__new__" "dict.__init__" where
 notType:=by decide +kernel
 canCreate:=by decide +kernel
 mro:=⟨_,_,pD⟩
 made:=madeBy_type pD m7 (by decide +kernel)
 plain:=fc
 sub:=uu
 init:=F.slot_dict_init
def mU(a:Value):checkTypeCall "dict" {pos:= [a]}=pure ():=by rfl
def oQ(a:Value):checkBuiltinCall "dict.__new__" {pos:= [Value.type "dict",a]}=pure ():=by with_unfolding_all rfl
def oF:entryFor table "dict.__new__"=some Builtin.«dict.__new__»:=by rfl
def nc{prog:Program}{w:World}{A:Around}{E:Value->Shared->Prop}{s:Shared}(a:Value){Q₁:Value->Shared->Prop}
  (h:Q₁ (.ref s.heap.objs.size) {s with heap:=s.heap.push {cls:=.type "dict",data:=.dict #[]}}):
  codeAny (model prog w) A (.call (.builtin "dict.__new__") {pos:= [.type "dict",a]}) (wants Q₁ E) s:=by
 refine codeAny_of_tree ?_
 show wpAny _ _ (do checkBuiltinCall "dict.__new__" _;_) _ _ _
 refine Qaq (wpAny_of_eq (oQ a) (Qgq ⟨plainId_quiet fc _,codeAny_builtin oF ?_⟩))
 rw[Around.under_plainId fc]
 refine Qaq (Qgq (QgQ rfl (Qaq (wpAny_of_eq uu (QgQ rfl (Qaq (wpAny_of_eq pD (QgQ ?_ ?_))))))))
 ·rfl
 ·refine Qaq ?_
  have e:newObj (.type "dict") (.dict #[])=newObjAsIs (.type "dict") (.dict #[]):=by
   unfold newObj
   simp
  rw[e]
  exact Qaq (wpAny_alloc (Qgq (Qgq h)))
def vf{prog:Program}{w:World}{A:Around}{E:Value->Shared->Prop}{s:Shared}{a:Value}{Q:Value->Shared->Prop}
  (h:wpAny (model prog w) A.in1.in1 (Builtin.«dict.__init__» {pos:= [.ref s.heap.objs.size,a]})
   (λq l=>match q with|.done f=>wants (λr b=>r=.none/\Q (.ref s.heap.objs.size) b) E (.ok f) l|.again x=>x.quiet=true/\codeAny (model prog w) A.in1 x (wants (λr b=>r=.none/\Q (.ref s.heap.objs.size) b) E) l)
   (λe l=>wants (λr b=>r=.none/\Q (.ref s.heap.objs.size) b) E (.error e) l) {s with heap:=s.heap.push {cls:=.type "dict",data:=.dict #[]}}):
  wpAny (model prog w) A (call (.type "dict") [a]) Q E s:=by
 obtain⟨c,C,j⟩:=cg.mro
 have i:=cg.made
 have k:=cg.sub
 refine wpAny_call (codeAny_of_tree ?_)
 refine Qgq ⟨Code.quiet_builtin _ (by decide +kernel),codeAny_builtin F.entry_type_call ?_⟩
 rw[Around.under_plain (weight_type_call_type "dict" [a] []) rfl]
 have G:=cg.notType
 have y:=cg.canCreate
 have m:=mU a
 unfold Builtin.«type.__call__»
 dsimp only
 refine QgQ rfl ?_
 refine QgQ (by rw[y];rfl) ?_
 refine Qaq (wpAny_of_eq m (Qaq (wpAny_of_eq j (QgQ rfl (Qaq (wpAny_of_eq i (Qaq (Qgq (Qaq (QLq (wpAny_call (codeAny_mono (nc (E:=E) (Q₁:=λv d=>v=.ref s.heap.objs.size/\d={s with heap:=s.heap.push {cls:=.type "dict",data:=.dict #[]}}) a ⟨rfl,rfl⟩) λr d g=> ?_))))))))))))
 cases r with
 |error e=>exact g
 | ok p=>
   cases p with
   | ret z=>
     obtain⟨rfl,rfl⟩:=g
     have B:=Qrq s.heap (o:={cls:=.type "dict",data:=.dict #[]}) rfl
     have n:Shared.TypeIs {s with heap:=s.heap.push {cls:=.type "dict",data:=.dict #[]}} (.ref s.heap.objs.size) "dict":=⟨_,B,rfl⟩
     have u:=cg.init.lookup
     have t:=cg.init.bind (.ref s.heap.objs.size)
     refine Qaq (wpAny_isInstance n k (QgQ rfl (Qaq (QLq ?_))))
     unfold callSpecial?
     refine Qaq (wpAny_specialOf n u (QLq (Qaq (wpAny_of_eq t (Qaq (wpAny_call (codeAny_mono (codeAny_call_builtin cg.init.plain F.entry_dict_init (cg.init.check _ _ _ _ _ [a] [] _ n (F.args_dict_init_2 _ _) h)) λr b g=> ?_)))))))
     cases r with
     |error e=>exact g
     | ok p=>
       cases p with
       | ret v=>
         obtain⟨rfl,hq⟩:=g
         exact Qgq (QgQ rfl (Qgq hq))
       |_=>exact g.elim
   |_=>exact g.elim
def ie:entryFor table "dict.update.loop"=some Builtin.«dict.update.loop»:=by rfl
def eL:plainId "dict.update.loop"=true:=by decide +kernel
section
variable{prog:Program}{w:World}{K:Type}[DecidableEq K]{knd:KeyKind prog w K}
def vI(a:List (K×Value))(k:K)(v:Value):(stored a k v).length<=a.length+1:=by
 unfold stored
 split
 ·rw[lQm];omega
 ·rw[lQa];simp
def Ek(a:Nat->K)(b:Nat->Value):Nat->List (K×Value)
 |0=> []
 |i+1=>stored (Ek a b i) (a i) (b i)
theorem xm(a:Nat->K)(b:Nat->Value):∀i,(Ek a b i).length<=i
 |0=>Qmq _
 |i+1=>QAq (vI _ _ _) (Nat.succ_le_succ (xm a b i))
end
end Dk
namespace L2
open PySem PySem.Spec PyProof.Rows
section
variable{X:Cx}
def key_is{k:Key}{u:Value}(r:RelV (kV k) u)(P:Program)(w:World):(bg P w).is k u=true:=by
 cases k with
 |inl i=>obtain⟨t,rfl⟩:=(show∃t,u=Value.int i t from r);simp[bg,mL,Value.isInt]
 |inr x=>obtain⟨t,rfl⟩:=(show∃t,u=Value.str x t from r);simp[bg,mL,Value.isStrOf]
end
end L2
namespace Dk
open PySem
end Dk
namespace L2
open PySem PySem.Spec PyProof.Rows
def CC{X:Cx}{N:List Str}{js:List (Option Nat)}{a:Scope}{U:List (Str×Addr)}{tg P a6 G:Expr}{b0:List Expr}{pos b1:Pos}{wi:TI}{g gt:TG}{tt:TT}{te:TE}
  (S:aR X N js a U) (hc:X.calm=true) (hi:PI X tg P wi)
  (hg:∀C s H fp,PG (aD X N a U C s H fp) tg g) (ht:∀C s H fp,jH (aD X N a U C s H fp) b0 tt) (he:∀C s H fp,PE (aD X N a U C s H fp) a6 te) (d5:PG X G gt)
  (hs:∀x,foldedSetIterable P X.env x=pure x:=by intro _;rfl) (e3:swapsWithSole [G] (.ListComp a6 [⟨tg,P,b0,0⟩] a pos) b1.line X.env=pure true:=by rfl)
  (h1:(assignEach [G] X.env).map (·.2)= [assign G X.env]:=by rfl):PS X (.Assign [G] (.ListComp a6 [⟨tg,P,b0,0⟩] a pos) b1) (ze (zy js wi g tt te) gt):=by
 intro Y s σ H Dn I h
 rw[exec_Assign_arm]
 refine Qaq (wpAny_standAt (Qaq (wpAny_of_eq e3 (wpAny_ite_true rfl (Qaq ?_)))))
 rw[h1]
 show wpAny _ _ (do let _←comprehension _ _ _ _ _ _ _ (some λv=>assignAll v [assign G X.env]);pure ()) _ _ _
 refine Qaq ?_
 refine wpAny_comprehension_free (use:=some λv=>assignAll v [assign G X.env]) rfl hs S.clos S.kind S.names (bP (hi Y s σ H _ I h) λv s1 h1=>bP h1 λe4 k h2=> ?_)
 obtain⟨it,fp,tn,J,H2,e,B,T,b5,f2,hD⟩:=h2
 subst e
 refine QhQ (wpAny_newFunctionEnv S.nocell (by intro y hy;simp at hy) (λM L t=> ?_) S.kind)
 dsimp only at L t⊢
 generalize b4:k.heap.push {cls:=.type "list",dict:=none,data:=.seq ([]:List Value).toArray}=P2 at L t⊢
 have hC:P2.objs.size=k.heap.objs.size+1:=by rw[←b4,Heap.size_push]
 have d4:k.heap.objs.size≠P2.objs.size:=by rw[hC];exact Qwq (Nat.lt_succ_self _)
 have a2:k.heap.objs.size<=P2.objs.size:=by rw[hC];exact Nat.le_succ _
 have K:∀b,b<k.heap.objs.size->b≠P2.objs.size:=λb f=>by rw[hC];exact Qwq (Nat.lt_succ_of_lt f)
 have a0:∀b o,k.heap.get? b=some o->M.get? b=some o:=λb o e=>t.extBut b o (K b (Qiq e)) (Qcq _ (b4▸Qcq _ e))
 have c5:M.get? k.heap.objs.size=some {cls:=.type "list",dict:=none,data:=.seq ([]:List Value).toArray}:=t.extBut _ _ d4 (Qcq _ (b4▸Qrq _ rfl))
 have nD:H2 k.heap.objs.size=none:=B.fresh
 have nC:H2 P2.objs.size=none:=B.hok.fresh a2
 have b3:∀b∈fp,b<k.heap.objs.size:=λb f=>by
  obtain⟨o,e,_⟩:=T.obj _ _ b5 b f
  exact Qiq e
 obtain⟨W,⟨m0,w0⟩,c0⟩:=hD k.heap.objs.size nD
 have b8:(aD X N a U P2.objs.size k H2 fp).Ok:=by
  refine⟨B.ok.mod,S.kind,B.ok.glob,B.ok.blt,a2,λx y c h1 h2=>B.ok.inj x y c (S.sub x c h1) (S.sub y c h2),S.has,(λx c h=>by cases h),B.ok.hd,B.ok.frames,.inl rfl,
   λb f=>⟨K b (b3 b f),λx c h=>(f2 b f).2.2.2.2.1 x c (S.sub x c h)⟩,B.bs,QAq B.ok.bsz B.sz,λb o e f=> ?_,λb f z=> ?_,B.stack,B.stkFree⟩
  ·rcases(f2 b f).2.2.2.1 with z|z
   ·exact B.ok.noex b o e z
   ·exact absurd (Qqq (Qqq (Qiq e) B.ok.bsz) z) (Nat.lt_irrefl _)
  ·rcases Qsq.mp (B.stkSub b z) with q|q
   ·exact(f2 b f).2.1 q
   ·exact(f2 b f).2.2.1 q
 have c8:b9 X.prog X.w (upd H2 k.heap.objs.size (.lst [])) M k.heap.objs.size (.lst []):=⟨Nat.zero_le _,[],0,.nil,c5⟩
 have I4:Inv (aD X N a U P2.objs.size k H2 fp) [] (g9 js σ) (upd H2 k.heap.objs.size (.lst [])) {k with heap:=M,toks:=k.toks+([]:List (Str×Value)).length}:=by
  refine⟨b8,rfl,B.bare,Un.laid a0 (Qmq _) nD,⟨_,L,λi x v h1 h2 h3=> ?_⟩,λx c h=> ?_,by show upd H2 _ _ P2.objs.size=none;rw[aO d4.symm];exact nC,λx c h=> ?_,λp hp=>absurd (show p∈([]:List (Addr×Obj)) from hp) (by simp),B.hok.laid a0 (Qmq _) c8,by show(g9 js σ).length=N.length;unfold g9;rw[lQm];exact S.len⟩
  ·unfold g9 at h2
   rw[gQm] at h2
   cases e:js[i]? with
   |none=>rw[e] at h2;cases h2
   | some o=>
     rw[e] at h2
     cases o with
     |none=>cases h2
     | some j=>
       have a3:σ.getD j none=some v:=QdQ h2
       have hj:σ[j]?=some (some v):=by
         rw[Qlq] at a3
         cases q:σ[j]? with
         |none=>rw[q] at a3;cases a3
         |some y=>rw[q] at a3;exact congrArg some a3
       obtain⟨c1,c2,c3⟩:=S.cap i j x e h1
       obtain⟨m,hn,hl⟩:=B.loc
       have d9:C2 X.env.scope x:=by
         rcases c2 with z|z
         · exact .inr (.inl z)
         · exact .inr (.inr z)
       obtain⟨u,r,l⟩:=hl j x v c1 hj d9
       refine⟨u,r,.inr ⟨c3,?_⟩⟩
       obtain⟨c,d1⟩:=S.has x c3
       refine⟨c,d1,?_⟩
       rcases l with⟨z,_⟩|⟨_,c',e',z⟩
       · rcases c2 with y|y <;>rw[y] at z <;>cases z
       · rw[S.sub x c d1] at e'
         cases e'
         obtain⟨o,ho,hd⟩:=z
         exact⟨o,a0 _ _ ho,hd⟩
  ·obtain⟨v,o,ho,hd⟩:=B.cell x c (S.sub x c h)
   exact⟨v,o,a0 _ _ ho,hd⟩
  ·obtain⟨v,o,ho,hd⟩:=B.cell x c (S.sub x c h)
   rw[aO (Qwq (Qiq ho))]
   exact B.freeC x c (S.sub x c h)
 have a5:∀{Q:List (Addr×Obj)} {Z:Hp},Q= []->(∀b∈fp,Z b=none)->∀b∈fp,mh (aD X N a U P2.objs.size k H2 fp) Q Z b:=λ{Q Z} ep hn b f=>by
  subst ep
  refine⟨hn b f,K b (b3 b f),λz=>b8.exfs b f z,.inl f,λx c h=>(f2 b f).2.2.2.2.1 x c (S.sub x c h),λp hp=>absurd (show p∈([]:List (Addr×Obj)) from hp) (by simp)⟩
 have b2:codeAny (model X.prog X.w) X.A (.compLoop (.ListComp a6 [⟨tg,P,b0,0⟩] a pos) 0 (.ref it) (.ref k.heap.objs.size) (compEnvC a U P2.objs.size X.env))
   (compPost (model X.prog X.w) X.A X.xe (some λv=>assignAll v [assign G X.env]) (λ_ s9=>wpAny (model X.prog X.w) X.A (pure ()) (λ_ d8=>wpAny (model X.prog X.w) X.A (pure Flow.next) (SP X Y Dn) X.xe d8) X.xe s9) (.ref k.heap.objs.size) P2.objs.size) {k with heap:=M,toks:=k.toks+([]:List (Str×Value)).length}:=by
  refine kG (λn s'=>∃i a4 Z,Inv (aD X N a U P2.objs.size k H2 fp) [] a4 Z s'/\tn i s'.heap/\(∀b∈fp,Z b=none)/\W i n a4 Z) ?_ m0
   ⟨0,_,_,I4,T.keep _ _ _ b5 λb _ o e=>a0 b o e,λb f=>by rw[aO (Qwq (b3 b f))];exact(f2 b f).1,w0⟩
  rintro n s3 ⟨i,a8,H3,I3,d2,d3,w3⟩
  rcases c0 i n a8 H3 w3 with⟨stop,q⟩|⟨go,Nx,hN,c6⟩
  ·refine bP (T.done (aD X N a U P2.objs.size k H2 fp) rfl rfl rfl hc i [] s3 a8 H3 _ I3 (a5 rfl d3) d2 stop) λr s4 R=> ?_
   obtain⟨hr,I5⟩:=R
   subst hr
   obtain⟨m,hn,_⟩:=id I5.loc
   have d7:∀h',Heap.SameBut P2.objs.size s4.heap h'->Inv X Y σ H3 {s4 with heap:=h'}:=by
    intro h' a1
    have u:=I5.base
    have ne:∀b o,k.heap.get? b=some o->b≠P2.objs.size:=λb o e=>K b (Qiq e)
    refine B.call' (ch:=fp) I5.os ⟨λb o e n f hx=>(a1.2 b (ne b o e)).trans (u.keep b o e n f hx),λb o e n f hx=> ?_,u.free,λb o e hx=> ?_,u.tups,u.frzs,u.tbls⟩ (λb ob e=> ?_) I5.bare λb f=>⟨(f2 b f).2.2.2.1,(f2 b f).2.1,(f2 b f).2.2.2.2.1,(f2 b f).2.2.2.2.2⟩
    ·obtain⟨sl,e1⟩:=u.slot b o e n f hx
     exact⟨sl,(a1.2 b (ne b o e)).trans e1⟩
    ·obtain⟨o',e1⟩:=u.there b o e hx
     exact⟨o',(a1.2 b (ne b o e)).trans e1⟩
    ·refine(I5.hok b ob e).stay (λc w' hc q=>(a1.2 c ?_).trans q) (λ_ q=>q) λ_ _ q=>q
     have fC:H3 P2.objs.size=none:=I5.free
     rintro rfl
     rcases hc with z|z
     ·rw[←z,fC] at e;cases e
     ·rw[fC] at z;cases z
   have IX:=d7 s4.heap ⟨rfl,λ_ _=>rfl⟩
   have a9:mh X Y H3 P2.objs.size:=B.fpOk a2 I5.free
   obtain⟨oC,es,ep,b7,c4,d6⟩:=hn
   have IP:=IX.pinned (fp:= [P2.objs.size]) (λb f=>by rw[Qfq] at f;rw[f];exact a9) (λb f=>by rw[Qfq] at f;rw[f];exact⟨oC,b7,λv=>by rw[c4];simp⟩)
   show wpAny _ _ (assignAll (.ref k.heap.objs.size) [assign G X.env]) _ _ _
   rw[assignAll.eq_2]
   refine bP (d5 _ s4 σ H3 (.ref k.heap.objs.size) (.ref k.heap.objs.size) _ IP rfl q) λ_ s6 R=> ?_
   obtain⟨F,H6,I6,q6⟩:=R
   have pC:=I6.pin (P2.objs.size,oC) (Qoq _ (Qoq _ (cu (Qfq.mpr rfl) b7)))
   refine⟨m,⟨oC,es,ep,pC.1,c4,d6⟩,λh' a1=>Qgq (Qgq ⟨F,H6,?_,q6⟩)⟩
   exact I6.unpinned.turned (it:=P2.objs.size) (t':=s6.toks) (λb o' f e=>(a1.2 b f).trans e) pC.2.1 pC.2.2.1 a9.2.2.2.1 a9.2.2.2.2.1 a9.2.2.2.2.2
  ·refine bP (T.item (aD X N a U P2.objs.size k H2 fp) rfl rfl rfl hc i [] s3 a8 H3 _ I3 (a5 rfl d3) d2 go) λr s4 R=> ?_
   obtain⟨u,hr,h4⟩:=R
   subst hr
   refine bP h4 λ_ s5 R=> ?_
   obtain⟨x,H5,I5,r5,y5,b6,e2⟩:=R
   have e0:=I5.pinned (a5 rfl e2) (T.obj _ _ b6)
   refine bP (hg P2.objs.size k H2 fp _ s5 a8 H5 x u _ e0 r5 (c6 x H5 y5)) λ_ s6 R=> ?_
   obtain⟨F,H6,I6,q6⟩:=R
   refine bP (ht P2.objs.size k H2 fp _ s6 F H6 _ I6 q6) λok s7 R=> ?_
   obtain⟨H7,I7,q7⟩:=R
   have again:∀{s8:Shared} {H8:Hp},Inv (aD X N a U P2.objs.size k H2 fp) ([]++jY fp s5.heap) F H8 s8->Nx F H8->∃m,m<n/\∃i a4 Z,Inv (aD X N a U P2.objs.size k H2 fp) [] a4 Z s8/\tn i s8.heap/\(∀b∈fp,Z b=none)/\W i m a4 Z:=λ{s8 H8} I8 n8=>by
    obtain⟨m',hm,w8⟩:=hN F H8 n8
    refine⟨m',hm,i+1,F,H8,I8.unpinned,T.keep _ _ _ b6 λb f o e=>(I8.pin (b,o) (Qoq _ (Qoq _ (cu f e)))).1,λb f=> ?_,w8⟩
    obtain⟨o,e,d⟩:=T.obj _ _ b6 b f
    exact(I8.pin (b,o) (Qoq _ (Qoq _ (cu f e)))).2.1
   cases ok with
   |false=>exact again I7 q7
   | true=>
     refine bP (he P2.objs.size k H2 fp _ s7 F H7 _ I7 q7) λyv s8 R=> ?_
     obtain⟨y,H8,I8,ry,xs,hx,hl,n8⟩:=R
     refine bP (lN (X:=aD X N a U P2.objs.size k H2 fp) _ s8 F H8 (.ref k.heap.objs.size) [y] (.ref k.heap.objs.size) [yv] (λ_ Z=>Nx F Z) I8 rfl (.cons ry .nil) ⟨_,xs,y,rfl,rfl,hx,hl,n8⟩) λ_ s9 R=> ?_
     obtain⟨z,H9,I9,_,q9⟩:=R
     exact again I9 q9
 exact codeAny_compStart_list b2 (T.self _ 0 _ _ _ (T.keep _ _ _ b5 λb _ o e=>a0 b o e) b2)
end L2
namespace Dk
open PySem
end Dk
namespace L2
open PySem PySem.Spec PyProof.Rows
end L2
namespace Zp
open PySem
section
variable{prog:Program}{w:World}{A:Around}{E:Value->Shared->Prop}{s:Shared}
def Gf{i t:Addr}{k:Nat}{vs:Array Value}{v:Value}{Q:Value->Shared->Prop}(c:s.heap.IsTupleIter i t k)(e:s.heap.IsTuple t vs)(g:vs[k]?=some v)
  (q:∀h',h'.IsTupleIter i t (k+1)->Heap.SameBut i s.heap h'->Q v {s with heap:=h'}):wpAny (model prog w) A (Builtin.SmallTypes.nextOf (.ref i)) Q E s:=by
 obtain⟨m,b,h,a⟩:=id c
 obtain⟨j,d,_,l,f⟩:=e
 unfold Builtin.SmallTypes.nextOf
 refine Qaq (QiQ (name:=Str.ofString "__next__") c.typeIs F.slot_tuple_iterator_next (wpAny_call_entry F.slot_tuple_iterator_next c.typeIs F.entry_tuple_iterator_next ?_ (F.args_tuple_iterator_next_1 _)))
 refine(?_:wpAny _ _ (field (.ref i) 0 >>= _) _ _ s)
 refine Qaq (QMq b a (x:=.ref t) rfl ?_)
 refine(?_:wpAny _ _ (if (Value.ref t==Value.none)=true then _ else _) _ _ s)
 rw[Quq (λz=>by cases (show false=true from z))]
 refine(?_:wpAny _ _ (field (.ref i) 1 >>= _) _ _ s)
 refine Qaq (QMq b a (x:=.int k 0) rfl ?_)
 refine(?_:wpAny _ _ (seqItems? (.ref t) >>= _) _ _ s)
 refine Qaq (wpAny_seqItems d f ?_)
 simp only[Int.toNat_natCast,g]
 refine Qaq (wpAny_setField b a (by simp) (Qgq ⟨v,rfl,Qgq (q _ ⟨_,Heap.get?_update_self _ b (Obj.isFreed_of_fields (Obj.data_mapFields a _)),(Obj.cls_mapFields ..).trans h,?_⟩ (Heap.SameBut.update ..))⟩))
 rw[Obj.data_mapFields a]
 simp[rawInt]
def Gw{i t:Addr}{k:Nat}{vs:Array Value}{Q:Value->Shared->Prop}(f:A.handled=none)(d:s.heap.IsTupleIter i t k)(h:s.heap.IsTuple t vs)(l:vs[k]?=none)
  (q:∀h' e,Heap.ExtBut i s.heap h'->(∃o,h'.get? e=some o/\o.cls=.type "StopIteration")->E (.ref e) {s with heap:=h'}):wpAny (model prog w) A (Builtin.SmallTypes.nextOf (.ref i)) Q E s:=by
 obtain⟨r,b,u,c⟩:=id d
 obtain⟨n,g,_,p,j⟩:=h
 unfold Builtin.SmallTypes.nextOf
 refine Qaq (QiQ (name:=Str.ofString "__next__") d.typeIs F.slot_tuple_iterator_next (wpAny_call_entry F.slot_tuple_iterator_next d.typeIs F.entry_tuple_iterator_next ?_ (F.args_tuple_iterator_next_1 _)))
 refine(?_:wpAny _ _ (field (.ref i) 0 >>= _) _ _ s)
 refine Qaq (QMq b c (x:=.ref t) rfl ?_)
 refine(?_:wpAny _ _ (if (Value.ref t==Value.none)=true then _ else _) _ _ s)
 rw[Quq (λz=>by cases (show false=true from z))]
 refine(?_:wpAny _ _ (field (.ref i) 1 >>= _) _ _ s)
 refine Qaq (QMq b c (x:=.int k 0) rfl ?_)
 refine(?_:wpAny _ _ (seqItems? (.ref t) >>= _) _ _ s)
 refine Qaq (wpAny_seqItems g j ?_)
 simp only[Int.toNat_natCast,l]
 refine Qaq (wpAny_rule (Qaq (wpAny_setField b c (by simp) ?_)))
 refine(?_:wpAny _ _ (newExc (.type "StopIteration") [] >>= _) _ _ _)
 refine Qaq ?_
 simp only[newExc,newTuple]
 refine Qaq (QhQ ?_ (by size_fits))
 refine Qaq (m:=firstArgMember _ _) (wpAny_of_eq (a:=Value.none) (by first|rfl|(simp only[firstArgMember];rfl)) (QhQ ?_ (by size_fits)))
 simp only[raiseNew]
 refine Qaq (wpAny_handled ?_)
 first|rw[show A.in1.handled=none from f]|rw[f]
 exact Qaq (Qgq (wpAny_throw (q _ _ (((Heap.SameBut.update ..).extBut.push _).push _) ⟨_,Qrq _ rfl,rfl⟩)))
end
def Rest(z O i j:Addr)(h h':Heap):Prop:=∀c o,c≠z->c≠O->c≠i->c≠j->h.get? c=some o->h'.get? c=some o
end Zp
namespace L2
open PySem PySem.Spec PyProof.Rows
section
variable{X:Cx}{pins:List (Addr×Obj)}{σ:St}{H:Hp}{s:Shared}{h':Heap}
def Inv.turnedL{t':Nat}{fp:List Addr}(I:Inv X pins σ H s)(d:∀b∈fp,mh X pins H b)(k:∀b o,b∉fp->s.heap.get? b=some o->h'.get? b=some o):Inv X pins σ H {s with heap:=h',toks:=t'}:=by
 have f:∀b u,H b=some u->b∉fp:=λb u e z=>by rw[(d b z).1] at e;cases e
 refine I.step (g':=s.gens) (d':=s.drawn) (ch:=fp) (λb g=>⟨(d b g).2.2.2.1,(d b g).2.1,(d b g).2.2.2.2.1,(d b g).2.2.2.2.2⟩) (λb o _ _ a e _=>k b o a e) (λb o _ _ a e _=>⟨o.slots,k b o a e⟩) (λ_ _ _ _ n=>n)
  (λb o a e=>⟨o,k b o a e⟩) (λ_ _ e=>e) (λ_ _ _ e=>e) (λb p e=>⟨#[],by rw[e];simp⟩) (λm i=> ?_) (λb u e=> ?_) I.bare
 ·obtain⟨o,j,l,h,r⟩:=i
  exact⟨o,j,l,k _ o (λz=>(d _ z).2.1 rfl) h,r⟩
 ·refine(I.hok b u e).stay (λc v a q=>k c v ?_ q) (λ_ q=>q) λ_ _ q=>q
  rcases a with z|z
  ·rw[z];exact f b u e
  ·exact f c _ z
def Inv.turnedNew{t':Nat}{fp:List Addr}{p:Addr}{o:HO}(I:Inv X pins σ H s)(f:∀b∈fp,mh X pins H b)(k:∀b u,b∉fp->s.heap.get? b=some u->h'.get? b=some u)(i:s.heap.objs.size<=p)
  (new:b9 X.prog X.w (upd H p o) h' p o):Inv X pins σ (upd H p o) {s with heap:=h',toks:=t'}:=by
 have j:=I.hok.fresh i
 have g:∀b u,H b=some u->b∉fp:=λb u e z=>by rw[(f b z).1] at e;cases e
 have h:∀b u,H b=some u->upd H p o b=some u:=λb u e=>by rw[aO (di e j)];exact e
 refine I.step (g':=s.gens) (d':=s.drawn) (ch:=fp) (λb a=>⟨(f b a).2.2.2.1,(f b a).2.1,(f b a).2.2.2.2.1,(f b a).2.2.2.2.2⟩) (λb o _ _ d e _=>k b o d e) (λb o _ _ d e _=>⟨o.slots,k b o d e⟩)
  (λb u _ e n=>by rw[aO (λz=>Nat.lt_irrefl _ (Qqq (Qiq e) (by rw[z];exact i)))];exact n)
  (λb o d e=>⟨o,k b o d e⟩) (λb B e=>h b _ e) (λb u v e=>h b _ e) (λb A e=>⟨#[],by rw[h b _ e];simp⟩) (λm t=> ?_) (λb u e=> ?_) I.bare
 ·obtain⟨o,x,y,l,r⟩:=t
  exact⟨o,x,y,k _ o (λz=>(f _ z).2.1 rfl) l,r⟩
 ·by_cases a:b=p
  ·subst a
   rw[bx] at e
   cases e
   exact new
  ·rw[aO a] at e
   refine(I.hok b u e).stay (λc v d q=>k c v ?_ q) (λc q=>h c _ q) λc _ q=>h c _ q
   rcases d with z|z
   ·rw[z];exact g b u e
   ·exact g c _ z
end
end L2
namespace Zp
open PySem PySem.W PyProof.Rows
end Zp
namespace L2
open PySem PySem.Spec PyProof.Rows
section
variable{X:Cx}
def CD:ip X (binaryOp .Mult) (rI IntMulOk λi j=>.int (i*j)):=GN λ_ _ _ _ _ _ _ a q=>mul_int q a
end
section
variable{X:Cx}
def Aw:Fl X (λx y H Q=>∃p xs k v,x=.ref p/\y=.int ((k:Nat):Int)/\gc X.K H p xs/\xs[k]?=some v/\Q v H):=by
 intro b s m H x y v u Q I d f h
 obtain⟨p,xs,k,z,rfl,rfl,hq,he,q⟩:=h
 cases d
 obtain⟨t,rfl⟩:=f
 obtain⟨i,r,c,l⟩:=I.list hq
 obtain⟨e,g,a⟩:=r.get he
 have n:k<xs.length:=(gQs.mp he).1
 have j:=iz
 exact wpAny_getItem_list c.isList (x:=e) (Int.natCast_nonneg k) (by omega) (by simpa using g) ⟨z,H,I,a,q⟩
end
section
variable{X:Cx}
def Aa(K:PySem.W.Frag):R2:=λx y H Q=>∃a b c,x=.ref a/\y=.ref b/\gc K H a c/\gc K H b []/\Q (.bl (!c.isEmpty)) H
def Bf(f:X.A.units<cLine):ip X (compareOp .NotEq) (Aa X.K):=by
 intro c s p H x y v u Q I e g h
 obtain⟨a,b,l,rfl,rfl,ha,hb,q⟩:=h
 cases l with
 |nil=>exact DI f c s p H _ _ v u Q I e g ⟨a,b,[],[],rfl,rfl,ha,hb,rfl,rfl,q⟩
 | cons z w=>
   cases e
   cases g
   obtain⟨t,r,j,B⟩:=I.list ha
   obtain⟨i,m,d,o⟩:=I.list hb
   have k:=r.length
   have n:=m.length
   exact SeqAt.RcNeAt.lists_lengths j.isList d.isList (by simp[←k,←n]) f _ _ _ _ ⟨.bl true,H,I,rfl,q⟩
end
end L2
namespace HT
open PySem PySem.Spec PyProof.Rows
section
variable{prog:Program}{w:World}{A:Around}{E:Value->Shared->Prop}{s:Shared}
def jw{t d:Addr}{items:Array Value}{i j:Value}{lo hi:Option Int}{Q:Value->Shared->Prop}(b:IsTup s.heap t items)(k:s.heap.IsSliceOf d i j .none)(l:IsPart i lo)(q:IsPart j hi)
  (g:dk items.size 0 lo=0/\dk items.size items.size hi=items.size) (h:Q (.ref t) s):wpAny (model prog w) A (getItem (.ref t) (.ref d)) Q E s:=by
 obtain⟨p,f,e,o⟩:=id k
 have c:s.TypeIs (.ref d) "slice":=⟨p,f,e⟩
 unfold getItem
 try with_reducible refine QLq ?_
 first|refine Qaq (Qgq ?_)|skip
 refine Qaq (wpAny_sequenceKey b.typeIs (by decide) ?_)
 refine Qaq (QiQ (name:=Str.ofString "__getitem__") b.typeIs PyProof.Rows.slot_tuple_getitem
  (wpAny_call_entry PyProof.Rows.slot_tuple_getitem b.typeIs entry_tuple_getitem ?_ (args_tuple_getitem _ _)))
 show wpAny _ _ (Builtin.Tuple.tupleItemsOf (.ref t) >>= _) _ _ s
 refine Qaq (tupleItemsOf_ b ?_)
 refine Qaq (wpAny_typeOf c ?_)
 rw[Qhq (by decide)]
 refine Qaq (gh k l q ?_)
 have a:(((dk items.size 0 lo:Nat):Int)==0&&(1:Int)==1&&(dk items.size items.size hi-dk items.size 0 lo)==items.size)=true:=by
  rw[g.1,g.2]
  simp
 show wpAny _ _ (if (((dk items.size 0 lo:Nat):Int)==0&&(1:Int)==1&&(dk items.size items.size hi-dk items.size 0 lo)==items.size)=true then _ else _) _ _ s
 rw[Qhq a]
 have n:∀{A:Around} {E:Value->Shared->Prop} {R:Bool->Shared->Prop},R true s->wpAny (model prog w) A (Builtin.Tuple.tupleIsExact (.ref t)) R E s:=λ{A E R} h=>by
  unfold Builtin.Tuple.tupleIsExact
  exact Qaq (wpAny_typeOf b.typeIs (Qgq h))
 refine Qaq (m:=Builtin.Tuple.tupleIsExact _) (n ?_)
 rw[Qhq rfl]
 refine Qaq (wpAny_rule ?_)
 exact Qgq ⟨_,rfl,Qgq h⟩
end
end HT
namespace L2
open PySem PySem.Spec PyProof.Rows
def Ih(K:PySem.W.Frag):V->Option Int->Option Int->Hp->VK->Prop:=λx c d H Q=>∃a b,x=.ref a/\fe K H a b∧
 (HT.dk b.length 0 c=0/\HT.dk b.length b.length d=b.length->Q (.ref a) H)/\(¬(HT.dk b.length 0 c=0/\HT.dk b.length b.length d=b.length)->∀p,H p=none->Q (.ref p) (upd H p (.tup (vn b c d))))
def BL{X:Cx}:Iv X (Ih X.K):=by
 intro d s t H x v o q g l p Q I k j i n h
 obtain⟨a,b,rfl,hx,q1,q2⟩:=h
 by_cases e:HT.dk b.length 0 g=0/\HT.dk b.length b.length l=b.length
 ·cases k
  obtain⟨f,r,m,u⟩:=I.tuple hx
  have c:f.toArray.size=b.length:=by rw[Qjq];exact r.length.symm
  refine⟨"tuple",_,PyProof.Rows.slot_tuple_getitem.lookup,m.typeIs,?_⟩
  exact HT.jw m j i n (by rw[c];exact e) ⟨.ref a,H,I,rfl,q1 e⟩
 ·exact DF d s t H _ v o q g l p Q I k j i n ⟨a,b,rfl,hx,e,q2 e⟩
end L2
namespace DL
open PySem PySem.Spec PyProof.Rows L2
inductive D where
 |non|bl (b:Bool)|int (i:Int)|str (x:Str)|tup (xs:List D)|ref (k:Nat)|fn (x:Str)
inductive O where
 |lst (xs:List D)|frz (xs:List D)|dct (kvs:List (Key×D))
abbrev aC:=List O
abbrev cN:=List (Option D)
structure Md where
 K:PySem.W.Frag
 mg:Str->Option Value
mutual
inductive Rel(M:Md)(ρ:List Addr)(H:Hp):D->V->Prop
 |non:Rel M ρ H .non .non
 |bl (b:Bool):Rel M ρ H (.bl b) (.bl b)
 |int (i:Int):Rel M ρ H (.int i) (.int i)
 |str (x:Str):Rel M ρ H (.str x) (.str x)
 |tup {a:Addr} {vs:List V} {ds:List D}:H a=some (.tup vs)->aN M ρ H ds vs->Rel M ρ H (.tup ds) (.ref a)
 |ref {k:Nat} {a:Addr}:ρ[k]?=some a->Rel M ρ H (.ref k) (.ref a)
 |fn {x:Str} {a:Addr}:M.mg x=some (.ref a)->Rel M ρ H (.fn x) (.ref a)
inductive aN(M:Md)(ρ:List Addr)(H:Hp):List D->List V->Prop
 |nil:aN M ρ H [] []
 |cons {d:D} {v:V} {ds:List D} {vs:List V}:Rel M ρ H d v->aN M ρ H ds vs->aN M ρ H (d::ds) (v::vs)
end
section
variable{M:Md}{ρ ρ':List Addr}{H H':Hp}
def Jg:HO->Prop
 |.tup _=>True
 |.frz _ _=>True
 |_=>False
structure bB(ρ:List Addr)(H:Hp)(ρ':List Addr)(H':Hp):Prop where
 pre:ρ <+: ρ'
 new:∀a∈ρ',a∈ρ\/H a=none
 keep:∀a o,H a=some o->a∉ρ\/Jg o->H' a=some o
 grow:∀a,H' a=none->H a=none
def bB.refl:bB ρ H ρ H:=⟨List.prefix_refl _,λ_ h=>.inl h,λ_ _ h _=>h,λ_ h=>h⟩
def bB.trans{d b:List Addr}{H1 H2:Hp}(e:bB ρ H d H1)(f:bB d H1 b H2):bB ρ H b H2 where
 pre:=e.pre.trans f.pre
 new:=λa h=>(f.new a h).elim (λh=>e.new a h) λh=>.inr (e.grow a h)
 keep:=λa o h c=>f.keep a o (e.keep a o h c) (c.imp (λn m=>(e.new a m).elim n λz=>by rw[z] at h;cases h) id)
 grow:=λa h=>e.grow a (f.grow a h)
def bB.laid{a:Addr}{o:HO}(h:H a=none):bB ρ H ρ (upd H a o) where
 pre:=List.prefix_refl _
 new:=λ_ h=>.inl h
 keep:=λb c e _=>by rw[aO];exact e;intro z;subst z;rw[h] at e;cases e
 grow:=λb e=>by
  by_cases z:b=a
  ·subst z;exact h
  ·rw[aO z] at e;exact e
theorem iA{α:Type}:∀{l:List α},l.Nodup->∀{i j:Nat} {a:α},l[i]?=some a->l[j]?=some a->i=j
 | [],_,_,_,_,h,_=>by simp at h
 |x::l,n,0,0,_,_,_=>rfl
 | x::l,n,0,j+1,a,h1,h2=>by
   rw[List.nodup_cons] at n
   simp at h1 h2
   subst h1
   exact absurd (mQg h2) n.1
 | x::l,n,i+1,0,a,h1,h2=>by
   rw[List.nodup_cons] at n
   simp at h1 h2
   subst h2
   exact absurd (mQg h1) n.1
 | x::l,n,i+1,j+1,a,h1,h2=>by
   rw[List.nodup_cons] at n
   simp at h1 h2
   exact congrArg (·+1) (iA n.2 h1 h2)
def bF{α e:Type}{a c:α}{b d:e}(h:some (a,b)=some (c,d)):a=c/\b=d:=by cases h;exact⟨rfl,rfl⟩
def bT{α:Type}{l b:List α}(h:l <+: b){k:Nat}{a:α}(e:l[k]?=some a):b[k]?=some a:=by
 obtain⟨t,rfl⟩:=h
 rw[QHq (gQs.mp e).1]
 exact e
mutual
theorem Rel.ext(e:bB ρ H ρ' H'):∀{d:D} {v:V},Rel M ρ H d v->Rel M ρ' H' d v
 |_,_,.non=>.non
 |_,_,.bl b=>.bl b
 |_,_,.int i=>.int i
 |_,_,.str x=>.str x
 |_,_,.tup h hs=>.tup (e.keep _ _ h (.inr trivial)) (aN.ext e hs)
 |_,_,.ref h=>.ref (bT e.pre h)
 |_,_,.fn h=>.fn h
theorem aN.ext(e:bB ρ H ρ' H'):∀{ds:List D} {vs:List V},aN M ρ H ds vs->aN M ρ' H' ds vs
 |_,_,.nil=>.nil
 |_,_,.cons h hs=>.cons (Rel.ext e h) (aN.ext e hs)
end
mutual
theorem Rel.pre(e:ρ <+: ρ'):∀{d:D} {v:V},Rel M ρ H d v->Rel M ρ' H d v
 |_,_,.non=>.non
 |_,_,.bl b=>.bl b
 |_,_,.int i=>.int i
 |_,_,.str x=>.str x
 |_,_,.tup h hs=>.tup h (aN.pre e hs)
 |_,_,.ref h=>.ref (bT e h)
 |_,_,.fn h=>.fn h
theorem aN.pre(e:ρ <+: ρ'):∀{ds:List D} {vs:List V},aN M ρ H ds vs->aN M ρ' H ds vs
 |_,_,.nil=>.nil
 |_,_,.cons h hs=>.cons (Rel.pre e h) (aN.pre e hs)
end
theorem aN.length:∀{ds:List D} {vs:List V},aN M ρ H ds vs->ds.length=vs.length
 |_,_,.nil=>rfl
 |_,_,.cons _ h=>congrArg (·+1) h.length
theorem aN.append:∀{ds a:List D} {vs ws:List V},aN M ρ H ds vs->aN M ρ H a ws->aN M ρ H (ds++a) (vs++ws)
 |_,_,_,_,.nil,h=>h
 |_,_,_,_,.cons h hs,h'=>.cons h (hs.append h')
theorem aN.get:∀{ds:List D} {vs:List V} {i:Nat} {d:D},aN M ρ H ds vs->ds[i]?=some d->∃v,vs[i]?=some v/\Rel M ρ H d v
 |_,_,0,_,.cons h _,e=>by cases e;exact⟨_,rfl,h⟩
 |_,_,i+1,_,.cons _ hs,e=>hs.get (i:=i) (by simpa using e)
 |_,_,_,_,.nil,e=>by simp at e
theorem aN.set{d:D}{v:V}(h:Rel M ρ H d v):∀{ds:List D} {vs:List V} (i:Nat),aN M ρ H ds vs->aN M ρ H (ds.set i d) (vs.set i v)
 |_,_,_,.nil=>.nil
 |_,_,0,.cons _ t=>.cons h t
 |_,_,i+1,.cons q t=>.cons q (aN.set h i t)
theorem aN.take:∀{ds:List D} {vs:List V} (n:Nat),aN M ρ H ds vs->aN M ρ H (ds.take n) (vs.take n)
 |_,_,0,_=>.nil
 |_,_,_+1,.nil=>.nil
 |_,_,n+1,.cons h hs=>.cons h (hs.take n)
theorem aN.drop:∀{ds:List D} {vs:List V} (n:Nat),aN M ρ H ds vs->aN M ρ H (ds.drop n) (vs.drop n)
 |_,_,0,h=>h
 |_,_,_+1,.nil=>.nil
 |_,_,n+1,.cons _ hs=>hs.drop n
theorem aN.eraseIdx:∀{ds:List D} {vs:List V} (n:Nat),aN M ρ H ds vs->aN M ρ H (ds.eraseIdx n) (vs.eraseIdx n)
 |_,_,_,.nil=>.nil
 |_,_,0,.cons _ h=>h
 |_,_,n+1,.cons h hs=>.cons h (hs.eraseIdx n)
theorem aN.rep{ds:List D}{vs:List V}(h:aN M ρ H ds vs):∀k:Nat,aN M ρ H (List.replicate k ds).flatten (List.replicate k vs).flatten
 |0=>.nil
 |k+1=>by rw[QNq,QNq,List.flatten_cons,List.flatten_cons];exact h.append (h.rep k)
def bA(M:Md)(ρ:List Addr)(H:Hp):List (Key×D)->List (Key×V)->Prop
 | [],kv=>kv= []
 |(k,d)::r,kv=>∃v t,kv=(k,v)::t/\Rel M ρ H d v/\bA M ρ H r t
theorem bA.imp{ρ':List Addr}{H':Hp}(f:∀d v,Rel M ρ H d v->Rel M ρ' H' d v):∀{l:List (Key×D)} {kv:List (Key×V)},bA M ρ H l kv->bA M ρ' H' l kv
 | [],_,h=>h
 |(_,_)::_,_,⟨v,t,e,h,hs⟩=>⟨v,t,e,f _ _ h,bA.imp f hs⟩
theorem bA.length:∀{l:List (Key×D)} {kv:List (Key×V)},bA M ρ H l kv->l.length=kv.length
 | [],_,h=>by cases h;rfl
 |(_,_)::_,_,⟨v,t,e,h,hs⟩=>by subst e;exact congrArg (·+1) hs.length
def kP(M:Md)(ρ:List Addr)(H:Hp)(a:Addr):O->Prop
 |.lst d=>∃b,H a=some (.lst b)/\aN M ρ H d b
 |.frz d=>∃b o,H a=some (.frz o (.lst b))/\aN M ρ H d b
 |.dct c=>∃e,H a=some (.dK e)/\bA M ρ H c e
structure dS(M:Md)(ρ:List Addr)(S:aC)(H:Hp):Prop where
 len:ρ.length=S.length
 nd:ρ.Nodup
 obj:∀(k:Nat) (a:Addr) (o:O),ρ[k]?=some a->S[k]?=some o->kP M ρ H a o
def kP.lay{a b:Addr}{o:O}{u:HO}(h:kP M ρ H a o)(i:H b=none):kP M ρ (upd H b u) a o:=by
 have e:bB ρ H ρ (upd H b u):=bB.laid i
 have f:∀{x},H a=some x->upd H b u a=some x:=λ{x} h=>by rw[aO];exact h;intro z;subst z;rw[i] at h;cases h
 cases o with
 |lst k=>obtain⟨g,c,d⟩:=h;exact⟨g,f c,d.ext e⟩
 |frz k=>obtain⟨g,o,c,d⟩:=h;exact⟨g,o,f c,d.ext e⟩
 |dct j=>obtain⟨l,c,d⟩:=h;exact⟨l,f c,d.imp λ_ _ r=>r.ext e⟩
def dS.lay{S:aC}{b:Addr}{u:HO}(h:dS M ρ S H)(c:H b=none):dS M ρ S (upd H b u):=⟨h.len,h.nd,λk a o d e=>(h.obj k a o d e).lay c⟩
theorem kP.pre{a:Addr}{o:O}(e:ρ <+: ρ')(h:kP M ρ H a o):kP M ρ' H a o:=by
 cases o with
 |lst g=>obtain⟨d,b,c⟩:=h;exact⟨d,b,c.pre e⟩
 |frz g=>obtain⟨d,o,b,c⟩:=h;exact⟨d,o,b,c.pre e⟩
 |dct f=>obtain⟨i,b,c⟩:=h;exact⟨i,b,c.imp λ_ _ r=>r.pre e⟩
def dS.box{S:aC}{a:Addr}{o:O}(h:dS M ρ S H)(g:a∉ρ)(l:kP M (ρ++ [a]) H a o):dS M (ρ++ [a]) (S++ [o]) H where
 len:=by rw[lQa,lQa,h.len];rfl
 nd:=by rw[List.nodup_append];exact⟨h.nd,by simp,λx i y f=>by rw[Qfq] at f;subst f;exact λz=>g (z▸i)⟩
 obj:=λk b u d e=>by
  by_cases c:k<ρ.length
  ·rw[QHq c] at d
   rw[QHq (h.len▸c)] at e
   exact(h.obj k b u d e).pre (List.prefix_append _ _)
  ·have c:ρ.length<=k:=Nat.le_of_not_lt c
   rw[QQq c] at d
   rw[QQq (h.len▸c)] at e
   have z:k-ρ.length=0:=by
    have:=(gQs.mp d).1
    simp at this
    omega
   have j:k-S.length=0:=by rw[←h.len];exact z
   rw[z] at d
   rw[j] at e
   cases d
   cases e
   exact l
def dS.put{S:aC}{k:Nat}{a:Addr}{o o':O}{u:HO}(h:dS M ρ S H)(m:ρ[k]?=some a)(B:S[k]?=some o)(I:kP M ρ (upd H a u) a o')(A:∀x,H a=some x->¬Jg x):dS M ρ (S.set k o') (upd H a u)/\bB ρ H ρ (upd H a u):=by
 have J:a∈ρ:=mQg m
 have e:bB ρ H ρ (upd H a u):=by
  refine⟨List.prefix_refl _,λ_ h=>.inl h,λb x v c=> ?_,λb i=> ?_⟩
  ·rw[aO]
   ·exact v
   ·intro z
    subst z
    exact c.elim (λn=>n J) λG=>A _ v G
  ·by_cases z:b=a
   ·subst z;rw[bx] at i;cases i
   ·rw[aO z] at i;exact i
 refine⟨⟨by rw[List.length_set];exact h.len,h.nd,λj b p d l=> ?_⟩,e⟩
 by_cases c:j=k
 ·subst c
  rw[m] at d
  cases d
  rw[Qyq (gQs.mp B).1] at l
  cases l
  exact I
 ·rw[QKq (Ne.symm c)] at l
  have t:b≠a:=by
   intro z
   subst z
   have w:=(gQs.mp d)
   have y:=(gQs.mp m)
   obtain⟨w,L⟩:=w
   obtain⟨y,N⟩:=y
   exact c (iA h.nd d m)
  have q:=h.obj j b p d l
  cases p with
  |lst F=>obtain⟨s,f,g⟩:=q;exact⟨s,by rw[aO t];exact f,g.ext e⟩
  |frz F=>obtain⟨s,o,f,g⟩:=q;exact⟨s,o,by rw[aO t];exact f,g.ext e⟩
  |dct K=>obtain⟨C,f,g⟩:=q;exact⟨C,by rw[aO t];exact f,g.imp λ_ _ r=>r.ext e⟩
end
structure En(M:Md)(ρ:List Addr)(H:Hp)(Γ:cN)(σ:L2.St):Prop where
 len:σ.length=Γ.length
 get:∀(i:Nat) (d:D),Γ[i]?=some (some d)->∃v,σ[i]?=some (some v)/\Rel M ρ H d v
def En.ext{M:Md}{ρ a:List Addr}{H f:Hp}{c:cN}{b:L2.St}(h:En M ρ H c b)(e:bB ρ H a f):En M a f c b:=⟨h.len,λi d q=>by obtain⟨v,g,j⟩:=h.get i d q;exact⟨v,g,j.ext e⟩⟩
def En.set{M:Md}{ρ:List Addr}{H:Hp}{a:cN}{b:L2.St}{i:Nat}{d:D}{v:V}(h:En M ρ H a b)(r:Rel M ρ H d v):En M ρ H (a.set i (some d)) (b.set i (some v)) where
 len:=by rw[List.length_set,List.length_set];exact h.len
 get:=λj e q=>by
  by_cases c:i=j
  ·subst c
   have l:i<a.length:=by
    have:=(gQs.mp q).1
    rwa [List.length_set] at this
   rw[Qyq l] at q
   cases q
   exact⟨v,Qyq (h.len▸l),r⟩
  ·rw[QKq c] at q⊢
   exact h.get j e q
structure Ok(M:Md)(ρ:List Addr)(Γ:cN)(S:aC)(σ:L2.St)(H:Hp):Prop where
 en:En M ρ H Γ σ
 st:dS M ρ S H
def Ok.to{M:Md}{ρ a:List Addr}{f:cN}{S d:aC}{c:L2.St}{H b:Hp}(h:Ok M ρ f S c H)(e:bB ρ H a b)(s:dS M a d b):Ok M a f d c b:=⟨h.en.ext e,s⟩
abbrev aV:=cN->aC->Option (D×aC)
abbrev fh:=cN->aC->Option (List D×aC)
abbrev gM:=cN->aC->Option (Bool×aC)
def tD(M:Md)(f:aV):TE:=λh H Q=>∃c g S d e,Ok M c g S h H/\f g S=some (d,e)/\∀a v b,bB c H a b->dS M a e b->Rel M a b d v->Q v b
def tL(M:Md)(f:fh):TE:=λj H Q=>∃e i S h g,Ok M e i S j H/\f i S=some (h,g)∧
 ∀b a d c,bB e H b c->dS M b g c->H a=none->a∉b->c a=some (.lst d)->aN M b c h d->Q (.ref a) c
def uE(M:Md)(f:fh):TA:=λi H Q=>∃d h S g e,Ok M d h S i H/\f h S=some (g,e)/\∀a c b,bB d H a b->dS M a e b->aN M a b g c->Q c b
def tB(M:Md)(f:gM):TT:=λh H Q=>∃d g S b e,Ok M d g S h H/\f g S=some (b,e)/\∀a c,bB d H a c->dS M a e c->Q b c
section
variable{X:Cx}
abbrev md(X:Cx):Md:=⟨X.K,X.mg⟩
def jo{e:Expr}{t t':TE}(h:PE X e t)(w:∀b H Q,t' b H Q->t b H Q):PE X e t':=λa s b H Q I q=>h a s b H Q I (w _ _ _ q)
def GT{e:Expr}{t t':TT}(h:PT X e t)(w:∀b H Q,t' b H Q->t b H Q):PT X e t':=λa s b H Q I q=>h a s b H Q I (w _ _ _ q)
def Jo{e:Expr}{t t':TT}(h:PW X e t)(w:∀b H Q,t' b H Q->t b H Q):PW X e t':=λc a s b H Q I q=>h c a s b H Q I (w _ _ _ q)
def Jv{d:List Expr}{t t':TA}(h:PA X d t)(w:∀b H Q,t' b H Q->t b H Q):PA X d t':=λc a s b H Q I q=>h c a s b H Q I (w _ _ _ q)
def y0{e:Stmt}{t t':TS}(h:PS X e t)(w:∀D b H,t' D b H->t D b H):PS X e t':=λa s b H D I q=>h a s b H D I (w _ _ _ q)
def FZ{e:List Stmt}{t t':TS}(h:oS X e t)(w:∀D b H,t' D b H->t D b H):oS X e t':=λa s b H D I q=>h a s b H D I (w _ _ _ q)
noncomputable def av(i:Nat):aV:=λa S=>match a[i]? with
 |some (some d)=>some (d,S)
 |_=>none
def yE{i:Nat}{b:cN}{S:aC}{d:D}{a:aC}(h:av i b S=some (d,a)):b[i]?=some (some d)/\a=S:=by
 unfold av at h
 split at h
 ·cases h;exact⟨by assumption,rfl⟩
 ·cases h
def F1{e:Expr}{i:Nat}(h:PE X e (Ed i)):PE X e (tD (md X) (av i)):=jo h λj H Q f=>by
 obtain⟨b,l,S,d,k,ok,e,q⟩:=f
 obtain⟨c,rfl⟩:=yE e
 obtain⟨v,a,g⟩:=ok.en.get i d c
 exact⟨v,a,q b v H bB.refl ok.st g⟩
noncomputable def cF(d:D):aV:=λ_ S=>some (d,S)
def hJ{e:Expr}{v:V}{d:D}(h:PE X e (tC v))(r:∀ρ H,Rel (md X) ρ H d v):PE X e (tD (md X) (cF d)):=jo h λc H Q a=>by
 obtain⟨ρ,g,S,b,f,ok,e,q⟩:=a
 cases e
 exact q ρ v H bB.refl ok.st (r _ _)
def mT{i:Int}{j pos}:PE X (.Constant (.int i) j pos) (tD (md X) (cF (.int i))):=hJ DE λ_ _=>.int i
def JV{b:Bool}{j pos}:PE X (.Constant (.bool b) j pos) (tD (md X) (cF (.bl b))):=hJ Gd λ_ _=>.bl b
def IV{j pos}:PE X (.Constant .none j pos) (tD (md X) (cF .non)):=hJ DH λ_ _=>.non
def Jx{x:Str}{j pos}:PE X (.Constant (.str x) j pos) (tD (md X) (cF (.str x))):=hJ Ee λ_ _=>.str x
def iM(f:fh):aV:=λc S=>(f c S).bind λ(b,a)=>some (.ref a.length,a++ [.lst b])
def Jc{e:Expr}{f:fh}(h:PE X e (tL (md X) f)):PE X e (tD (md X) (iM f)):=jo h λA H Q w=>by
 obtain⟨o,l,S,d,z,ok,e,q⟩:=w
 unfold iM at e
 cases i:f l S with
 |none=>rw[i] at e;cases e
 | some p=>
   obtain⟨u,r⟩:=p
   rw[i] at e
   obtain⟨rfl,rfl⟩:=bF e
   refine⟨o,l,S,u,r,ok,i,λg a n y x k v t s m=> ?_⟩
   have j:=m.pre (List.prefix_append g [a])
   refine q (g++ [a]) (.ref a) y ⟨x.pre.trans (List.prefix_append _ _),λb c=> ?_,x.keep,x.grow⟩ (k.box t ⟨n,s,j⟩) (.ref ?_)
   · rcases mQa.mp c with c|c
     · exact x.new b c
     · rw[Qfq] at c;subst c;exact .inr v
   · rw[←k.len,QQq (Qmq _)]
     simp
noncomputable def ax:fh:=λ_ S=>some ([],S)
noncomputable def ar(f:aV)(g:fh):fh:=λa S=>(f a S).bind λ(d,c)=>(g a c).bind λ(e,b)=>some (d::e,b)
def aq{α c:Type}{o:Option α}{f:α->Option c}{b:c}(h:o.bind f=some b):∃a,o=some a/\f a=some b:=by
 cases o with
 |none=>cases h
 |some a=>exact⟨a,rfl,h⟩
def kK:PA X [] (uE (md X) ax):=Jv fV λc H Q b=>by
 obtain⟨a,g,S,d,f,ok,e,q⟩:=b
 cases e
 exact q a [] H bB.refl ok.st .nil
def eM{e:Expr}{a:List Expr}{f:aV}{g:fh}(w:PE X e (tD (md X) f))(s:PA X a (uE (md X) g))(t:starEach (e::a) X.env=(false,eval e X.env)::starEach a X.env:=by rfl):PA X (e::a) (uE (md X) (ar f g)):=
 Jv (c9 w s t) λF H Q B=>by
  obtain⟨p,m,S,d,C,ok,e,q⟩:=B
  obtain⟨⟨x,j⟩,r,e⟩:=aq e
  obtain⟨⟨z,n⟩,A,e⟩:=aq e
  obtain⟨rfl,rfl⟩:=bF e
  refine⟨p,m,S,x,j,ok,r,λi v H1 k h y=>⟨i,m,j,z,n,ok.to k h,A,λc o H2 l b u=> ?_⟩⟩
  exact q c (v::o) H2 (k.trans l) b (.cons (y.ext l) u)
def aK(f:fh):aV:=λc S=>(f c S).bind λ(a,b)=>if a.length<=sizeLine then some (.tup a,b) else none
def JJ{j:List Expr}{f:fh}{k pos}(h:PA X j (uE (md X) f)):PE X (.Tuple j k pos) (tD (md X) (aK f)):=jo (DK h) λw H Q s=>by
 obtain⟨l,t,S,d,v,ok,e,q⟩:=s
 obtain⟨⟨r,n⟩,m,e⟩:=aq e
 dsimp only at e
 split at e
 ·rename_i c
  obtain⟨rfl,rfl⟩:=bF e
  refine⟨l,t,S,r,n,ok,m,λg u H1 o b i=>⟨i.length▸c,λp a=> ?_⟩⟩
  exact q g (.ref p) _ (o.trans (bB.laid a)) (b.lay a) (.tup bx (i.ext (bB.laid a)))
 ·cases e
def fg(f:fh):fh:=λc S=>(f c S).bind λ(a,b)=>if a.length<=sizeLine then some (a,b) else none
def fK{M:Md}{ρ a:List Addr}{S:aC}{H c:Hp}{p:Addr}(x:bB ρ H a c)(st:dS M a S c)(b:c p=none):p∉a:=λm=>by
 obtain⟨k,g⟩:=List.getElem?_of_mem m
 have l:k<S.length:=st.len▸(gQs.mp g).1
 have:=st.obj k p _ g (gQe l)
 cases e:S[k] with
 |lst f=>rw[e] at this;obtain⟨d,h,_⟩:=this;rw[b] at h;cases h
 |frz f=>rw[e] at this;obtain⟨d,o,h,_⟩:=this;rw[b] at h;cases h
 |dct f=>rw[e] at this;obtain⟨d,h,_⟩:=this;rw[b] at h;cases h
def FP{k:List Expr}{f:fh}{pos}(h:PA X k (uE (md X) f)):PE X (.List k pos) (tL (md X) (fg f)):=jo (D1 h) λv H Q s=>by
 obtain⟨m,t,S,d,u,ok,e,q⟩:=s
 obtain⟨⟨r,o⟩,n,e⟩:=aq e
 dsimp only at e
 split at e
 ·rename_i c
  obtain⟨rfl,rfl⟩:=bF e
  refine⟨m,t,S,r,o,ok,n,λi l H1 g b j=>⟨j.length▸c,λp a=> ?_⟩⟩
  exact q i p l _ (g.trans (bB.laid a)) (b.lay a) (g.grow p a) (fK g b a) bx (j.ext (bB.laid a))
 ·cases e
end
section
variable{X:Cx}{a b c e:Expr}{pos:Pos}
def zX:ip X (binaryOp .Add) (λx y H Q=>∃a b ys,x=.ref a/\y=.ref b/\fe X.K H a []/\fe X.K H b ys/\Q (.ref b) H):=by
 intro z s S H x y v u Q I C N h
 obtain⟨a,b,ys,rfl,rfl,ha,k,q⟩:=h
 cases C
 cases N
 obtain⟨P,J,M,_⟩:=I.tuple ha
 obtain⟨d,R,k,_⟩:=I.tuple k
 cases J
 obtain⟨⟨G,A,r,B⟩,o,t,n,p⟩:=id M
 obtain⟨⟨w,j,l,m⟩,i,g,L,f⟩:=id k
 simp only at t p g f
 subst t p g f
 exact concat_meets ⟨_,o,rfl⟩ ⟨_,i,rfl⟩ noFill_tuple_add seq_tuple_add PySem.F.slot_tuple_add PySem.F.entry_tuple_add (PySem.F.args_tuple_add_2 _ _)
   (tuple_addW0 a b _ d.toArray n L A j B m (by simp)) ⟨o,i,.ref b,H,I,rfl,q⟩
abbrev pT:=aC->D->D->Option D
def iI(M:Md)(r:R2)(o:pT):Prop:=∀{f:List Addr} {S:aC} {H:Hp} {x y d:D} {u v:V} {Q:VK},dS M f S H->Rel M f H x u->Rel M f H y v->o S x y=some d->(∀w g,bB f H f g->dS M f S g->Rel M f g d w->Q w g)->r u v H Q
noncomputable def aW(o:pT)(f g:aV):aV:=λi S=>(f i S).bind λ(x,j)=>(g i j).bind λ(y,h)=>(o h x y).bind λd=>some (d,h)
def lg{r:R2}{o:pT}{f g:aV}(B:iI (md X) r o)(h:PE X e (BQ r (tD (md X) f) (tD (md X) g))):PE X e (tD (md X) (aW o f g)):=jo h λR H Q M=>by
 obtain⟨z,t,S,d,N,ok,e,q⟩:=M
 obtain⟨⟨x,n⟩,A,e⟩:=aq e
 obtain⟨⟨y,u⟩,L,e⟩:=aq e
 obtain⟨P,J,e⟩:=aq e
 obtain⟨rfl,rfl⟩:=bF e
 refine⟨z,t,S,x,n,ok,A,λm v H1 p l I=>⟨m,t,n,y,u,ok.to p l,L,λk w H2 s i F=> ?_⟩⟩
 exact B i (I.ext s) F J λK H3 G j C=>q k K H3 ((p.trans s).trans G) j C
def bE:pT:=λ_ x y=>match x,y with
 |.int i,.int j=>some (.int (i+j))
 |.str i,.str j=>if i.length+j.length<=sizeLine then some (.str (i++j)) else none
 |.tup i,.tup j=>if i.length+j.length<=sizeLine then some (.tup (i++j)) else none
 |_,_=>none
abbrev GD(K:PySem.W.Frag):R2:=λx y H Q=>(∃i j,x=.int i/\y=.int j/\Q (.int (i+j)) H)\/(∃i j,x=.str i/\y=.str j/\i.length+j.length<=sizeLine/\Q (.str (i++j)) H)∨
 (∃a b d,x=.ref a/\y=.ref b/\fe K H a []/\fe K H b d/\Q (.ref b) H)\/CO K x y H Q
def Cw:ip X (binaryOp .Add) (GD X.K):=Ei.or (wO.or (zX.or Bq))
def D8{M:Md}:iI M (GD M.K) bE:=by
 intro w S H x y d u v Q f r k e q
 cases r with
 |int i=>cases k <;>simp only[bE,reduceCtorEq] at e;cases e;exact .inl ⟨_,_,rfl,rfl,q _ _ bB.refl f (.int _)⟩
 | str i=>
   cases k <;>simp only[bE,reduceCtorEq] at e
   split at e <;>cases e
   exact .inr (.inl ⟨_,_,rfl,rfl,by assumption,q _ _ bB.refl f (.str _)⟩)
 | tup m h=>
   cases k with
   | tup n j=>
     simp only[bE] at e
     split at e <;>cases e
     rename_i s
     have o:=h.length
     have t:=j.length
     cases h with
     |nil=>exact .inr (.inr (.inl ⟨_,_,_,rfl,rfl,fe.of m,fe.of n,q _ _ bB.refl f (.tup n j)⟩))
     | cons h g=>
       refine .inr (.inr (.inr ⟨_,_,_,_,rfl,rfl,fe.of m,fe.of n,by simp,by rw[←o,←t];exact s,λz=> ?_,λz p l=> ?_⟩))
       · subst z
         cases j
         rw[List.append_nil] at q
         exact q _ _ bB.refl f (.tup m (.cons h g))
       · exact q _ _ (bB.laid l) (f.lay l) (.tup bx ((aN.append (.cons h g) j).ext (bB.laid l)))
   |_=>simp only[bE,reduceCtorEq] at e
 |_=>simp only[bE,reduceCtorEq] at e
def IZ{f g:aV}(d:PE X a (tD (md X) f))(h:PE X b (tD (md X) g)):PE X (.BinOp a .Add b pos) (tD (md X) (aW bE f g)):=lg D8 (oU Cw d h)
def intD(C:Int->Int->Prop)[∀i j,Decidable (C i j)](k:Int->Int->D):pT:=λ_ x y=>match x,y with
 |.int i,.int j=>if C i j then some (k i j) else none
 |_,_=>none
def rC{M:Md}{C:Int->Int->Prop}[∀i j,Decidable (C i j)]{k:Int->Int->D}{g:Int->Int->V}(m:∀i j ρ H,Rel M ρ H (k i j) (g i j)):iI M (rI C g) (intD C k):=by
 intro ρ S H x y d u v Q f l h e q
 cases l <;>cases h <;>simp only[intD,reduceCtorEq] at e
 split at e <;>cases e
 exact⟨_,_,rfl,rfl,by assumption,q _ _ bB.refl f (m _ _ _ _)⟩
def k0{M:Md}{k:Int->Int->D}{g:Int->Int->V}(m:∀i j ρ H,Rel M ρ H (k i j) (g i j)):iI M (y7 g) (intD (λ_ _=>True) k):=by
 intro ρ S H x y d u v Q f l h e q
 cases l <;>cases h <;>simp only[intD,reduceCtorEq] at e
 rw[Qhq trivial] at e
 cases e
 exact⟨_,_,rfl,rfl,q _ _ bB.refl f (m _ _ _ _)⟩
instance{i j:Int}:Decidable (AI i j):=by unfold AI;infer_instance
instance{i j:Int}:Decidable (zS i j):=by unfold zS;infer_instance
open Classical in
noncomputable instance{i j:Int}:Decidable (IntMulOk i j):=Classical.propDecidable _
abbrev Ag:pT:=intD (λ_ _=>True) λi j=>.int (i-j)
noncomputable abbrev iR:pT:=intD IntMulOk λi j=>.int (i*j)
abbrev mW:pT:=intD (λ_ j=>0<j) λi j=>.int (i%j)
abbrev tx:pT:=intD AI λi j=>.int (i/j)
abbrev qY:pT:=intD zS λi j=>.int (i^j.toNat)
def JC{f g:aV}(h:PE X a (tD (md X) f))(d:PE X b (tD (md X) g)):PE X (.BinOp a .Sub b pos) (tD (md X) (aW Ag f g)):=lg (k0 λi j _ _=>.int _) (oU D7 h d)
def Jt{f g:aV}(h:PE X a (tD (md X) f))(d:PE X b (tD (md X) g)):PE X (.BinOp a .Mult b pos) (tD (md X) (aW iR f g)):=lg (rC λi j _ _=>.int _) (oU CD h d)
def JG{f g:aV}(h:PE X a (tD (md X) f))(d:PE X b (tD (md X) g)):PE X (.BinOp a .Mod b pos) (tD (md X) (aW mW f g)):=lg (rC λi j _ _=>.int _) (oU D0 h d)
def HQ{f g:aV}(h:PE X a (tD (md X) f))(d:PE X b (tD (md X) g)):PE X (.BinOp a .FloorDiv b pos) (tD (md X) (aW tx f g)):=lg (rC λi j _ _=>.int _) (oU Cg h d)
def JK{f g:aV}(h:PE X a (tD (md X) f))(d:PE X b (tD (md X) g)):PE X (.BinOp a .Pow b pos) (tD (md X) (aW qY f g)):=lg (rC λi j _ _=>.int _) (oU Ea h d)
def sP(f:aV):aV:=λh S=>(f h S).bind λ(d,g)=>match d with
 |.int i=>some (.int (-i),g)
 |_=>none
def IR{f:aV}(l:PE X a (tD (md X) f)):PE X (.UnaryOp .USub a pos) (tD (md X) (sP f)):=jo (FL Di l) λs H Q n=>by
 obtain⟨h,o,S,d,r,ok,e,q⟩:=n
 obtain⟨⟨x,j⟩,i,e⟩:=aq e
 dsimp only at e
 split at e
 ·obtain⟨rfl,rfl⟩:=bF e
  refine⟨h,o,S,_,j,ok,i,λp v H1 k g m=> ?_⟩
  cases m
  exact⟨_,rfl,q _ _ _ k g (.int _)⟩
 ·cases e
def pQ:D->Option V
 |.non=>some .non
 |.bl b=>some (.bl b)
 |.int i=>some (.int i)
 |.str x=>some (.str x)
 |_=>none
def gN{M:Md}{ρ:List Addr}{H:Hp}{d:D}{u v:V}(r:Rel M ρ H d u)(e:pQ d=some v):u=v:=by
 cases r <;>simp[pQ] at e <;>exact e
def fI(d:Bool):pT:=λ_ x y=>match pQ x,pQ y with
 |some u,some v=>if tM u v=true then some (.bl (if d then !decide (u=v) else decide (u=v))) else none
 |_,_=>none
def ui{f:Bool}{S:aC}{x y d:D}(e:fI f S x y=some d):∃u v,pQ x=some u/\pQ y=some v/\tM u v=true/\d=.bl (if f then !decide (u=v) else decide (u=v)):=by
 unfold fI at e
 split at e
 ·split at e <;>cases e
  exact⟨_,_,by assumption,by assumption,by assumption,rfl⟩
 ·cases e
def E5{M:Md}:iI M Jh (fI false):=by
 intro l S H x y d u v Q f h g e q
 obtain⟨m,n,j,i,k,rfl⟩:=ui e
 cases gN h j
 cases gN g i
 exact⟨k,q _ _ bB.refl f (.bl _)⟩
def Js{M:Md}:iI M IH (fI true):=by
 intro l S H x y d u v Q f h g e q
 obtain⟨m,n,j,i,k,rfl⟩:=ui e
 cases gN h j
 cases gN g i
 exact⟨k,q _ _ bB.refl f (.bl _)⟩
abbrev Ik:pT:=intD (λ_ _=>True) λi j=>.bl (decide (i<j))
abbrev G_:pT:=intD (λ_ _=>True) λi j=>.bl (decide (i<=j))
abbrev Gg:pT:=intD (λ_ _=>True) λi j=>.bl (decide (j<i))
abbrev HG:pT:=intD (λ_ _=>True) λi j=>.bl (decide (j<=i))
def IA{M:Md}:iI M (y7 λi j=>.bl (decide (i<j))) Ik:=k0 λi j _ _=>.bl _
def JE{M:Md}:iI M (y7 λi j=>.bl (decide (i<=j))) G_:=k0 λi j _ _=>.bl _
def Ja{M:Md}:iI M (y7 λi j=>.bl (decide (j<i))) Gg:=k0 λi j _ _=>.bl _
def Jl{M:Md}:iI M (y7 λi j=>.bl (decide (j<=i))) HG:=k0 λi j _ _=>.bl _
def isNone:D->Bool
 |.non=>true
 |_=>false
def uN(d:Bool):pT:=λ_ x y=>match y with
 |.non=>some (.bl (if d then !isNone x else isNone x))
 |_=>none
def qR{M:Md}{ρ:List Addr}{H:Hp}{d:D}{u:V}(r:Rel M ρ H d u):decide (u=V.non)=isNone d:=by
 cases r <;>simp[isNone]
def HY{M:Md}:iI M (λx y H Q=>y=.non/\Q (.bl (decide (x=.non))) H) (uN false):=by
 intro i S H x y d u v Q f g h e q
 cases h <;>simp only[uN,reduceCtorEq] at e
 cases e
 rw[qR g]
 exact⟨rfl,q _ _ bB.refl f (.bl _)⟩
def G9{M:Md}:iI M (λx y H Q=>y=.non/\Q (.bl (!decide (x=.non))) H) (uN true):=by
 intro i S H x y d u v Q f g h e q
 cases h <;>simp only[uN,reduceCtorEq] at e
 cases e
 rw[qR g]
 exact⟨rfl,q _ _ bB.refl f (.bl _)⟩
def JH{d:CmpOp}{r:R2}{o:pT}{f g:aV}(k:ip X (compareOp d) r)(l:iI (md X) r o)(j:PE X a (tD (md X) f))(h:PE X b (tD (md X) g))(i:behindInMarks d b=false):PE X (.Compare a [d] [b] pos) (tD (md X) (aW o f g)):=lg l (xh k j h i)
noncomputable def bc(f:aV):gM:=λh S=>(f h S).bind λ(d,g)=>match d with
 |.bl k=>some (k,g)
 |_=>none
def oq{f:aV}{h:cN}{S g:aC}{k:Bool}(e:bc f h S=some (k,g)):f h S=some (.bl k,g):=by
 obtain⟨⟨d,j⟩,i,e⟩:=aq e
 dsimp only at e
 split at e
 ·cases e;exact i
 ·cases e
def Gx{r:R2}{o:pT}{f g:aV}(B:iI (md X) r o)(h:PT X e (zR (BQ r (tD (md X) f) (tD (md X) g)))):PT X e (tB (md X) (bc (aW o f g))):=GT h λR H Q L=>by
 obtain⟨z,t,S,d,N,ok,e,q⟩:=L
 have e:=oq e
 obtain⟨⟨x,n⟩,A,e⟩:=aq e
 obtain⟨⟨y,u⟩,K,e⟩:=aq e
 obtain⟨P,J,e⟩:=aq e
 obtain⟨rfl,rfl⟩:=bF e
 refine⟨z,t,S,x,n,ok,A,λm v H1 p l I=>⟨m,t,n,y,u,ok.to p l,K,λk w H2 s i F=> ?_⟩⟩
 exact B i (I.ext s) F J λM H3 G j C=>by cases C;exact⟨_,rfl,q k H3 ((p.trans s).trans G) j⟩
def FM{d:CmpOp}{r:R2}{o:pT}{f g:aV}(k:ip X (compareOp d) r)(l:iI (md X) r o)(j:PE X a (tD (md X) f))(h:PE X b (tD (md X) g))(i:behindInMarks d b=false):PT X (.Compare a [d] [b] pos) (tB (md X) (bc (aW o f g))):=Gx l (nz k j h i)
def wN(S:aC):D->Option Bool
 |.non=>some false
 |.bl b=>some b
 |.int i=>some (i !=0)
 |.str y=>if y.length<=sizeLine then some ((y.length:Int) !=0) else none
 |.tup d=>some (!d.isEmpty)
 | .ref k=>match S[k]? with
   |some (.lst d)=>some (!d.isEmpty)
   |some (.dct d)=>some (!d.isEmpty)
   |_=>none
 |.fn _=>none
def aN.isEmpty{M:Md}{ρ:List Addr}{H:Hp}{ds:List D}{vs:List V}(h:aN M ρ H ds vs):ds.isEmpty=vs.isEmpty:=by cases h <;>rfl
theorem bA.isEmpty{M:Md}{ρ:List Addr}{H:Hp}{ds:List (Key×D)}{vs:List (Key×V)}(h:bA M ρ H ds vs):ds.isEmpty=vs.isEmpty:=by
 cases ds with
 |nil=>cases h;rfl
 |cons p r=>obtain⟨v,t,e,_⟩:=h;subst e;rfl
def Cf{M:Md}{ρ:List Addr}{S:aC}{H:Hp}{d:D}{u:V}{k:Bool}(st:dS M ρ S H)(r:Rel M ρ H d u)(e:wN S d=some k):Eg M.K u H k:=by
 cases r with
 |non=>cases e;rfl
 |bl=>cases e;rfl
 |int=>cases e;rfl
 |str=>simp only[wN] at e;split at e <;>cases e;exact⟨by assumption,rfl⟩
 |tup h j=>cases e;exact .inr (.inl ⟨_,fe.of h,by rw[j.isEmpty]⟩)
 |fn=>cases e
 | ref h=>
   simp only[wN] at e
   split at e
   · cases e
     obtain⟨i,f,g⟩:=st.obj _ _ _ h (by assumption)
     exact .inl ⟨i,gc.of f,by rw[g.isEmpty]⟩
   · cases e
     obtain⟨i,f,g⟩:=st.obj _ _ _ h (by assumption)
     exact .inr (.inr ⟨i,f,by rw[g.isEmpty]⟩)
   · cases e
def jK(f:aV):gM:=λh S=>(f h S).bind λ(d,g)=>(wN g d).bind λk=>some (k,g)
def IE{f:aV}(m:PE X a (tD (md X) f))(he:∀d,isTrue a X.env d=(do let v←d;standAt a.pos;holding [v] (truthy v)):=by intro _;rfl):PT X a (tB (md X) (jK f)):=GT (zT m he) λw H Q r=>by
 obtain⟨h,s,S,k,u,ok,e,q⟩:=r
 obtain⟨⟨x,j⟩,i,e⟩:=aq e
 obtain⟨o,p,e⟩:=aq e
 obtain⟨rfl,rfl⟩:=bF e
 exact⟨h,s,S,x,j,ok,i,λt v H1 l g n=>⟨o,Cf g n p,q _ _ l g⟩⟩
def vG(f:gM):gM:=λg S=>(f g S).bind λ(k,d)=>some (!k,d)
def I0{f:gM}(m:PT X a (tB (md X) f)):PT X (.UnaryOp .Not a pos) (tB (md X) (vG f)):=GT (D2 m) λs H Q n=>by
 obtain⟨g,o,S,k,r,ok,e,q⟩:=n
 obtain⟨⟨j,i⟩,h,e⟩:=aq e
 obtain⟨rfl,rfl⟩:=bF e
 exact⟨g,o,S,j,i,ok,h,λp H1 l d=>q _ _ l d⟩
def tX(f g:gM):gM:=λh S=>(f h S).bind λ(k,d)=>if k=true then g h d else some (false,d)
def EO(f g:gM):gM:=λh S=>(f h S).bind λ(k,d)=>if k=true then some (true,d) else g h d
def Ii{f:gM}(d:PT X a (tB (md X) f)):PW X (.BoolOp .And [a] pos) (tB (md X) f):=Ci d
def I_{f:gM}(d:PT X a (tB (md X) f)):PW X (.BoolOp .Or [a] pos) (tB (md X) f):=Ec d
def w_and{d:List Expr}{f g:gM}(t:PT X a (tB (md X) f))(s:PW X (.BoolOp .And (b::d) pos) (tB (md X) g)):PW X (.BoolOp .And (a::b::d) pos) (tB (md X) (tX f g)):=Jo (Dd t s) λy H Q x=>by
 obtain⟨o,n,S,k,u,ok,e,q⟩:=x
 obtain⟨⟨r,m⟩,p,e⟩:=aq e
 refine⟨o,n,S,r,m,ok,p,λl H1 i h=> ?_⟩
 dsimp only at e
 split at e
 ·rename_i c
  rw[Qhq c]
  exact⟨l,n,m,k,u,ok.to i h,e,λw H2 v j=>q _ _ (i.trans v) j⟩
 ·rename_i c
  rw[Quq c]
  obtain⟨rfl,rfl⟩:=bF e
  exact q _ _ i h
def w_or{d:List Expr}{f g:gM}(t:PT X a (tB (md X) f))(s:PW X (.BoolOp .Or (b::d) pos) (tB (md X) g)):PW X (.BoolOp .Or (a::b::d) pos) (tB (md X) (EO f g)):=Jo (Gs t s) λy H Q x=>by
 obtain⟨o,n,S,k,u,ok,e,q⟩:=x
 obtain⟨⟨r,m⟩,p,e⟩:=aq e
 refine⟨o,n,S,r,m,ok,p,λl H1 i h=> ?_⟩
 dsimp only at e
 split at e
 ·rename_i c
  rw[Qhq c]
  obtain⟨rfl,rfl⟩:=bF e
  exact q _ _ i h
 ·rename_i c
  rw[Quq c]
  exact⟨l,n,m,k,u,ok.to i h,e,λw H2 v j=>q _ _ (i.trans v) j⟩
def uo(f g:aV):aV:=λi S=>(f i S).bind λ(d,h)=>match d with
 |.bl true=>g i h
 |.bl false=>some (.bl false,h)
 |_=>none
def BO(f:aV):aV:=λh S=>(f h S).bind λ(d,g)=>match d with
 |.bl k=>some (.bl (!k),g)
 |_=>none
def IC{op}{f:aV}(h:PE X a (tD (md X) f)):PE X (.BoolOp op [a] pos) (tD (md X) f):=EG h
def IG{h:List Expr}{f g:aV}(u:PE X a (tD (md X) f))(t:PE X (.BoolOp .And (b::h) pos) (tD (md X) g)):PE X (.BoolOp .And (a::b::h) pos) (tD (md X) (uo f g)):=jo (DS u t) λC H Q B=>by
 obtain⟨p,o,S,d,y,ok,e,q⟩:=B
 obtain⟨⟨x,m⟩,r,e⟩:=aq e
 refine⟨p,o,S,x,m,ok,r,λl v H1 j i n=> ?_⟩
 dsimp only at e
 split at e
 ·cases n
  refine⟨_,rfl,?_⟩
  rw[Qhq rfl]
  exact⟨l,o,m,d,y,ok.to j i,e,λA w H2 z k s=>q _ _ _ (j.trans z) k s⟩
 ·cases n
  refine⟨_,rfl,?_⟩
  rw[Quq Qtq]
  obtain⟨rfl,rfl⟩:=bF e
  exact q _ _ _ j i (.bl _)
 ·cases e
def IB{f:aV}(l:PE X a (tD (md X) f)):PE X (.UnaryOp .Not a pos) (tD (md X) (BO f)):=jo (Du l) λs H Q n=>by
 obtain⟨h,o,S,d,r,ok,e,q⟩:=n
 obtain⟨⟨x,j⟩,i,e⟩:=aq e
 refine⟨h,o,S,x,j,ok,i,λp v H1 k g m=> ?_⟩
 dsimp only at e
 split at e
 ·cases m
  obtain⟨rfl,rfl⟩:=bF e
  exact⟨_,rfl,q _ _ _ k g (.bl _)⟩
 ·cases e
def sA(c:gM)(f g:aV):aV:=λd S=>(c d S).bind λ(k,h)=>if k=true then f d h else g d h
def IJ{h:gM}{f g:aV}(z:PT X c (tB (md X) h))(y:PE X a (tD (md X) f))(x:PE X b (tD (md X) g)):PE X (.IfExp c a b pos) (tD (md X) (sA h f g)):=jo (zZ z y x) λB H Q A=>by
 obtain⟨t,r,S,d,s,ok,e,q⟩:=A
 obtain⟨⟨v,m⟩,u,e⟩:=aq e
 refine⟨t,r,S,v,m,ok,u,λk H1 l j=> ?_⟩
 dsimp only at e
 split at e
 ·rename_i c
  rw[Qhq c]
  exact⟨k,r,m,d,s,ok.to l j,e,λp w H2 o i n=>q _ _ _ (l.trans o) i n⟩
 ·rename_i c
  rw[Quq c]
  exact⟨k,r,m,d,s,ok.to l j,e,λp w H2 o i n=>q _ _ _ (l.trans o) i n⟩
def s_:pT:=λS x y=>match x,y with
 |.tup xs,.int i=>lM xs i
 |.str z,.int i=>if z.length<=sizeLine then(lM z.cps.toList i).map λc=>.str ⟨#[c]⟩ else none
 | .ref k,.int i=>match S[k]? with
   |some (.lst xs)=>lM xs i
   |some (.frz xs)=>lM xs i
   |_=>none
 |_,_=>none
def Cn{α f:Type}{xs:List α}{ys:List f}{i:Int}{x:α}(h:lM xs i=some x)(l:xs.length=ys.length):∃j:Nat,xs[j]?=some x/\∀y,ys[j]?=some y->lM ys i=some y:=by
 unfold lM at h
 obtain⟨j,e,h⟩:=aq h
 exact⟨j,h,λy d=>by unfold lM;rw[←l,e];exact d⟩
def aN.atI{M:Md}{ρ:List Addr}{H:Hp}{ds:List D}{vs:List V}{i:Int}{d:D}(h:aN M ρ H ds vs)(e:L2.lM ds i=some d):∃v,L2.lM vs i=some v/\Rel M ρ H d v:=by
 obtain⟨j,f,l⟩:=Cn e h.length
 obtain⟨v,g,k⟩:=h.get f
 exact⟨v,l v g,k⟩
def GB{M:Md}:iI M (JF M.K) s_:=by
 intro r S H x y d u v Q i p m e q
 cases m <;>cases p <;>simp only[s_,reduceCtorEq] at e
 ·split at e
  ·obtain⟨c,g,f⟩:=oQm.mp e
   subst f
   exact .inr (.inr ⟨_,_,c,rfl,rfl,by assumption,g,q _ _ bB.refl i (.str _)⟩)
  ·cases e
 ·rename_i h n
  obtain⟨v,g,f⟩:=n.atI e
  exact .inr (.inl ⟨_,_,_,v,rfl,rfl,fe.of h,g,q _ _ bB.refl i f⟩)
 ·rename_i h
  split at e
  ·obtain⟨l,j,k⟩:=i.obj _ _ _ h (by assumption)
   obtain⟨v,g,f⟩:=k.atI e
   exact .inl ⟨_,_,_,v,rfl,rfl,gc.of j,g,q _ _ bB.refl i f⟩
  ·obtain⟨l,o,j,k⟩:=i.obj _ _ _ h (by assumption)
   obtain⟨v,g,f⟩:=k.atI e
   exact .inl ⟨_,_,_,v,rfl,rfl,.inl (.inr ⟨o,j⟩),g,q _ _ bB.refl i f⟩
  ·cases e
def pq{f g:aV}(h:PE X a (tD (md X) f))(d:PE X b (tD (md X) g))(i:x_ b:=by intro _ _;rfl):PE X (.Subscript a b pos) (tD (md X) (aW s_ f g)):=lg GB (Gc DB h d i)
end
inductive Tag where
 |tu|fr|st (k:Nat)|fz (k:Nat)
def vE(M:Md)(ρ:List Addr)(H:Hp)(a:Addr)(vs:List V):Tag->Prop
 |.tu=>fe M.K H a vs
 |.fr=>H a=some (.lst vs)/\a∉ρ
 |.st k=>ρ[k]?=some a/\H a=some (.lst vs)
 |.fz k=>ρ[k]?=some a/\∃o,H a=some (.frz o (.lst vs))
abbrev dU:=cN->aC->Option ((List D×Tag)×aC)
def tQ(M:Md)(f:dU):TE:=λj H Q=>∃e i S h t g,Ok M e i S j H/\f i S=some ((h,t),g)∧
 ∀b a d c,bB e H b c->dS M b g c->vE M b c a d t->aN M b c h d->Q (.ref a) c
def vE.sq{M:Md}{ρ:List Addr}{H:Hp}{a:Addr}{vs:List V}{t:Tag}(h:vE M ρ H a vs t):gc M.K H a vs\/fe M.K H a vs:=by
 cases t with
 |tu=>exact .inr h
 |fr=>exact .inl (gc.of h.1)
 |st k=>exact .inl (gc.of h.2)
 |fz k=>obtain⟨_,o,h⟩:=h;exact .inl (.inl (.inr ⟨o,h⟩))
def Tag.isL:Tag->Bool
 |.tu=>false
 |_=>true
def Tag.isM:Tag->Bool
 |.fr=>true
 |.st _=>true
 |_=>false
def vE.sqL{M:Md}{ρ:List Addr}{H:Hp}{a:Addr}{vs:List V}{t:Tag}(h:vE M ρ H a vs t)(c:t.isL=true):gc M.K H a vs:=by
 cases t with
 |tu=>cases c
 |fr=>exact gc.of h.1
 |st k=>exact gc.of h.2
 |fz k=>obtain⟨_,o,h⟩:=h;exact .inl (.inr ⟨o,h⟩)
def vE.sqM{M:Md}{ρ:List Addr}{H:Hp}{a:Addr}{vs:List V}{t:Tag}(h:vE M ρ H a vs t)(c:t.isM=true):H a=some (.lst vs):=by
 cases t with
 |tu=>cases c
 |fr=>exact h.1
 |st k=>exact h.2
 |fz k=>cases c
def vE.sqT{M:Md}{ρ:List Addr}{H:Hp}{a:Addr}{vs:List V}{t:Tag}(h:vE M ρ H a vs t)(c:t.isL=false):fe M.K H a vs:=by
 cases t with
 |tu=>exact h
 |fr=>cases c
 |st k=>cases c
 |fz k=>cases c
def Tag.stays(S:aC)(ds:List D):Tag->Prop
 |.st k=>S[k]?=some (.lst ds)
 |.fz k=>S[k]?=some (.frz ds)
 |_=>True
def fe.ext{K:PySem.W.Frag}{ρ b:List Addr}{H c:Hp}{a:Addr}{vs:List V}(e:bB ρ H b c)(h:fe K H a vs):fe K c a vs:=by
 rcases h with(h|⟨o,h⟩)|h
 ·exact .inl (.inl (e.keep _ _ h (.inr trivial)))
 ·exact .inl (.inr ⟨o,e.keep _ _ h (.inr trivial)⟩)
 ·exact .inr h
def vE.to{M:Md}{ρ d:List Addr}{S:aC}{H i:Hp}{a:Addr}{vs:List V}{ds:List D}{t:Tag}(h:vE M ρ H a vs t)(r:aN M ρ H ds vs)(e:bB ρ H d i)(st:dS M d S i)(c:t.stays S ds):∃b,vE M d i a b t/\aN M d i ds b:=by
 cases t with
 |tu=>exact⟨vs,fe.ext e h,r.ext e⟩
 |fr=>exact⟨vs,⟨e.keep _ _ h.1 (.inl h.2),λm=>(e.new a m).elim h.2 λz=>by have f:=h.1;rw[z] at f;cases f⟩,r.ext e⟩
 | st k=>
   have g:=bT e.pre h.1
   obtain⟨b,f,j⟩:=st.obj k a _ g c
   exact⟨b,⟨g,f⟩,j⟩
 | fz k=>
   have g:=bT e.pre h.1
   obtain⟨b,o,f,j⟩:=st.obj k a _ g c
   exact⟨b,⟨g,o,f⟩,j⟩
section
variable{X:Cx}{a b c e:Expr}{pos:Pos}
def pU(f:fh):dU:=λh S=>(f h S).bind λ(g,d)=>some ((g,.fr),d)
def J2{f:fh}(h:PE X e (tL (md X) f)):PE X e (tQ (md X) (pU f)):=jo h λz H Q r=>by
 obtain⟨j,s,S,v,t,y,ok,e,q⟩:=r
 obtain⟨⟨d,l⟩,k,e⟩:=aq e
 obtain⟨p,rfl⟩:=bF e
 obtain⟨rfl,rfl⟩:=Prod.mk.inj p
 exact⟨j,s,S,d,l,ok,k,λo a u A x g w n m i=>q _ _ _ _ x g ⟨m,n⟩ i⟩
def oT(S:aC):D->Option (List D×Tag)
 |.tup d=>some (d,.tu)
 | .ref k=>match S[k]? with
   |some (.lst d)=>some (d,.st k)
   |some (.frz d)=>some (d,.fz k)
   |_=>none
 |_=>none
def bX(f:aV):dU:=λh S=>(f h S).bind λ(d,g)=>(oT g d).bind λp=>some (p,g)
def Bs{M:Md}{ρ:List Addr}{S:aC}{H:Hp}{d:D}{v:V}{ds:List D}{t:Tag}(st:dS M ρ S H)(r:Rel M ρ H d v)(e:oT S d=some (ds,t)):∃a vs,v=.ref a/\vE M ρ H a vs t/\aN M ρ H ds vs:=by
 cases r with
 |tup h i=>simp only[oT] at e;cases e;exact⟨_,_,rfl,fe.of h,i⟩
 | ref h=>
   simp only[oT] at e
   split at e
   · rename_i q
     cases e
     obtain⟨vs,g,f⟩:=st.obj _ _ _ h q
     exact⟨_,vs,rfl,⟨h,g⟩,f⟩
   · rename_i q
     cases e
     obtain⟨vs,o,g,f⟩:=st.obj _ _ _ h q
     exact⟨_,vs,rfl,⟨h,o,g⟩,f⟩
   · cases e
 |_=>simp only[oT,reduceCtorEq] at e
def J1{f:aV}(h:PE X e (tD (md X) f)):PE X e (tQ (md X) (bX f)):=jo h λA H Q p=>by
 obtain⟨i,s,S,w,t,z,ok,e,q⟩:=p
 obtain⟨⟨d,k⟩,j,e⟩:=aq e
 obtain⟨⟨m,y⟩,o,e⟩:=aq e
 obtain⟨l,rfl⟩:=bF e
 obtain⟨rfl,rfl⟩:=Prod.mk.inj l
 refine⟨i,s,S,d,k,ok,j,λn v B x g r=> ?_⟩
 obtain⟨a,u,rfl,h1,h2⟩:=Bs g r o
 exact q _ _ _ _ x g h1 h2
def Gk{f:dU}{p:Pos}(v:Gl X "len")(o:X.mg "len"=none)(s:PE X a (tQ (md X) f))(k:starEach [a] X.env= [(false,eval a X.env)]:=by rfl):
  PE X (.Call (.Name "len" p) [a] [] pos) (tD (md X) λi S=>(f i S).bind λ(p,g)=>some (.int p.1.length,g)):=
 jo (pk tj v o PySem.boot_len (c9 s fV k) (he:=k)) λA H Q y=>by
  obtain⟨m,i,S,d,z,ok,e,q⟩:=y
  obtain⟨⟨⟨u,t⟩,g⟩,n,e⟩:=aq e
  obtain⟨rfl,rfl⟩:=bF e
  refine⟨m,i,S,u,t,g,ok,n,λw a j B x l h r=>⟨a,j,rfl,h.sq,?_⟩⟩
  have:=q _ (.int j.length) _ x l (by rw[←r.length];exact .int _)
  exact this
def jq(f:dU):aV:=λg S=>(f g S).bind λ(p,d)=>some (.int p.1.length,d)
def tupQ(f:dU):aV:=λg S=>(f g S).bind λ(p,d)=>some (.tup p.1,d)
def GL{f:dU}{p:Pos}(y:Gl X "tuple")(v:X.mg "tuple"=none)(w:PE X a (tQ (md X) f))(k:starEach [a] X.env= [(false,eval a X.env)]:=by rfl)(z:∀i S ds t m,f i S=some ((ds,t),m)->t.isL=true):
  PE X (.Call (.Name "tuple" p) [a] [] pos) (tD (md X) (tupQ f)):=
 jo (zm qf y v (by rfl) (c9 w fV k) (he:=k)) λC H Q B=>by
  obtain⟨s,i,S,d,m,ok,e,q⟩:=B
  obtain⟨⟨⟨ds,t⟩,u⟩,j,e⟩:=aq e
  obtain⟨rfl,rfl⟩:=bF e
  refine⟨s,i,S,ds,t,u,ok,j,λA a o F x n h r=>⟨a,o,rfl,.inl ⟨h.sqL (z _ _ _ _ _ j),λl g=> ?_⟩⟩⟩
  exact q _ _ _ (x.trans (bB.laid g)) (n.lay g) (.tup bx (r.ext (bB.laid g)))
def GQ{f:fh}:∀g S ds t d,pU f g S=some ((ds,t),d)->t.isL=true:=λg S ds t d e=>by
 obtain⟨⟨h,j⟩,i,e⟩:=aq e
 cases e
 rfl
def fR(f:dU):dU:=λg S=>(f g S).bind λ(p,d)=>if p.2.isL=true then some (p,d) else none
def CZ{f:dU}:∀g S ds t d,fR f g S=some ((ds,t),d)->t.isL=true:=λg S ds t d e=>by
 obtain⟨⟨⟨h,j⟩,k⟩,i,e⟩:=aq e
 dsimp only at e
 split at e <;>cases e
 assumption
def IM{f:dU}(h:PE X e (tQ (md X) f)):PE X e (tQ (md X) (fR f)):=jo h λo H Q k=>by
 obtain⟨i,l,S,r,t,p,ok,e,q⟩:=k
 obtain⟨⟨⟨d,m⟩,n⟩,j,e⟩:=aq e
 dsimp only at e
 split at e
 ·obtain⟨g,rfl⟩:=bF e
  obtain⟨rfl,rfl⟩:=Prod.mk.inj g
  exact⟨i,l,S,d,m,n,ok,j,q⟩
 ·cases e
def D9:List D->Option (List Bool)
 | []=>some []
 |.bl b::r=>(D9 r).bind λd=>some (b::d)
 |_::_=>none
theorem Ae{M:Md}{ρ:List Addr}{H:Hp}:∀{ds:List D} {vs:List V} {bs:List Bool},aN M ρ H ds vs->D9 ds=some bs->vs=bs.map V.bl
 | [],_,_,h,e=>by cases h;cases e;rfl
 | d::ds,_,_,h,e=>by
   cases d with
   | bl b=>
     simp only[D9] at e
     obtain⟨g,f,e⟩:=aq e
     cases e
     cases h with
     | cons h i=>
       cases h
       rw[Ae i f]
       rfl
   |_=>cases e
def Bp(f:dU):aV:=λh S=>(f h S).bind λ(p,g)=>if p.2.isL=true then(D9 p.1).bind λd=>some (.bl (d.all id),g) else none
def Jj{f:dU}{p:Pos}(s:X.calm=true)(v:Gl X "all")(m:X.mg "all"=none)(n:PE X a (tQ (md X) f))(g:starEach [a] X.env= [(false,eval a X.env)]:=by rfl):
  PE X (.Call (.Name "all" p) [a] [] pos) (tD (md X) (Bp f)):=
 jo (pk (y_ s) v m (by rfl) (c9 n fV g) (he:=g)) λF H Q z=>by
  obtain⟨j,A,S,d,C,ok,e,q⟩:=z
  obtain⟨⟨⟨o,t⟩,l⟩,k,e⟩:=aq e
  dsimp only at e
  split at e
  ·rename_i c
   obtain⟨u,y,e⟩:=aq e
   obtain⟨rfl,rfl⟩:=bF e
   refine⟨j,A,S,o,t,l,ok,k,λw a B G x i h r=>⟨a,u,rfl,?_,q _ _ _ x i (.bl _)⟩⟩
   rw[←Ae r y]
   exact h.sqL c
  ·cases e
def CF(S:aC)(T:String):D->Option Bool
 |.non=>some (T=="NoneType")
 |.bl _=>some (T=="bool" ||T=="int")
 |.int _=>some (T=="int")
 |.str _=>some (T=="str")
 |.tup _=>some (T=="tuple")
 | .ref k=>match S[k]? with
   |some (.lst _)=>some (T=="list")
   |some (.frz _)=>some (T=="list")
   |some (.dct _)=>some (T=="dict")
   |_=>none
 |.fn _=>none
def FE(K:PySem.W.Frag)(T:String):Prop:=(PySem.W.kitOne K (.type "NoneType") (.type T)=some (T=="NoneType"))/\(PySem.W.kitOne K (.type "bool") (.type T)=some (T=="bool" ||T=="int"))/\(PySem.W.kitOne K (.type "int") (.type T)=some (T=="int"))/\(PySem.W.kitOne K (.type "str") (.type T)=some (T=="str"))∧
 (PySem.W.kitOne K (.type "tuple") (.type T)=some (T=="tuple"))/\(PySem.W.kitOne K (.type "list") (.type T)=some (T=="list"))/\(PySem.W.kitOne K (.type "dict") (.type T)=some (T=="dict"))
def l6(T:String)(f:aV):aV:=λh S=>(f h S).bind λ(d,g)=>(CF g T d).bind λk=>some (.bl k,g)
def Jf{T:String}{l:Expr}{f:aV}{p:Pos}(Y:FE X.K T)(L:Gl X "isinstance")(F:X.mg "isinstance"=none)(G:PE X a (tD (md X) f))(M:PE X l (tC (.ty T)))(t:starEach [a,l] X.env= [(false,eval a X.env),(false,eval l X.env)]:=by rfl)(j:starEach [l] X.env= [(false,eval l X.env)]:=by rfl):
  PE X (.Call (.Name "isinstance" p) [a,l] [] pos) (tD (md X) (l6 T f)):=
 jo (pk AW L F boot_isinstance (c9 G (c9 M fV j) (by rw[t,j])) (he:=by rw[t,j]) (hpl:=by rw[j];rfl)) λσ H Q W=>by
  obtain⟨y,Z,S,d,S',ok,e,q⟩:=W
  obtain⟨⟨U,B⟩,z,e⟩:=aq e
  obtain⟨k,i,e⟩:=aq e
  obtain⟨rfl,rfl⟩:=bF e
  obtain⟨C,A,P,I,J,u,N⟩:=Y
  refine⟨y,Z,S,U,B,ok,z,λR v H' x s r=> ?_⟩
  have g:=q _ _ _ x s (.bl _)
  cases r with
  |non=>cases i;exact⟨_,_,_,_,rfl,.non,C,g⟩
  |bl=>cases i;exact⟨_,_,_,_,rfl,.bl _,A,g⟩
  |int=>cases i;exact⟨_,_,_,_,rfl,.int _,P,g⟩
  |str=>cases i;exact⟨_,_,_,_,rfl,.str _,I,g⟩
  |tup h t=>cases i;exact⟨_,_,_,_,rfl,.tup h,J,g⟩
  |fn=>cases i
  | ref h=>
    simp only[CF] at i
    split at i
    · rename_i m;cases i;obtain⟨w,n,_⟩:=s.obj _ _ _ h m;exact⟨_,_,_,_,rfl,.lst n,u,g⟩
    · rename_i m;cases i;obtain⟨w,o,n,_⟩:=s.obj _ _ _ h m;exact⟨_,_,_,_,rfl,.frz n,u,g⟩
    · rename_i m;cases i;obtain⟨w,n,_⟩:=s.obj _ _ _ h m;exact⟨_,_,_,_,rfl,.dK n,N,g⟩
    · cases i
abbrev CU:=List D->Option D
def Bh(M:Md)(r:List V->Hp->VK->Prop)(o:CU):Prop:=∀{f:List Addr} {S:aC} {H:Hp} {g:List D} {d:D} {h:List V} {Q:VK},dS M f S H->aN M f H g h->o g=some d->(∀w,Rel M f H d w->Q w H)->r h H Q
def vg(o:CU)(f:fh):aV:=λh S=>(f h S).bind λ(i,g)=>(o i).bind λd=>some (d,g)
def Iq{r:List V->Hp->VK->Prop}{o:CU}{f:fh}(l:Bh (md X) r o)(h:PE X e (GG r (uE (md X) f))):PE X e (tD (md X) (vg o f)):=jo h λB H Q v=>by
 obtain⟨j,x,S,d,z,ok,e,q⟩:=v
 obtain⟨⟨t,m⟩,k,e⟩:=aq e
 obtain⟨A,u,e⟩:=aq e
 obtain⟨rfl,rfl⟩:=bF e
 exact⟨j,x,S,t,m,ok,k,λi y H1 p g s=>l g s u λw n=>q i w H1 p g n⟩
def Cu:CU
 | [.int i]=>some (.int (if i<0 then -i else i))
 |_=>none
def maxD:CU
 | [.int i,.int j]=>some (.int (if j>i then j else i))
 |_=>none
def minD:CU
 | [.int i,.int j]=>some (.int (if j<i then j else i))
 |_=>none
def intOfD:CU
 | [.int i]=>some (.int i)
 | [.bl k]=>some (.int (if k then 1 else 0))
 |_=>none
def HI{M:Md}:Bh M (λxs H Q=>∃i,xs= [.int i]/\Q (.int (if i<0 then -i else i)) H) Cu:=by
 intro h S H xs d j Q g r e q
 unfold Cu at e
 split at e <;>cases e
 cases r with|cons r f=>cases f;cases r;exact⟨_,rfl,q _ (.int _)⟩
def HA{M:Md}:Bh M (λxs H Q=>∃i j,xs= [.int i,.int j]/\Q (.int (if j>i then j else i)) H) maxD:=by
 intro k S H xs d l Q h r e q
 unfold maxD at e
 split at e <;>cases e
 cases r with|cons r f=>cases f with|cons g f=>cases f;cases r;cases g;exact⟨_,_,rfl,q _ (.int _)⟩
def Hg{M:Md}:Bh M (λxs H Q=>∃i j,xs= [.int i,.int j]/\Q (.int (if j<i then j else i)) H) minD:=by
 intro k S H xs d l Q h r e q
 unfold minD at e
 split at e <;>cases e
 cases r with|cons r f=>cases f with|cons g f=>cases f;cases r;cases g;exact⟨_,_,rfl,q _ (.int _)⟩
def F4{M:Md}:Bh M (λxs H Q=>(∃i,xs= [.int i]/\Q (.int i) H)\/∃k,xs= [.bl k]/\Q (.int (if k then 1 else 0)) H) intOfD:=by
 intro h S H xs d j Q g r e q
 unfold intOfD at e
 split at e <;>cases e
 ·cases r with|cons r f=>cases f;cases r;exact .inl ⟨_,rfl,q _ (.int _)⟩
 ·cases r with|cons r f=>cases f;cases r;exact .inr ⟨_,rfl,q _ (.int _)⟩
def iy:List D->Option (List V)
 | []=>some []
 |d::r=>(pQ d).bind λv=>(iy r).bind λf=>some (v::f)
def iJ{d:D}{v:V}(e:pQ d=some v):dJ v=true:=by
 cases d <;>simp[pQ] at e <;>subst e <;>rfl
theorem iZ{M:Md}{ρ:List Addr}{H:Hp}:∀{ds:List D} {f vs:List V},aN M ρ H ds f->iy ds=some vs->f=vs/\vs.all dJ=true
 |_,_,_,.nil,e=>by cases e;exact⟨rfl,rfl⟩
 | _,_,_,.cons h hs,e=>by
   obtain⟨v,d,e⟩:=aq e
   obtain⟨vs,i,e⟩:=aq e
   cases e
   obtain⟨g,j⟩:=iZ hs i
   rw[gN h d,g]
   exact⟨rfl,by rw[List.all_cons,iJ d,j];rfl⟩
def zC(d:Bool)(f:aV)(g:dU):aV:=λi S=>(f i S).bind λ(x,k)=>(g i k).bind λ(p,j)=>(pQ x).bind λv=>(iy p.1).bind λh=>some (.bl (if d then !xD v h else xD v h),j)
def FB{i:Bool}{f:aV}{g:dU}(h:PE X e (BQ (GE X.K i) (tD (md X) f) (tQ (md X) g))):PE X e (tD (md X) (zC i f g)):=jo h λU H Q M=>by
 obtain⟨s,p,S,d,R,ok,e,q⟩:=M
 obtain⟨⟨x,m⟩,w,e⟩:=aq e
 obtain⟨⟨⟨A,t⟩,r⟩,L,e⟩:=aq e
 obtain⟨v,o,e⟩:=aq e
 obtain⟨P,G,e⟩:=aq e
 obtain⟨rfl,rfl⟩:=bF e
 refine⟨s,p,S,x,m,ok,w,λl u H1 n k z=>⟨l,p,m,A,t,r,ok.to n k,L,λI a F H2 J j B y=> ?_⟩⟩
 cases gN z o
 obtain⟨C,N⟩:=iZ y G
 subst C
 exact⟨a,F,rfl,B.sq,iJ o,N,q _ _ _ (n.trans J) j (.bl _)⟩
def wJ{f:aV}{t:TE}(j:∀d H Q,tD (md X) f d H Q->t d H Q)(h:PT X e (zR t)):PT X e (tB (md X) (bc f)):=GT h λd H Q ⟨l,n,S,k,m,ok,e,q⟩=>
 j _ _ _ ⟨l,n,S,.bl k,m,ok,oq e,λi v o x g r=>by cases r;exact⟨k,rfl,q _ _ x g⟩⟩
def C6{h:Bool}{f:aV}{g:dU}:∀k H Q,tD (md X) (zC h f g) k H Q->BQ (GE X.K h) (tD (md X) f) (tQ (md X) g) k H Q:=λk H Q M=>by
 obtain⟨s,p,S,d,R,ok,e,q⟩:=M
 obtain⟨⟨x,m⟩,w,e⟩:=aq e
 obtain⟨⟨⟨A,t⟩,r⟩,L,e⟩:=aq e
 obtain⟨v,o,e⟩:=aq e
 obtain⟨P,G,e⟩:=aq e
 obtain⟨rfl,rfl⟩:=bF e
 refine⟨s,p,S,x,m,ok,w,λl u H1 n j z=>⟨l,p,m,A,t,r,ok.to n j,L,λI a F H2 J i B y=> ?_⟩⟩
 cases gN z o
 obtain⟨C,N⟩:=iZ y G
 subst C
 exact⟨a,F,rfl,B.sq,iJ o,N,q _ _ _ (n.trans J) i (.bl _)⟩
def JX{f:aV}{g:dU}(i:PE X a (tD (md X) f))(d:PE X b (tQ (md X) g))(h:behindInMarks .In b=false:=by rfl):PE X (.Compare a [.In] [b] pos) (tD (md X) (zC false f g)):=FB (xh qm i d h)
def JS{f:aV}{g:dU}(i:PE X a (tD (md X) f))(d:PE X b (tQ (md X) g))(h:behindInMarks .In b=false:=by rfl):PT X (.Compare a [.In] [b] pos) (tB (md X) (bc (zC false f g))):=wJ C6 (nz qm i d h)
def G2{f:aV}{g:dU}(i:PE X a (tD (md X) f))(d:PE X b (tQ (md X) g))(h:behindInMarks .NotIn b=false:=by rfl):PT X (.Compare a [.NotIn] [b] pos) (tB (md X) (bc (zC true f g))):=wJ C6 (nz tf i d h)
end
inductive Out where
 |nx (Γ:cN) (S:aC)|bk (Γ:cN) (S:aC)|ct (Γ:cN) (S:aC)|rt (d:D) (S:aC)|rl (ds:List D) (S:aC)
abbrev cy:=cN->aC->Option Out
def sh(M:Md)(ρ:List Addr)(H:Hp)(D:Ends):Out->Prop
 |.nx f g=>∀b e c,bB ρ H b c->Ok M b f g e c->D.nx e c
 |.bk f g=>∀b e c,bB ρ H b c->Ok M b f g e c->D.bk e c
 |.ct f g=>∀b e c,bB ρ H b c->Ok M b f g e c->D.ct e c
 |.rt d g=>∀b v c,bB ρ H b c->dS M b g c->Rel M b c d v->D.rt v c
 |.rl i g=>∀b a h c,bB ρ H b c->dS M b g c->H a=none->a∉b->c a=some (.lst h)->aN M b c i h->D.rt (.ref a) c
def sh.to{M:Md}{ρ d:List Addr}{H H1:Hp}{D:Ends}{o:Out}(h:sh M ρ H D o)(e:bB ρ H d H1):sh M d H1 D o:=by
 cases o with
 |nx=>exact λb c f x ok=>h _ _ _ (e.trans x) ok
 |bk=>exact λb c f x ok=>h _ _ _ (e.trans x) ok
 |ct=>exact λb c f x ok=>h _ _ _ (e.trans x) ok
 |rt=>exact λb v f x g r=>h _ _ _ (e.trans x) g r
 |rl=>exact λb a l f x g k j i r=>h _ _ _ _ (e.trans x) g (e.grow _ k) j i r
def tS(M:Md)(g:cy):TS:=λD c H=>∃a b S o,Ok M a b S c H/\g b S=some o/\sh M a H D o
section
variable{X:Cx}{a b c e:Expr}{pos:Pos}{st:Stmt}{rest body other:List Stmt}
def il:cy:=λd S=>some (.nx d S)
def F0:oS X [] (tS (md X) il):=FZ BD λD f H ⟨d,g,S,o,ok,e,q⟩=>by cases e;exact q _ _ _ bB.refl ok
noncomputable def aF(f g:cy):cy:=λi S=>(f i S).bind λo=>match o with
 |.nx d h=>g d h
 |o=>some o
def vC{f g:cy}(s:PS X st (tS (md X) f))(r:oS X rest (tS (md X) g)):oS X (st::rest) (tS (md X) (aF f g)):=FZ (Bd s r) λD v H t=>by
 obtain⟨k,u,S,o,ok,e,q⟩:=t
 obtain⟨j,l,e⟩:=aq e
 refine⟨k,u,S,j,ok,l,?_⟩
 cases j with
 |nx d m=>exact λi n H1 p h=>⟨i,d,m,o,h,e,q.to p⟩
 |bk=>cases e;exact q
 |ct=>cases e;exact q
 |rt=>cases e;exact q
 |rl=>cases e;exact q
def Ao{f:cy}(d:PS X st (tS (md X) f)):oS X [st] (tS (md X) f):=Br d
def never:cy:=λ_ _=>none
def G5:PS X st (tS (md X) never):=y0 zM λD f H ⟨d,g,S,o,ok,e,q⟩=>by cases e
def yD(f:aV):cy:=λd S=>(f d S).bind λ(_,g)=>some (.nx d g)
def Im{f:aV}(h:PE X e (tD (md X) f))(k:swapsWith e none pos.line X.env=pure false:=by rfl):PS X (.Expr e pos) (tS (md X) (yD f)):=y0 (BB h k) λD p H m=>by
 obtain⟨g,n,S,o,ok,e,q⟩:=m
 obtain⟨⟨d,j⟩,i,e⟩:=aq e
 cases e
 exact⟨g,n,S,d,j,ok,i,λl v s x st r=>q _ _ _ x (ok.to x st)⟩
noncomputable def cH(f:aV):cy:=λh S=>(f h S).bind λ(d,g)=>some (.rt d g)
def AF{f:aV}(h:PE X e (tD (md X) f)):PS X (.Return (some e) pos) (tS (md X) (cH f)):=y0 (zu h) λD m H j=>by
 obtain⟨g,k,S,o,ok,e,q⟩:=j
 obtain⟨⟨d,l⟩,i,e⟩:=aq e
 cases e
 exact⟨g,k,S,d,l,ok,i,q⟩
noncomputable def CW(f:fh):cy:=λh S=>(f h S).bind λ(g,d)=>some (.rl g d)
def H_{f:fh}(h:PE X e (tL (md X) f)):PS X (.Return (some e) pos) (tS (md X) (CW f)):=y0 (zu h) λD m H j=>by
 obtain⟨g,k,S,o,ok,e,q⟩:=j
 obtain⟨⟨d,l⟩,i,e⟩:=aq e
 cases e
 exact⟨g,k,S,d,l,ok,i,q⟩
def hG(c:gM)(f g:cy):cy:=λd S=>(c d S).bind λ(k,h)=>if k=true then f d h else g d h
def Iw{h:gM}{f g:cy}(t:PT X c (tB (md X) h))(s:oS X body (tS (md X) f))(r:oS X other (tS (md X) g)):PS X (.If c body other pos) (tS (md X) (hG h f g)):=y0 (Ge t s r) λD v H u=>by
 obtain⟨n,m,S,o,ok,e,q⟩:=u
 obtain⟨⟨k,l⟩,p,e⟩:=aq e
 refine⟨n,m,S,k,l,ok,p,λi H1 j d=> ?_⟩
 dsimp only at e
 split at e
 ·rename_i c
  rw[Qhq c]
  exact⟨i,m,l,o,ok.to j d,e,q.to j⟩
 ·rename_i c
  rw[Quq c]
  exact⟨i,m,l,o,ok.to j d,e,q.to j⟩
abbrev jt:=D->cN->aC->Option (cN×aC)
abbrev m5:=List D->cN->aC->Option (cN×aC)
def tG(M:Md)(g:jt):TG:=λv n H Q=>∃j m S d h l,Ok M j m S n H/\Rel M j H d v/\g d m S=some (h,l)/\∀f i k,bB j H f k->Ok M f h l i k->Q i k
def G3(M:Md)(g:m5):BM:=λn o H Q=>∃i m S l f k,Ok M i m S o H/\aN M i H l n/\g l m S=some (f,k)/\∀d h j,bB i H d j->Ok M d f k h j->Q h j
def Hb{t t':TG}(h:PG X e t)(w:∀v f H Q,t' v f H Q->t v f H Q):PG X e t':=λd s f H v u Q I r q=>h d s f H v u Q I r (w _ _ _ _ q)
def Gn{g:List Expr}{t t':BM}(h:Bm X g t)(w:∀v f H Q,t' v f H Q->t v f H Q):Bm X g t':=λd s f H v u Q I r q=>h d s f H v u Q I r (w _ _ _ _ q)
def bO(i:Nat):jt:=λd f S=>some (f.set i (some d),S)
def A8{i:Nat}(h:PG X e (kS i)):PG X e (tG (md X) (bO i)):=Hb h λv k H Q f=>by
 obtain⟨j,m,S,d,g,l,ok,r,e,q⟩:=f
 cases e
 exact q _ _ _ bB.refl ⟨ok.en.set r,ok.st⟩
def df:m5:=λf d S=>match f with
 | []=>some (d,S)
 |_=>none
def aI(f:jt)(g:m5):m5:=λj k S=>match j with
 |d::r=>(f d k S).bind λ(h,i)=>g r h i
 | []=>none
def Hq:Bm X [] (G3 (md X) df):=Gn BU λg i H Q d=>by
 obtain⟨h,l,S,k,f,j,ok,r,e,q⟩:=d
 cases r with
 |nil=>cases e;exact⟨rfl,q _ _ _ bB.refl ok⟩
 |cons=>cases e
def GO{h:List Expr}{f:jt}{g:m5}(w:PG X e (tG (md X) f))(v:Bm X h (G3 (md X) g))(t:(assignEach (e::h) X.env).map (·.2)=assign e X.env::(assignEach h X.env).map (·.2):=by rfl):Bm X (e::h) (G3 (md X) (aI f g)):=
 Gn (AO w v t) λF I H Q B=>by
  obtain⟨p,C,S,G,k,y,ok,r,e,q⟩:=B
  cases r with
  |nil=>cases e
  | cons r o=>
    obtain⟨⟨d,m⟩,s,e⟩:=aq e
    refine⟨_,_,rfl,p,C,S,_,d,m,ok,r,s,λl u H1 n j=>⟨l,d,m,_,k,y,j,o.ext n,e,λA x H2 z i=>q _ _ _ (n.trans z) i⟩⟩
def ju(g:m5):jt:=λd h S=>match d with
 |.tup f=>g f h S
 |_=>none
def nG(n:Nat)(g:m5):m5:=λd f S=>if d.length=n then g d f S else none
def IW{f:List Expr}{k:Nat}{g:m5}{n:Nat}(p:X.calm=true)(h:Bm X f (G3 (md X) g))(m:(assignEach f X.env).length=n:=by rfl)(i:(assignEach f X.env).findIdx? (·.1)=none:=by rfl):
  PG X (.Tuple f k pos) (tG (md X) (ju (nG n g))):=Hb (DY p h m i) λv u H Q ⟨o,t,S,d,j,s,ok,r,e,q⟩=>by
 cases r with
 | tup h l=>
   simp only[ju,nG] at e
   split at e
   · rename_i c
     exact⟨_,_,rfl,fe.of h,by rw[←l.length];exact c,o,t,S,_,j,s,ok,l,e,q⟩
   · cases e
 |_=>cases e
def nQ(f:aV)(g:jt):cy:=λi S=>(f i S).bind λ(d,k)=>(g d i k).bind λ(h,j)=>some (.nx h j)
def Fi{f:aV}{g:jt}:∀D k H,tS (md X) (nQ f g) D k H->ze (tD (md X) f) (tG (md X) g) D k H:=λD k H A=>by
 obtain⟨s,p,S,o,ok,e,q⟩:=A
 obtain⟨⟨d,m⟩,t,e⟩:=aq e
 obtain⟨⟨i,r⟩,z,e⟩:=aq e
 cases e
 exact⟨s,p,S,d,m,ok,t,λl v H1 n j u=>⟨l,p,m,d,i,r,ok.to n j,u,z,λy w H2 x h=>q _ _ _ (n.trans x) h⟩⟩
def Jm{d:Expr}{f:aV}{g:jt}(he:PE X e (tD (md X) f))(i:PG X d (tG (md X) g))(k:swapsWithSole [d] e pos.line X.env=pure false:=by rfl)(j:swappedStores [d] e X.env=pure none:=by rfl)
  (h:(assignEach [d] X.env).map (·.2)= [assign d X.env]:=by rfl):PS X (.Assign [d] e pos) (tS (md X) (nQ f g)):=y0 (C8 he i k j h) Fi
noncomputable def aS(i:Nat)(f:aV):cy:=λg S=>(f g S).bind λ(d,h)=>some (.nx (g.set i (some d)) h)
def FD{i:Nat}{f:aV}(h:PS X st (ze (tD (md X) f) (kS i))):PS X st (tS (md X) (aS i f)):=y0 h λD t H p=>by
 obtain⟨k,r,S,o,ok,e,q⟩:=p
 obtain⟨⟨d,m⟩,l,e⟩:=aq e
 cases e
 exact⟨k,r,S,d,m,ok,l,λs v H1 j g n=>q _ _ _ j ⟨(ok.en.ext j).set n,g⟩⟩
abbrev qg:=cN->aC->Option ((List D×(aC->Prop))×aC)
def Walks(M:Md)(J:It)(ρ:List Addr)(H:Hp)(ds:List D)(W:aC->Prop):Prop:=∀(i:Nat) (f:List Addr) (j:aC) (h:Hp),bB ρ H f h->dS M f j h->W j→
 (∀d,ds[i]?=some d->J.go i h/\∀x g,J.yld i h x g->bB f h f g/\dS M f j g/\Rel M f g d x)/\(i=ds.length->J.stop i h)
def tI(M:Md)(f:qg):TI:=λl H R=>∃h k S j W i,Ok M h k S l H/\f k S=some ((j,W),i)/\∀d J g,bB h H d g->dS M d i g->Walks M J d g j W->R J g
def GI{g:Expr}{t t':TI}(h:PI X g e t)(w:∀f H R,t' f H R->t f H R):PI X g e t':=λd s f H R I q=>h d s f H R I (w _ _ _ q)
def DG{A l:Expr}{r:TE}(u:PE X l r):PI X A l (λn H R=>r n H λx H1=>∃a,x=.ref a/\((∃xs,gc X.K H1 a xs)/\R (Jn X.K a) H1\/(∃xs,fe X.K H1 a xs)/\R (Jr X.K a) H1)):=by
 intro i s n H R I h
 refine bP (u i s n H _ I h) λv d z=> ?_
 obtain⟨x,H1,f,t,m⟩:=z
 obtain⟨a,e,m⟩:=m
 subst e
 cases t
 rcases m with⟨⟨xs,k⟩,q⟩|⟨⟨xs,k⟩,q⟩
 ·obtain⟨g,y,p,w⟩:=f.list k
  refine wpAny_pyIter_list p.isList ?_
  refine⟨d.heap.objs.size,[d.heap.objs.size],_,_,H1,rfl,f.kept (t':=d.toks) λb o e=>Qcq _ e,yp a _,⟨_,Qrq _ rfl,rfl,rfl⟩,λb j=> ?_,q⟩
  have e:b=d.heap.objs.size:=by simpa using j
  subst e
  exact f.fpOk (Qmq _) (f.hok.fresh (Qmq _))
 ·obtain⟨g,y,p,w⟩:=f.tuple k
  refine wpAny_pyIter_tuple (show d.heap.IsTuple a g.toArray from p) ?_
  refine⟨d.heap.objs.size,[d.heap.objs.size],_,_,H1,rfl,f.kept (t':=d.toks) λb o e=>Qcq _ e,wx a _,⟨_,Qrq _ rfl,rfl,rfl⟩,λb j=> ?_,q⟩
  have e:b=d.heap.objs.size:=by simpa using j
  subst e
  exact f.fpOk (Qmq _) (f.hok.fresh (Qmq _))
def r8(f:dU):qg:=λh S=>(f h S).bind λ(p,g)=>some ((p.1,λd=>p.2.stays d p.1),g)
def Jp{L l:Expr}{f:dU}(K:PE X l (tQ (md X) f)):PI X L l (tI (md X) (r8 f)):=GI (DG K) λZ H R P=>by
 obtain⟨G,Q,S,U,W,Y,ok,e,q⟩:=P
 obtain⟨⟨⟨B,t⟩,J⟩,I,e⟩:=aq e
 obtain⟨N,rfl⟩:=bF e
 obtain⟨rfl,rfl⟩:=Prod.mk.inj N
 refine⟨G,Q,S,B,t,J,ok,I,λM a C H' x st h r=>⟨a,rfl,?_⟩⟩
 cases c:t.isL with
 | true=>
   refine .inl ⟨⟨C,h.sqL c⟩,q _ _ _ x st λi z F H2 y j w=> ?_⟩
   obtain⟨g,p,o⟩:=h.to r y j w
   have k:=p.sqL c
   refine⟨λd u=> ?_,λs=>⟨g,k,by rw[s,o.length];exact Qmq _⟩⟩
   obtain⟨v,n,A⟩:=o.get u
   refine⟨⟨g,v,k,n⟩,λx H3 m=> ?_⟩
   obtain⟨rfl,m⟩:=m
   have:=m g k
   rw[n] at this
   cases this
   exact⟨bB.refl,j,A⟩
 | false=>
   refine .inr ⟨⟨C,h.sqT c⟩,q _ _ _ x st λi z F H2 y j w=> ?_⟩
   obtain⟨g,p,o⟩:=h.to r y j w
   have k:=p.sqT c
   refine⟨λd u=> ?_,λs=>⟨g,k,by rw[s,o.length];exact Qmq _⟩⟩
   obtain⟨v,n,A⟩:=o.get u
   refine⟨⟨g,v,k,n⟩,λx H3 m=> ?_⟩
   obtain⟨rfl,m⟩:=m
   have:=m g k
   rw[n] at this
   cases this
   exact⟨bB.refl,j,A⟩
def pY(lo hi:Int):List D:=(List.range (hi-lo).toNat).map λ(i:Nat)=>D.int (lo+(i:Int))
def ub(f:aV):qg:=λh S=>(f h S).bind λ(d,g)=>match d with
 |.int j=>if -(2^62)<=j/\j<2^62 then some ((pY 0 j,λ_=>True),g) else none
 |_=>none
def yk{M:Md}{ρ:List Addr}{H:Hp}{lo hi:Int}:Walks M (GZ lo (hi-lo).toNat) ρ H (pY lo hi) (λ_=>True):=λi l o H2 p g w=>by
 unfold pY
 refine⟨λd h=> ?_,λhi=>by rw[lQm,QVq] at hi;exact Nat.le_of_eq hi.symm⟩
 rw[gQm] at h
 obtain⟨k,n,rfl⟩:=oQm.mp h
 have f:=(gQs.mp n)
 obtain⟨f,j⟩:=f
 rw[List.getElem_range] at j
 subst j
 rw[QVq] at f
 refine⟨f,λx H3 m=> ?_⟩
 obtain⟨rfl,rfl⟩:=m
 exact⟨bB.refl,g,.int _⟩
def Iu{t a:Expr}{f:aV}{p:Pos}(s:Gl X "range")(n:X.mg "range"=none)(o:PE X a (tD (md X) f))(h:starEach [a] X.env= [(false,eval a X.env)]:=by rfl):PI X t (.Call (.Name "range" p) [a] [] pos) (tI (md X) (ub f)):=
 GI (ye s n (eM o kK h) h) λC H R v=>by
  obtain⟨ρ,w,S,A,W,B,ok,e,q⟩:=v
  obtain⟨⟨d,l⟩,k,e⟩:=aq e
  dsimp only at e
  split at e
  ·rename_i j
   split at e
   ·rename_i i
    obtain⟨u,rfl⟩:=bF e
    obtain⟨rfl,rfl⟩:=Prod.mk.inj u
    refine⟨ρ,w,S,[.int j],l,ok,by unfold ar ax;rw[k];rfl,λg z y x st r=> ?_⟩
    cases r with
    | cons r m=>
      cases m
      cases r
      refine⟨j,rfl,i.1,i.2,q _ _ _ x st ?_⟩
      have:=yk (M:=md X) (ρ:=g) (H:=y) (lo:=0) (hi:=j)
      rw[Int.sub_zero] at this
      exact this
   ·cases e
  ·cases e
open Classical in
def forL(g:jt)(b:cy)(W:aC->Prop):List D->cN->aC->Option Out
 | [],Γ,S=>if W S then some (.nx Γ S) else none
 |d ::ds,Γ,S=>if W S then(g d Γ S).bind λ(i,j)=>(b i j).bind λo=>match o with
    |.nx f h=>forL g b W ds f h
    |.ct f h=>forL g b W ds f h
    |.bk f h=>some (.nx f h)
    |.rt x h=>some (.rt x h)
    |.rl x h=>some (.rl x h)
  else none
def m_(i:qg)(g:jt)(b:cy):cy:=λd S=>(i d S).bind λ(p,f)=>forL g b p.2 p.1 d f
def Ju{N j:Expr}{i:qg}{g:jt}{f:cy}(hp:PassesOwn (model X.prog X.w) X.A X.env X.xe)(hc:X.calm=true)(hi:PI X N j (tI (md X) i))(hg:PG X N (tG (md X) g))(hb:oS X body (tS (md X) f))
  (hs:∀x,foldedSetIterable j X.env x=pure x:=by intro _;rfl):PS X (.For N j body [] pos) (tS (md X) (m_ i g f)):=y0 (EK hp hc hi hg hb hs) λD σ H ⟨ρ,Γ,S,o,ok,e,q⟩=>by
 obtain⟨⟨⟨h,W⟩,S1⟩,e1,e⟩:=aq e
 refine⟨ρ,Γ,S,h,W,S1,ok,e1,λv J H1 x1 P wk=> ?_⟩
 have L:=q.to x1
 have U:=ok.to x1 P
 refine⟨λi m l y=>m=h.length-i/\i<=h.length/\∃d r z,bB v H1 d y/\Ok (md X) d r z l y/\forL g f W (h.drop i) r z=some o,⟨h.length,by simp,Nat.zero_le _,v,Γ,S1,bB.refl,U,e⟩,?_⟩
 rintro i m a1 H2 ⟨rfl,hi,d,r,z,x2,ok2,e2⟩
 by_cases u:i<h.length
 ·have hd:h[i]?=some h[i]:=gQe u
  rw[QWq u] at e2
  unfold forL at e2
  split at e2
  ·rename_i w
   obtain⟨w1,w2⟩:=wk i d z H2 x2 ok2.st w
   obtain⟨go,Q⟩:=w1 _ hd
   refine .inr ⟨go,λl y=>∃t p M,bB v H1 t y/\Ok (md X) t p M l y/\forL g f W (h.drop (i+1)) p M=some o,λl y ⟨t,p,M,h1,h2,h3⟩=>⟨h.length-(i+1),by omega,rfl,u,t,p,M,h1,h2,h3⟩,λx H3 hy=> ?_⟩
   obtain⟨x3,Z,r3⟩:=Q x H3 hy
   obtain⟨⟨K,S4⟩,e4,e5⟩:=aq e2
   refine⟨d,r,z,_,K,S4,ok2.to x3 Z,r3,e4,λY a0 H4 x4 R=> ?_⟩
   obtain⟨o5,e6,I⟩:=aq e5
   have G:=(x2.trans x3).trans x4
   refine⟨Y,K,S4,o5,R,e6,?_⟩
   cases o5 with
   |nx s B=>exact λn C H6 F k=>⟨n,s,B,G.trans F,k,I⟩
   |ct s B=>exact λn C H6 F k=>⟨n,s,B,G.trans F,k,I⟩
   |bk s B=>cases I;exact λn C H6 F k=>L _ _ _ (G.trans F) k
   |rt d6 B=>cases I;exact L.to G
   |rl d6 B=>cases I;exact L.to G
  ·cases e2
 ·have e3:i=h.length:=by omega
  subst e3
  rw[List.drop_length] at e2
  unfold forL at e2
  split at e2
  ·rename_i w
   cases e2
   obtain⟨w1,w2⟩:=wk h.length d z H2 x2 ok2.st w
   exact .inl ⟨w2 rfl,L _ _ _ x2 ok2⟩
  ·cases e2
end
section
variable{M:Md}{ρ:List Addr}{H:Hp}{b:Addr}{us ws:List V}
mutual
theorem Rel.off(a:H b=some (.lst us)):∀{d:D} {v:V},Rel M ρ H d v->Rel M ρ (upd H b (.lst ws)) d v
 |_,_,.non=>.non
 |_,_,.bl x=>.bl x
 |_,_,.int i=>.int i
 |_,_,.str x=>.str x
 |_,_,.tup h hs=>.tup (by rw[aO (A6 h a (by intro z;cases z))];exact h) (aN.off a hs)
 |_,_,.ref h=>.ref h
 |_,_,.fn h=>.fn h
theorem aN.off(a:H b=some (.lst us)):∀{ds:List D} {vs:List V},aN M ρ H ds vs->aN M ρ (upd H b (.lst ws)) ds vs
 |_,_,.nil=>.nil
 |_,_,.cons h hs=>.cons (Rel.off a h) (aN.off a hs)
end
theorem dS.off{S:aC}(st:dS M ρ S H)(f:H b=some (.lst us))(n:b∉ρ):dS M ρ S (upd H b (.lst ws)):=⟨st.len,st.nd,λk a o h l=>by
 have q:=st.obj k a o h l
 have g:a≠b:=λz=>n (z▸mQg h)
 cases o with
 |lst j=>obtain⟨e,c,d⟩:=q;exact⟨e,by rw[aO g];exact c,d.off f⟩
 |frz j=>obtain⟨e,o,c,d⟩:=q;exact⟨e,o,by rw[aO g];exact c,d.off f⟩
 |dct m=>obtain⟨i,c,d⟩:=q;exact⟨i,by rw[aO g];exact c,d.imp λ_ _ r=>r.off f⟩⟩
def En.off{c:cN}{a:L2.St}(h:En M ρ H c a)(e:H b=some (.lst us)):En M ρ (upd H b (.lst ws)) c a:=⟨h.len,λi d q=>by obtain⟨v,f,g⟩:=h.get i d q;exact⟨v,f,g.off e⟩⟩
def bB.off{d:List Addr}{f:Hp}(e:bB d f ρ H)(g:f b=none)(u:HO):bB d f ρ (upd H b u):=⟨e.pre,e.new,λa o h c=>by rw[aO (di h g)];exact e.keep a o h c,λa h=>by
 by_cases z:a=b
 ·subst z;exact g
 ·rw[aO z] at h;exact e.grow a h⟩
end
def k8(js:List (Option Nat))(a:cN):cN:=js.map λo=>o.bind λj=>a.getD j none
def En.sig{M:Md}{ρ:List Addr}{H:Hp}{b:cN}{c:L2.St}(js:List (Option Nat))(h:En M ρ H b c):En M ρ H (k8 js b) (g9 js c) where
 len:=by unfold k8 g9;rw[lQm,lQm]
 get:=λi d q=>by
  unfold k8 at q
  unfold g9
  rw[gQm] at q⊢
  cases e:js[i]? with
  |none=>rw[e] at q;cases q
  | some o=>
    rw[e] at q
    cases o with
    |none=>cases q
    | some j=>
      have a:b.getD j none=some d:=QdQ q
      have k:b[j]?=some (some d):=by
        rw[Qlq] at a
        cases z:b[j]? with
        |none=>rw[z] at a;cases a
        |some y=>rw[z] at a;exact congrArg some a
      obtain⟨v,g,f⟩:=h.get j d k
      refine⟨v,?_,f⟩
      show some (c.getD j none)=some (some v)
      rw[Qlq,g]
      rfl
open Classical in
def jC(g:jt)(t:gM)(f:aV)(W:aC->Prop):List D->cN->aC->List D->Option (List D×aC)
 | [],Γ,S,acc=>if W S then some (acc,S) else none
 |d ::ds,Γ,S,acc=>if W S then(g d Γ S).bind λ(a,e)=>(t a e).bind λ(k,b)=>
    if k=true then(f a b).bind λ(y,c)=>if acc.length<sizeLine then jC g t f W ds a c (acc++ [y]) else none
    else jC g t f W ds a b acc
  else none
def cW(js:List (Option Nat))(i:qg)(g:jt)(t:gM)(f:aV):fh:=λa S=>(i a S).bind λ(p,b)=>jC g t f p.2 p.1 (k8 js a) b []
section
variable{M:Md}
def AK{js:List (Option Nat)}{i:qg}{g:jt}{t:gM}{f:aV}:∀Y H Q,tL M (cW js i g t f) Y H Q->zy js (tI M i) (tG M g) (tB M t) (tD M f) Y H Q:=λY H Q qq=>by
 obtain⟨ρ,Γ,S,rs,S',ok,e,q⟩:=qq
 obtain⟨⟨⟨j,W⟩,S1⟩,e1,e⟩:=aq e
 refine⟨ρ,Γ,S,j,W,S1,ok,e1,λl J H1 x1 N wk D L=> ?_⟩
 have n1:D∉l:=fK x1 N L
 have a4:Ok M l (k8 js Γ) S1 (g9 js Y) (upd H1 D (.lst [])):=⟨((ok.en.ext x1).ext (bB.laid L)).sig js,N.lay L⟩
 refine⟨λi m o d=>m=j.length-i/\i<=j.length/\∃c s K a h,bB l H1 c d/\Ok M c s K o d/\D∉c/\d D=some (.lst h)/\aN M c d a h/\jC g t f W (j.drop i) s K a=some (rs,S'),
  ⟨j.length,by simp,Nat.zero_le _,l,_,S1,[],[],bB.laid L,a4,n1,bx,.nil,e⟩,?_⟩
 rintro i m a9 H2 ⟨rfl,hi,c,s,K,a,h,x2,ok2,n2,hD2,racc,e2⟩
 by_cases F:i<j.length
 ·have hd:j[i]?=some j[i]:=gQe F
  rw[QWq F] at e2
  unfold jC at e2
  split at e2
  ·rename_i w
   obtain⟨w1,w2⟩:=wk i c K H2 x2 ok2.st w
   obtain⟨go,a1⟩:=w1 _ hd
   refine .inr ⟨go,λo d=>∃b p B a h,bB l H1 b d/\Ok M b p B o d/\D∉b/\d D=some (.lst h)/\aN M b d a h/\jC g t f W (j.drop (i+1)) p B a=some (rs,S'),
    λo d ⟨b,p,B,a,h,h1,h2,h3,h4,h5,h6⟩=>⟨j.length-(i+1),by omega,rfl,F,b,p,B,a,h,h1,h2,h3,h4,h5,h6⟩,λx H3 hy=> ?_⟩
   obtain⟨x3,a6,r3⟩:=a1 x H3 hy
   obtain⟨⟨n,S4⟩,e4,e5⟩:=aq e2
   refine⟨c,s,K,_,n,S4,ok2.to x3 a6,r3,e4,λa5 a8 H4 x4 u=> ?_⟩
   obtain⟨⟨k,S5⟩,e6,Z⟩:=aq e5
   refine⟨a5,n,S4,k,S5,u,e6,λP H5 X R=> ?_⟩
   have A:=(x3.trans x4).trans X
   have C:∀{b d},bB c H2 b d->d D=some (.lst h)/\D∉b:=λ{b d} x=>⟨x.keep _ _ hD2 (.inl n2),λm=>(x.new _ m).elim n2 λz=>by rw[z] at hD2;cases hD2⟩
   dsimp only at Z⊢
   split at Z
   ·rename_i ck
    rw[Qhq ck]
    obtain⟨⟨y,S6⟩,e8,U⟩:=aq Z
    refine⟨P,n,S5,y,S6,u.to X R,e8,λa0 v H6 x6 a2 r6=> ?_⟩
    have I:=A.trans x6
    obtain⟨r,n6⟩:=C I
    have G:=racc.ext I
    dsimp only at U
    split at U
    ·rename_i cl
     refine⟨h,r,by rw[←racc.length];exact cl,a0,n,S6,a++ [y],h++ [v],(x2.trans I).off L _,⟨((u.en.ext X).ext x6).off r,a2.off r n6⟩,n6,bx,(G.append (.cons r6 .nil)).off r,U⟩
    ·cases U
   ·rename_i ck
    rw[Quq ck]
    obtain⟨a3,n5⟩:=C A
    exact⟨P,n,S5,a,h,x2.trans A,u.to X R,n5,a3,racc.ext A,Z⟩
  ·cases e2
 ·have e3:i=j.length:=by omega
  subst e3
  rw[List.drop_length] at e2
  unfold jC at e2
  split at e2
  ·rename_i w
   obtain⟨rfl,rfl⟩:=bF e2
   obtain⟨w1,w2⟩:=wk j.length c K H2 x2 ok2.st w
   exact .inl ⟨w2 rfl,q c D h H2 (x1.trans x2) ok2.st (x1.grow _ L) n2 hD2 racc⟩
  ·cases e2
end
section
variable{X:Cx}{a b c e:Expr}{pos:Pos}{st:Stmt}{rest body other:List Stmt}
def dW:gM:=λ_ S=>some (true,S)
def E4{d:List Expr}{t t':TT}(h:jH X d t)(w:∀g H Q,t' g H Q->t g H Q):jH X d t':=λf s g H Q I q=>h f s g H Q I (w _ _ _ q)
def ID:jH X [] (tB (md X) dW):=E4 Dv λf H Q ⟨d,h,S,k,g,ok,e,q⟩=>by cases e;exact q _ _ bB.refl ok.st
def IT{f:gM}(d:PT X c (tB (md X) f)):jH X [c] (tB (md X) f):=DU d
def D6{N:List Str}{js:List (Option Nat)}{d:Scope}{l:List (Str×Addr)}{m h j:Expr}{k:List Expr}{i:qg}{g:jt}{t:gM}{f:aV}
  (S:aR X N js d l) (o:X.calm=true) (hi:PI X m h (tI (md X) i))
  (p:∀C s H fp,PG (aD X N d l C s H fp) m (tG (md X) g)) (q:∀C s H fp,jH (aD X N d l C s H fp) k (tB (md X) t)) (he:∀C s H fp,PE (aD X N d l C s H fp) j (tD (md X) f))
  (n:∀x,foldedSetIterable h X.env x=pure x:=by intro _;rfl):PE X (.ListComp j [⟨m,h,k,0⟩] d pos) (tL (md X) (cW js i g t f)):=jo (CB S o hi p q he n) AK
def Ds{N:List Str}{js:List (Option Nat)}{h:Scope}{v:List (Str×Addr)}{w j m k:Expr}{p:List Expr}{i:qg}{g:jt}{t:gM}{f:aV}{n:Nat}{l:Pos}
  (S:aR X N js h v) (W:X.calm=true) (hi:PI X w j (tI (md X) i))
  (hg:∀C s H fp,PG (aD X N h v C s H fp) w (tG (md X) g)) (ht:∀C s H fp,jH (aD X N h v C s H fp) p (tB (md X) t)) (he:∀C s H fp,PE (aD X N h v C s H fp) m (tD (md X) f)) (z:PG X k (kS n))
  (Q:∀x,foldedSetIterable j X.env x=pure x:=by intro _;rfl) (B:swapsWithSole [k] (.ListComp m [⟨w,j,p,0⟩] h pos) l.line X.env=pure true:=by rfl)
  (Y:(assignEach [k] X.env).map (·.2)= [assign k X.env]:=by rfl):PS X (.Assign [k] (.ListComp m [⟨w,j,p,0⟩] h pos) l) (tS (md X) (aS n (iM (cW js i g t f)))):=
 y0 (CC S W hi hg ht he z Q B Y) λD σ H qq=>by
  obtain⟨F,Γ,S,o,ok,e,q⟩:=qq
  obtain⟨⟨d,S1⟩,P,e⟩:=aq e
  cases e
  obtain⟨⟨G,K⟩,e2,Z⟩:=aq P
  obtain⟨rfl,rfl⟩:=bF Z
  refine AK σ H _ ⟨F,Γ,S,G,K,ok,e2,λr a M J x st fr U R L=> ?_⟩
  have A:=L.pre (List.prefix_append r [a])
  have y:=st.box (o:=.lst G) U ⟨M,R,A⟩
  have I:bB F H (r++ [a]) J:=⟨x.pre.trans (List.prefix_append _ _),λb u=>by
   rcases mQa.mp u with u|u
   ·exact x.new b u
   ·rw[Qfq] at u;subst u;exact .inr fr,x.keep,x.grow⟩
  refine q (r++ [a]) _ J I ⟨((ok.en.ext I).set (.ref ?_)),y⟩
  rw[←st.len,QQq (Qmq _)]
  simp
end
inductive Res where
 |d (x:D)|l (ds:List D)
abbrev cT:=List D->aC->Option (Res×aC)
def DR(M:Md)(ρ:List Addr)(H b:Hp)(v:V):Res->Prop
 |.d x=>Rel M ρ b x v
 |.l e=>∃a c,v=.ref a/\H a=none/\a∉ρ/\b a=some (.lst c)/\aN M ρ b e c
def dB(M:Md)(n:Nat)(F:cT):Sp:=λf H Q _=>∃c S d r e,d.length=n/\aN M c H d f/\dS M c S H/\F d S=some (r,e)/\∀a v b,bB c H a b->dS M a e b->DR M a H b v r->Q v b
mutual
def bJ(m:Nat):D->Bool
 |.ref k=>decide (k<m)
 |.tup a=>bz m a
 |_=>true
def bz(m:Nat):List D->Bool
 | []=>true
 |d::ds=>bJ m d&&bz m ds
end
def BK(m:Nat):O->Bool
 |.lst b=>bz m b
 |.frz b=>bz m b
 |.dct a=>bz m (a.map (·.2))
section
variable{M:Md}{ρ ρ':List Addr}{H:Hp}
mutual
theorem Rel.cut(e:ρ <+: ρ'):∀{d:D} {v:V},Rel M ρ' H d v->bJ ρ.length d=true->Rel M ρ H d v
 |_,_,.non,_=>.non
 |_,_,.bl x,_=>.bl x
 |_,_,.int i,_=>.int i
 |_,_,.str x,_=>.str x
 |_,_,.tup h hs,b=>.tup h (aN.cut e hs (by simpa [bJ] using b))
 | _,_,.ref (k:=k) (a:=a) h,b=>.ref (by
   obtain⟨t,rfl⟩:=e
   have c:k<ρ.length:=by simpa [bJ] using b
   rwa [QHq c] at h)
 |_,_,.fn h,_=>.fn h
theorem aN.cut(e:ρ <+: ρ'):∀{ds:List D} {vs:List V},aN M ρ' H ds vs->bz ρ.length ds=true->aN M ρ H ds vs
 |_,_,.nil,_=>.nil
 | _,_,.cons h hs,b=>by
   have a:=b
   simp only[bz,QDq,QCq] at a
   exact .cons (Rel.cut e h a.1) (aN.cut e hs a.2)
end
theorem bA.cut(e:ρ <+: ρ'):∀{l:List (Key×D)} {kv:List (Key×V)},bA M ρ' H l kv->bz ρ.length (l.map (·.2))=true->bA M ρ H l kv
 | [],_,h,_=>h
 | (_,_)::_,_,⟨v,t,q,h,hs⟩,b=>by
   have a:=b
   simp only[bz,QDq,QCq] at a
   exact⟨v,t,q,h.cut e a.1,bA.cut e hs a.2⟩
theorem kP.cut{a:Addr}{o:O}(e:ρ <+: ρ')(h:kP M ρ' H a o)(b:BK ρ.length o=true):kP M ρ H a o:=by
 cases o with
 |lst i=>obtain⟨f,c,d⟩:=h;exact⟨f,c,d.cut e b⟩
 |frz i=>obtain⟨f,o,c,d⟩:=h;exact⟨f,o,c,d.cut e b⟩
 |dct g=>obtain⟨j,c,d⟩:=h;exact⟨j,c,d.cut e b⟩
mutual
theorem Rel.low:∀{d:D} {v:V},Rel M ρ H d v->bJ ρ.length d=true
 |_,_,.non=>rfl
 |_,_,.bl x=>rfl
 |_,_,.int i=>rfl
 |_,_,.str x=>rfl
 |_,_,.tup h hs=>by simp only[bJ];exact aN.low hs
 |_,_,.ref h=>by simp only[bJ];exact Qeq (gQs.mp h).1
 |_,_,.fn h=>rfl
theorem aN.low:∀{ds:List D} {vs:List V},aN M ρ H ds vs->bz ρ.length ds=true
 |_,_,.nil=>rfl
 |_,_,.cons h hs=>by simp only[bz];rw[Rel.low h,aN.low hs];rfl
end
theorem bA.low:∀{l:List (Key×D)} {kv:List (Key×V)},bA M ρ H l kv->bz ρ.length (l.map (·.2))=true
 | [],_,_=>rfl
 |(_,_)::_,_,⟨v,t,q,h,hs⟩=>by simp only[QDq,bz];rw[h.low,bA.low hs];rfl
theorem kP.low{a:Addr}{o:O}(h:kP M ρ H a o):BK ρ.length o=true:=by
 cases o with
 |lst f=>obtain⟨e,c,b⟩:=h;exact b.low
 |frz f=>obtain⟨e,o,c,b⟩:=h;exact b.low
 |dct d=>obtain⟨g,c,b⟩:=h;exact b.low
end
def kT(S a:aC):Prop:=S.length<=a.length/\∀k o,k<S.length->a[k]?=some o->S[k]?=some o\/BK S.length o=true
open Classical in
def settle(S:aC)(d:D)(a:aC):Option (Res×aC):=if kT S a then match d with
  | .ref k=>if k<S.length then some (.d (.ref k),a.take S.length) else match a[k]? with
    |some (.lst ds)=>if bz S.length ds=true then some (.l ds,a.take S.length) else none
    |_=>none
  |d=>if bJ S.length d=true then some (.d d,a.take S.length) else none
 else none
open Classical in
def dQ(S:aC)(ds:List D)(a:aC):Option (Res×aC):=if kT S a/\bz S.length ds=true then some (.l ds,a.take S.length) else none
noncomputable def dX(n:Nat)(b:cy):cT:=λc S=>(b (c.map some++List.replicate (n-c.length) none) S).bind λo=>match o with
 |.nx _ a=>settle S .non a
 |.rt d a=>settle S d a
 |.rl l a=>dQ S l a
 |_=>none
noncomputable def EX(n:Nat)(b:cy):cT:=λc S=>(b (c.map some++List.replicate (n-c.length) none) S).bind λo=>match o with
 |.nx _ a=>some (.d .non,a)
 |.rt d a=>some (.d d,a)
 |.rl l a=>some (.l l,a)
 |_=>none
def dS.clean{M:Md}{ρ b:List Addr}{S j:aC}{H e:Hp}(st:dS M ρ S H)(x:bB ρ H b e)(f:dS M b j e)(c:kT S j):dS M ρ (j.take S.length) e/\bB ρ H ρ e:=by
 refine⟨⟨?_,st.nd,λk a o i g=> ?_⟩,List.prefix_refl _,λ_ h=>.inl h,x.keep,x.grow⟩
 ·rw[Qxq,st.len]
  have:=c.1
  omega
 ·have l:k<ρ.length:=(gQs.mp i).1
  have d:k<S.length:=st.len▸l
  rw[List.getElem?_take_of_lt d] at g
  refine(f.obj k a o (bT x.pre i) g).cut x.pre ?_
  rcases c.2 k o d g with z|z
  ·exact(st.obj k a o i z).low
  ·rw[st.len];exact z
def qu{M:Md}{ρ f:List Addr}{S t h:aC}{H g:Hp}{d:D}{v:V}{r:Res}(st:dS M ρ S H)(x:bB ρ H f g)(b:dS M f t g)(i:Rel M f g d v)(e:settle S d t=some (r,h)):
  bB ρ H ρ g/\dS M ρ h g/\DR M ρ H g v r:=by
 unfold settle at e
 split at e
 ·rename_i c
  obtain⟨p,n⟩:=st.clean x b c
  cases d with
  | ref k=>
    dsimp only at e
    split at e
    · rename_i q
      obtain⟨rfl,rfl⟩:=bF e
      exact⟨n,p,i.cut x.pre (by simp only[bJ];rw[st.len];exact Qeq q)⟩
    · rename_i q
      split at e
      · rename_i B y
        split at e
        · rename_i l
          obtain⟨rfl,rfl⟩:=bF e
          cases i with
          | ref o=>
            rename_i a
            obtain⟨w,A,z⟩:=b.obj k a _ o y
            have s:a∉ρ:=λm=>by
              obtain⟨j,u⟩:=List.getElem?_of_mem m
              have:=iA b.nd (bT x.pre u) o
              subst this
              exact q (st.len▸(gQs.mp u).1)
            refine⟨n,p,a,w,rfl,(x.new a (mQg o)).resolve_left s,s,A,z.cut x.pre (by rw[st.len];exact l)⟩
        · cases e
      · cases e
  | _=>
    dsimp only at e
    split at e
    · rename_i l
      obtain⟨rfl,rfl⟩:=bF e
      exact⟨n,p,i.cut x.pre (by rw[st.len];exact l)⟩
    · cases e
 ·cases e
def wB{M:Md}{ρ b:List Addr}{S h f:aC}{H d:Hp}{ds:List D}{a:Addr}{vs:List V}{r:Res}(st:dS M ρ S H)(x:bB ρ H b d)(g:dS M b h d)(o:H a=none)(l:a∉b)(k:d a=some (.lst vs))(i:aN M b d ds vs)(e:dQ S ds h=some (r,f)):
  bB ρ H ρ d/\dS M ρ f d/\DR M ρ H d (.ref a) r:=by
 unfold dQ at e
 split at e
 ·rename_i c
  obtain⟨n,j⟩:=st.clean x g c.1
  obtain⟨rfl,rfl⟩:=bF e
  exact⟨j,n,a,vs,rfl,o,λm=>l (x.pre.subset m),k,i.cut x.pre (by rw[st.len];exact c.2)⟩
 ·cases e
def uM{M:Md}{ρ:List Addr}{H:Hp}{ds:List D}{vs:List V}{N:List Str}(r:aN M ρ H ds vs):En M ρ H (ds.map some++List.replicate (N.length-ds.length) none) (L2.start N vs) where
 len:=by unfold L2.start;simp[r.length]
 get:=λi d q=>by
  unfold L2.start
  by_cases c:i<ds.length
  ·rw[QHq (by rw[lQm];exact c),gQm] at q
   obtain⟨g,a,b⟩:=oQm.mp q
   cases b
   obtain⟨v,e,f⟩:=r.get a
   exact⟨v,by rw[QHq (by rw[lQm,←r.length];exact c),gQm,e];rfl,f⟩
  ·rw[QQq (by rw[lQm];omega)] at q
   have:=mQg q
   rw[List.mem_replicate] at this
   cases this.2
section
variable{P:Program}{w:World}{K:PySem.W.Frag}{mg:Str->Option Value}{base:Heap}
def aX{x c:Str}{st:Stmt}{f:Addr}{I:FuncData}{N ps:List Str}{k:Nat}{b:cy}(F:dD K x c st f I)(S:aE N ps (aA st))
  (i:∀(g:Value) (A:Around) (outer:List Env) (s:Shared) (H:Hp) (E:XK),dC k (A.deeper (envOfC c (aA st) s.heap.objs.size f g))→
   oS (vd de P w K mg base N c (aA st) f g A outer s H E).nox (dg st) (tS ⟨K,mg⟩ b)):aY P w K mg base de (k+1) f I ps (dB ⟨K,mg⟩ ps.length (dX N.length b)):=by
 refine F.ok S (λB H Q E ⟨C,S,Z,r,S',J,y,_⟩=>by rw[←y.length];exact J) λg A outer s H B Q E U ⟨C,S,Z,r,S',J,y,t,h4,q⟩=>⟨_,i g A outer s H E U,?_⟩
 obtain⟨o,R,e⟩:=aq h4
 refine⟨C,_,S,o,⟨uM y,t⟩,R,?_⟩
 cases o with
 |nx M G=>exact λp W L n u=>by obtain⟨m,l,j⟩:=qu t n u.st .non e;exact q _ _ _ m l j
 |rt d G=>exact λp v L n h z=>by obtain⟨m,l,j⟩:=qu t n h z e;exact q _ _ _ m l j
 |rl d G=>exact λp a B L n h fr Y X z=>by obtain⟨m,l,j⟩:=wB t n h fr Y X z e;exact q _ _ _ m l j
 |bk=>cases e
 |ct=>cases e
def Em{x c:Str}{st:Stmt}{f:Addr}{z:FuncData}{N ps:List Str}{k:Nat}{b:cy}(F:dD K x c st f z)(S:aE N ps (aA st))
  (i:∀(g:Value) (A:Around) (outer:List Env) (s:Shared) (H:Hp) (E:XK),dC k (A.deeper (envOfC c (aA st) s.heap.objs.size f g))→
   oS (vd de P w K mg base N c (aA st) f g A outer s H E).nox (dg st) (tS ⟨K,mg⟩ b)):aY P w K mg base de (k+1) f z ps (dB ⟨K,mg⟩ ps.length (EX N.length b)):=by
 refine F.ok S (λm H Q E ⟨u,S,U,r,Y,B,p,_⟩=>by rw[←p.length];exact B) λg A outer s H m Q E J ⟨u,S,U,r,Y,B,p,X,Z,q⟩=>⟨_,i g A outer s H E J,?_⟩
 obtain⟨o,I,e⟩:=aq Z
 refine⟨u,_,S,o,⟨uM p,X⟩,I,?_⟩
 cases o with
 |nx G y=>cases e;exact λl L C j n=>q _ _ _ j n.st .non
 |rt d y=>cases e;exact λl v C j h t=>q _ _ _ j h t
 |rl d y=>cases e;exact λl a m C j h W R M t=>q _ _ _ j h ⟨a,m,rfl,W,R,M,t⟩
 |bk=>cases e
 |ct=>cases e
end
section
variable{X:Cx}{x:Str}{k n:Nat}{f:Addr}{fd:FuncData}{ps:List Str}{F:cT}{e:Expr}{es:List Expr}{g:fh}{p pos:Pos}
noncomputable def aB(F:cT)(g:fh):aV:=λh S=>(g h S).bind λ(c,b)=>(F c b).bind λ(r,a)=>match r with
 |.d x=>some (x,a)
 |.l _=>none
def eJ(F:cT)(g:fh):fh:=λh S=>(g h S).bind λ(a,c)=>(F a c).bind λ(r,b)=>match r with
 |.d _=>none
 |.l a=>some (a,b)
def nA(n:Nat)(g:fh):Prop:=∀c S a b,g c S=some (a,b)->a.length=n
def wC:nA 0 ax:=λ_ _ _ _ e=>by cases e;rfl
def jg{n:Nat}{f:aV}{g:fh}(h:nA n g):nA (n+1) (ar f g):=λo S l j e=>by
 obtain⟨⟨d,m⟩,i,e⟩:=aq e
 obtain⟨⟨a,c⟩,b,e⟩:=aq e
 cases e
 rw[Qnq,h _ _ _ _ b]
def xB{M:Md}(s:nA n g):∀h H Q,tD M (aB F g) h H Q->zU (dB M n F) [] E0 (uE M g) h H Q:=λh H Q C=>by
 obtain⟨t,G,S,d,J,ok,e,q⟩:=C
 obtain⟨⟨b,m⟩,j,e⟩:=aq e
 obtain⟨⟨r,o⟩,B,e⟩:=aq e
 refine⟨t,G,S,b,m,ok,j,λi I H1 w c y=>⟨i,m,b,r,o,s _ _ _ _ j,by rw[List.append_nil];exact y,c,B,λA v H2 z a u=> ?_⟩⟩
 cases r with
 |d x=>obtain⟨rfl,rfl⟩:=bF e;exact q _ _ _ (w.trans z) a u
 |l b=>cases e
def B_{M:Md}(w:nA n g):∀i H Q,tL M (eJ F g) i H Q->zU (dB M n F) [] E0 (uE M g) i H Q:=λi H Q I=>by
 obtain⟨y,J,S,d,K,ok,e,q⟩:=I
 obtain⟨⟨c,o⟩,m,e⟩:=aq e
 obtain⟨⟨r,t⟩,G,e⟩:=aq e
 refine⟨y,J,S,c,o,ok,m,λj u H1 s h A=>⟨j,o,c,r,t,w _ _ _ _ m,by rw[List.append_nil];exact A,h,G,λC v H2 B b z=> ?_⟩⟩
 cases r with
 |d x=>cases e
 | l c=>
   obtain⟨rfl,rfl⟩:=bF e
   obtain⟨a,u,rfl,fr,na,ha,rr⟩:=z
   exact q _ _ _ _ (s.trans B) b (s.grow _ fr) na ha rr
def D3(G:aY X.prog X.w X.K X.mg X.base de k f fd ps (dB (md X) n F))(l:dC k X.A)(h:Gl X x)(c:X.mg x=some (.ref f))(j:PySem.W.keepIn X.K (.ref f)=true)(b:Binds X.K fd ps [])(d:PA X (e::es) (uE (md X) g))(i:nA n g)
  (a:(x==("__debug__":Str))=false:=by decide) (he:starEach (e::es) X.env=(false,eval e X.env)::starEach es X.env:=by rfl) (hpl:(backTo pos (starEach es X.env)).any (·.1)=false:=by rfl):
  PE X (.Call (.Name x p) (e::es) [] pos) (tD (md X) (aB F g)):=jo (xQ G l h c j b .nil zL d a he hpl) (xB i)
def C9(G:aY X.prog X.w X.K X.mg X.base de k f fd ps (dB (md X) n F))(l:dC k X.A)(h:Gl X x)(c:X.mg x=some (.ref f))(j:PySem.W.keepIn X.K (.ref f)=true)(b:Binds X.K fd ps [])(d:PA X (e::es) (uE (md X) g))(i:nA n g)
  (a:(x==("__debug__":Str))=false:=by decide) (he:starEach (e::es) X.env=(false,eval e X.env)::starEach es X.env:=by rfl) (hpl:(backTo pos (starEach es X.env)).any (·.1)=false:=by rfl):
  PE X (.Call (.Name x p) (e::es) [] pos) (tL (md X) (eJ F g)):=jo (xQ G l h c j b .nil zL d a he hpl) (B_ i)
end
def hX{α:Type}(xs:List α)(lo hi:Option Int):List α:=(xs.drop (HT.dk xs.length 0 lo)).take (HT.dk xs.length xs.length hi-HT.dk xs.length 0 lo)
def aN.cut3{M:Md}{ρ:List Addr}{H:Hp}{ds:List D}{vs:List V}{lo hi:Option Int}(h:aN M ρ H ds vs):aN M ρ H (hX ds lo hi) (vn vs lo hi):=by
 unfold hX vn
 rw[h.length]
 exact(h.drop _).take _
def Ck{α:Type}{xs:List α}{lo hi:Option Int}(a:HT.dk xs.length 0 lo=0)(b:HT.dk xs.length xs.length hi=xs.length):hX xs lo hi=xs:=by
 unfold hX
 rw[a,b]
 simp
abbrev EN:=cN->aC->Option (Option Int×aC)
def G6(M:Md)(f:EN):TO:=λg H Q=>∃c e S o d,Ok M c e S g H/\f e S=some (o,d)/\∀a b,bB c H a b->dS M a d b->Q o b
section
variable{X:Cx}{a b c e:Expr}{pos:Pos}{st:Stmt}
def pS:EN:=λ_ S=>some (none,S)
def o7(f:aV):EN:=λh S=>(f h S).bind λ(d,g)=>match d with
 |.int i=>some (some i,g)
 |_=>none
def IK{o:Option Expr}{t t':TO}(h:PO X o t)(w:∀f H Q,t' f H Q->t f H Q):PO X o t':=λd s f H Q I q=>h d s f H Q I (w _ _ _ q)
def Hd:PO X none (G6 (md X) pS):=IK BN λf H Q ⟨d,h,S,o,g,ok,e,q⟩=>by cases e;exact q _ _ bB.refl ok.st
def Hl{f:aV}(h:PE X e (tD (md X) f)):PO X (some e) (G6 (md X) (o7 f)):=IK (BZ h) λp H Q l=>by
 obtain⟨g,m,S,o,n,ok,e,q⟩:=l
 obtain⟨⟨d,j⟩,i,e⟩:=aq e
 dsimp only at e
 split at e
 ·obtain⟨rfl,rfl⟩:=bF e
  refine⟨g,m,S,_,j,ok,i,λk v s x st r=> ?_⟩
  cases r
  exact⟨_,rfl,q _ _ x st⟩
 ·cases e
def pj(f:aV)(lo hi:EN):aV:=λg S=>(f g S).bind λ(d,k)=>(lo g k).bind λ(l,i)=>(hi g i).bind λ(h,j)=>match d with
 |.tup m=>some (.tup (hX m l h),j)
 |_=>none
def GR{lo hi:Option Expr}{K:Pos}{f:aV}{l h:EN}(he:PE X e (tD (md X) f))(N:PO X lo (G6 (md X) l))(R:PO X hi (G6 (md X) h)):PE X (.Subscript e (.Slice lo hi none K) pos) (tD (md X) (pj f l h)):=
 jo (AR BL he N R) λσ H Q Y=>by
  obtain⟨G,u,S,d,Z,ok,e,q⟩:=Y
  obtain⟨⟨x,z⟩,I,e⟩:=aq e
  obtain⟨⟨F,w⟩,U,e⟩:=aq e
  obtain⟨⟨y,W⟩,M,e⟩:=aq e
  cases x with
  | tup C=>
    dsimp only at e
    obtain⟨rfl,rfl⟩:=bF e
    refine⟨G,u,S,_,z,ok,I,λt v H1 m j L=>⟨t,u,z,F,w,ok.to m j,U,λs H2 r o=>⟨s,u,w,y,W,(ok.to m j).to r o,M,λP H3 A g=> ?_⟩⟩⟩
    have i:=(m.trans r).trans A
    have J:=L.ext (r.trans A)
    cases J with
    | tup B k=>
      refine⟨_,_,rfl,fe.of B,λc=> ?_,λc p n=> ?_⟩
      · have:hX C F y=C:=Ck (by rw[k.length];exact c.1) (by rw[k.length];exact c.2)
        rw[this] at q
        exact q _ _ _ i g (.tup B k)
      · exact q _ _ _ (i.trans (bB.laid n)) (g.lay n) (.tup bx (k.cut3.ext (bB.laid n)))
  |_=>cases e
open Classical in
def nI(f:dU):aV:=λg S=>(f g S).bind λ(p,d)=>if p.2.isL=true/\p.2.stays d p.1 then some (.bl (!p.1.isEmpty),d) else none
def B8{f:dU}:∀k H Q,tD (md X) (nI f) k H Q->BQ (Aa X.K) (tQ (md X) f) (tL (md X) (fg ax)) k H Q:=λk H Q B=>by
 obtain⟨p,o,S,d,I,ok,e,q⟩:=B
 obtain⟨⟨⟨x,t⟩,h⟩,r,e⟩:=aq e
 dsimp only at e
 split at e
 ·rename_i c
  obtain⟨rfl,rfl⟩:=bF e
  refine⟨p,o,S,x,t,h,ok,r,λl a J H1 m j y w=>⟨l,o,h,[],h,ok.to m j,rfl,λA b G H2 n g F C v u=> ?_⟩⟩
  obtain⟨i,z,s⟩:=y.to w n g c.2
  cases u
  refine⟨a,b,i,rfl,rfl,z.sqL c.1,gc.of v,?_⟩
  rw[←s.isEmpty]
  exact q _ _ _ (m.trans n) g (.bl _)
 ·cases e
def Fy:PE X (.List [] pos) (tL (md X) (fg ax)):=FP kK
def G4{f:dU}{p:Pos}(g:X.A.units<cLine)(d:PE X a (tQ (md X) f)):PT X (.Compare a [.NotEq] [.List [] p] pos) (tB (md X) (bc (nI f))):=wJ B8 (nz (Bf g) d Fy (A_ _))
def dS.putL{M:Md}{ρ:List Addr}{S:aC}{H:Hp}{k:Nat}{a:Addr}{ds d:List D}{ws:List V}(st:dS M ρ S H)(i:ρ[k]?=some a)(g:S[k]?=some (.lst ds))(r:aN M ρ H d ws):dS M ρ (S.set k (.lst d)) (upd H a (.lst ws))/\bB ρ H ρ (upd H a (.lst ws)):=by
 obtain⟨l,f,j⟩:=st.obj k a _ i g
 exact st.put i g ⟨ws,bx,r.off f⟩ λx h=>by rw[f] at h;cases h;exact id
def Ak(m:List D->List D->Option (List D×D))(f:aV)(g:fh):aV:=λj S=>(f j S).bind λ(x,i)=>match x with
 | .ref k=>(g j i).bind λ(l,h)=>match i[k]?,h[k]? with
   |some (.lst _),some (.lst ds)=>(m ds l).bind λ(n,d)=>some (d,h.set k (.lst n))
   |_,_=>none
 |_=>none
def DP(M:Md)(r:V->List V->Hp->VK->Prop)(m:List D->List D->Option (List D×D)):Prop:=∀{f:List Addr} {H:Hp} {a:Addr} {l h g:List D} {d:D} {i k:List V} {Q:VK},H a=some (.lst i)->aN M f H l i->aN M f H h k->m l h=some (g,d)→
 (∀j w,aN M f H g j->Rel M f H d w->Q w (upd H a (.lst j)))->r (.ref a) k H Q
def FW{m:List D->List D->Option (List D×D)}{r:V->List V->Hp->VK->Prop}{f:aV}{g:fh}(N:DP (md X) r m):∀s H Q,tD (md X) (Ak m f g) s H Q->G7 X.K "list" r (tD (md X) f) (uE (md X) g) s H Q:=λs H Q qq=>by
 obtain⟨J,C,S,d,S',ok,e,q⟩:=qq
 obtain⟨⟨x,u⟩,L,e⟩:=aq e
 cases x with
 | ref k=>
   dsimp only at e
   obtain⟨⟨G,F⟩,e2,e⟩:=aq e
   dsimp only at e
   split at e
   · rename_i M ds p i
     obtain⟨⟨es,d'⟩,Y,e⟩:=aq e
     obtain⟨rfl,rfl⟩:=bF e
     refine⟨J,C,S,_,u,ok,L,λt v H1 y l R=> ?_⟩
     cases R with
     | ref A=>
       rename_i a
       obtain⟨o,I,_⟩:=l.obj k a _ A p
       refine⟨.inl ⟨rfl,o,gc.of I⟩,t,C,u,G,F,ok.to y l,e2,λZ us H2 B j P=> ?_⟩
       have h:=bT B.pre A
       obtain⟨vs,W,U⟩:=j.obj k a _ h i
       refine N W U P Y λws w rw rd=> ?_
       obtain⟨n,z⟩:=j.putL h i rw
       exact q _ _ _ ((y.trans B).trans z) n (rd.ext z)
   · cases e
 |_=>cases e
def nN:List D->List D->Option (List D×D):=λd f=>match f with
 | [y]=>if d.length<sizeLine then some (d++ [y],.non) else none
 |_=>none
def Dh{M:Md}:DP M xx nN:=by
 intro n H a p m l d k o Q h g f e q
 unfold nN at e
 split at e
 ·split at e
  ·rename_i j
   obtain⟨rfl,rfl⟩:=bF e
   cases f with
   | cons f i=>
     cases i
     exact⟨a,k,_,rfl,rfl,h,by rw[←g.length];exact j,q _ _ (g.append (.cons f .nil)) .non⟩
  ·cases e
 ·cases e
def Gj{f:aV}{g:aV}{o:Expr}{h d:Pos}(n:PE X o (tD (md X) f))(m:PE X e (tD (md X) g))(j:attributeBase o "append" X.env (eval o X.env)=eval o X.env:=by rfl) (k:((backTo d (starEach [e] X.env)).all (λx=> !x.1)&&(backToKw d (keywordEach [] X.env)).all (λx=>x.1.isSome)
   &&decide ([e].length+([]:List Keyword).length+(if ([]:List Keyword).isEmpty then 0 else 1)<30))=true:=by rfl)
  (i:(h.endLine==d.line)=true:=by rfl) (l:starEach [e] X.env= [(false,eval e X.env)]:=by rfl):PE X (.Call (.Attribute o "append" h) [e] [] d) (tD (md X) (Ak nN f (ar g ax))):=
 jo (pI PySem.F.plainAttrs_list PySem.F.slot_list_append PySem.F.type_list_append lN n (eM m kK l) j k i l) (FW Dh)
end
section
variable{X:Cx}{a b c e:Expr}{pos:Pos}{st:Stmt}
def nO:List D->List D->Option (List D×D):=λd f=>match f with
 | [.int i]=>if -(2^63)<=i/\i<2^63 then(seqIndex? i d.length).bind λk=>(d[k]?).bind λy=>some (d.eraseIdx k,y) else none
 |_=>none
def AU{M:Md}:DP M zq nO:=by
 intro t H a u s x d m w Q n f g e q
 unfold nO at e
 split at e
 ·split at e
  ·rename_i i j
   obtain⟨k,h,e⟩:=aq e
   obtain⟨y,o,e⟩:=aq e
   obtain⟨rfl,rfl⟩:=bF e
   cases g with
   | cons g r=>
     cases r
     cases g
     obtain⟨v,l,p⟩:=f.get o
     rw[f.length] at h
     exact⟨a,m,i,k,v,rfl,rfl,n,j.1,j.2,h,l,q _ _ (f.eraseIdx k) p⟩
  ·cases e
 ·cases e
def GF{f:aV}{g:aV}{o:Expr}{h d:Pos}(n:PE X o (tD (md X) f))(m:PE X e (tD (md X) g))(j:attributeBase o "pop" X.env (eval o X.env)=eval o X.env:=by rfl) (k:((backTo d (starEach [e] X.env)).all (λx=> !x.1)&&(backToKw d (keywordEach [] X.env)).all (λx=>x.1.isSome)
   &&decide ([e].length+([]:List Keyword).length+(if ([]:List Keyword).isEmpty then 0 else 1)<30))=true:=by rfl)
  (i:(h.endLine==d.line)=true:=by rfl) (l:starEach [e] X.env= [(false,eval e X.env)]:=by rfl):PE X (.Call (.Attribute o "pop" h) [e] [] d) (tD (md X) (Ak nO f (ar g ax))):=
 jo (pI PySem.F.plainAttrs_list PySem.F.slot_list_pop PySem.F.type_list_pop zv n (eM m kK l) j k i l) (FW AU)
def y3(f:aV)(g:dU):aV:=λi S=>(f i S).bind λ(x,h)=>match x with
 | .ref k=>(g i h).bind λ(p,d)=>match h[k]?,d[k]? with
   |some (.lst _),some (.lst ds)=>if p.2.isM=true/\ds.length+p.1.length<=sizeLine then some (.non,d.set k (.lst (ds++p.1))) else none
   |_,_=>none
 |_=>none
def Fm{f:aV}{g:dU}:∀p H Q,tD (md X) (y3 f g) p H Q->G7 X.K "list" xP (tD (md X) f) (zK (tQ (md X) g) Dq) p H Q:=λp H Q qq=>by
 obtain⟨J,A,S,d,S',ok,e,q⟩:=qq
 obtain⟨⟨x,s⟩,L,e⟩:=aq e
 cases x with
 | ref k=>
   dsimp only at e
   obtain⟨⟨⟨F,t⟩,C⟩,Z,e⟩:=aq e
   dsimp only at e
   split at e
   · rename_i M ds o i
     split at e
     · rename_i c
       obtain⟨rfl,rfl⟩:=bF e
       refine⟨J,A,S,_,s,ok,L,λr v H1 w l P=> ?_⟩
       cases P with
       | ref y=>
         rename_i a
         obtain⟨n,G,_⟩:=l.obj k a _ y o
         refine⟨.inl ⟨rfl,n,gc.of G⟩,r,A,s,F,t,C,ok.to w l,Z,λY b W H2 z j R u=> ?_⟩
         have h:=bT z.pre y
         obtain⟨I,U,B⟩:=j.obj k a _ h i
         refine⟨a,b,I,W,rfl,rfl,U,R.sqM c.1,by rw[←B.length,←u.length];exact c.2,?_⟩
         obtain⟨m,N⟩:=j.putL h i (B.append u)
         exact q _ _ _ ((w.trans z).trans N) m .non
     · cases e
   · cases e
 |_=>cases e
def E7{f:aV}{g:dU}{o:Expr}{h d:Pos}(n:PE X o (tD (md X) f))(m:PE X e (tQ (md X) g))(j:attributeBase o "extend" X.env (eval o X.env)=eval o X.env:=by rfl) (k:((backTo d (starEach [e] X.env)).all (λx=> !x.1)&&(backToKw d (keywordEach [] X.env)).all (λx=>x.1.isSome)
   &&decide ([e].length+([]:List Keyword).length+(if ([]:List Keyword).isEmpty then 0 else 1)<30))=true:=by rfl)
  (i:(h.endLine==d.line)=true:=by rfl) (l:starEach [e] X.env= [(false,eval e X.env)]:=by rfl):PE X (.Call (.Attribute o "extend" h) [e] [] d) (tD (md X) (y3 f g)):=
 jo (pI PySem.F.plainAttrs_list PySem.F.slot_list_extend PySem.F.type_list_extend zk n (c9 m fV l) j k i l) Fm
def EW(f g:aV):jt:=λd h S=>(f h S).bind λ(x,m)=>(g h m).bind λ(y,l)=>match x,y with
 | .ref k,.int i=>match l[k]? with
   |some (.lst ds)=>(yC ds.length i).bind λj=>some (h,l.set k (.lst (ds.set j d)))
   |_=>none
 |_,_=>none
def Hv{f g:aV}:∀v p H Q,tG (md X) (EW f g) v p H Q->F6 (tD (md X) f) (tD (md X) g) CP v p H Q:=λv p H Q U=>by
 obtain⟨J,C,S,d,W,S',ok,r,e,q⟩:=U
 obtain⟨⟨x,t⟩,K,e⟩:=aq e
 obtain⟨⟨y,G⟩,R,e⟩:=aq e
 cases x with
 | ref k=>
   cases y with
   | int i=>
     dsimp only at e
     split at e
     · rename_i ds u
       obtain⟨j,M,e⟩:=aq e
       obtain⟨rfl,rfl⟩:=bF e
       refine⟨J,C,S,_,t,ok,K,λs Z H1 w o m=>⟨s,C,t,_,G,ok.to w o,R,λP Y H2 B h L=> ?_⟩⟩
       cases L
       have m:=m.ext B
       cases m with
       | ref A=>
         obtain⟨I,N,F⟩:=h.obj k _ _ A u
         have l:=w.trans B
         obtain⟨n,z⟩:=h.putL A u (aN.set (r.ext l) j F)
         exact⟨_,I,i,j,rfl,rfl,N,by rw[←F.length];exact M,q _ _ _ (l.trans z) ((ok.to l h).to z n)⟩
     · cases e
   |_=>cases e
 |_=>cases e
def Ji{o i:Expr}{f g:aV}(h:PE X o (tD (md X) f))(hi:PE X i (tD (md X) g))
  (d:∀v,assign (.Subscript o i pos) X.env v=(do
   let ov←holding [v] (eval o X.env)
   let iv←holding [v,ov] (eval i X.env)
   standAt pos
   holding [v,ov,iv] (setItem ov iv v)
   release [v,ov,iv] []):=by intro _;rfl):PG X (.Subscript o i pos) (tG (md X) (EW f g)):=Hb (Et h hi set_list d) Hv
def GU(f g h:aV):cy:=λd S=>(f d S).bind λ(x,p)=>(g d p).bind λ(y,l)=>match x,y with
 | .ref k,.int i=>match l[k]? with
   | some (.lst ds)=>if 0<=i then(ds[i.toNat]?).bind λz=>(h d l).bind λ(w,o)=>match z,w,o[k]? with
     |.int m,.int n,some (.lst es)=>(yC es.length i).bind λj=>some (.nx d (o.set k (.lst (es.set j (.int (m+n))))))
     |_,_,_=>none
     else none
   |_=>none
 |_,_=>none
def Iy{o i e:Expr}{f g h:aV}{u:Pos}(ho:PE X o (tD (md X) f))(hi:PE X i (tD (md X) g))(he:PE X e (tD (md X) h))
  (A:∀C B new,augStore i C B new=(do holding [new,C,B] (setItem C B new);release [new,C,B] [];pure .next):=by intros;rfl):PS X (.AugAssign (.Subscript o i u) .Add e pos) (tS (md X) (GU f g h)):=
 y0 (Ce ho hi Aw he DZ set_list A) λD σ H qq=>by
  obtain⟨ρ,L,S,o,ok,e,q⟩:=qq
  obtain⟨⟨x,P⟩,e1,e⟩:=aq e
  obtain⟨⟨y,N⟩,e2,e⟩:=aq e
  cases x with
  | ref k=>
    cases y with
    | int i=>
      dsimp only at e
      split at e
      · rename_i ds hs
        split at e
        · rename_i hi
          obtain⟨z,e3,e⟩:=aq e
          obtain⟨⟨w,Z⟩,e4,e⟩:=aq e
          cases z with
          | int m=>
            cases w with
            | int n=>
              cases d:Z[k]? with
              |none=>rw[d] at e;cases e
              | some o3=>
                rw[d] at e
                cases o3 with
                | lst es=>
                  dsimp only at e
                  obtain⟨j,e5,e⟩:=aq e
                  cases e
                  refine⟨ρ,L,S,_,P,ok,e1,λM v1 H1 R K I=>⟨M,L,P,_,N,ok.to R K,e2,λJ v2 H2 Y r r2=> ?_⟩⟩
                  cases r2
                  have I:=I.ext Y
                  cases I with
                  | ref A=>
                    have s:=R.trans Y
                    obtain⟨vs,h3,h4⟩:=r.obj k _ _ A hs
                    obtain⟨v,h5,h6⟩:=h4.get e3
                    cases h6
                    refine⟨_,vs,i.toNat,_,rfl,by rw[Int.toNat_of_nonneg hi],gc.of h3,h5,J,L,N,_,Z,ok.to s r,e4,λa0 v3 H3 U l r3=> ?_⟩
                    cases r3
                    have p:=bT U.pre A
                    obtain⟨F,g3,Q⟩:=l.obj k _ _ p d
                    have t:=s.trans U
                    obtain⟨G,W⟩:=l.putL p d (aN.set (.int (m+n)) j Q)
                    exact⟨m,n,rfl,rfl,_,F,i,j,rfl,rfl,g3,by rw[←Q.length];exact e5,q _ _ _ (t.trans W) ((ok.to t l).to W G)⟩
                |_=>cases e
            |_=>cases e
          |_=>cases e
        · cases e
      · cases e
    |_=>cases e
  |_=>cases e
def BA(i j:Nat)(f:fh):cy:=λd S=>(f d S).bind λ(h,g)=>match h with
 | [v,w]=>some (.nx ((d.set i (some v)).set j (some w)) g)
 |_=>none
def Fg{i j:Nat}{f:fh}(h:PS X st (FS i j (uE (md X) f))):PS X st (tS (md X) (BA i j f)):=y0 h λD v H p=>by
 obtain⟨g,s,S,o,ok,e,q⟩:=p
 obtain⟨⟨u,l⟩,k,e⟩:=aq e
 dsimp only at e
 split at e
 ·cases e
  refine⟨g,s,S,_,l,ok,k,λn t w x st r=> ?_⟩
  cases r with
  | cons r d=>
    cases d with
    | cons m d=>
      cases d
      exact⟨_,_,rfl,q _ _ _ x ⟨((ok.en.ext x).set r).set m,st⟩⟩
 ·cases e
end
def cQ(cells:List (Str×Addr)):List (Str×NameKind)->List (Str×Addr)->List (Str×Addr)
 | [],acc=>acc
 |(n,k)::r,acc=>if (k==.free)=true then cQ cells r ((n,(cells.lookup n).getD 0)::acc) else cQ cells r acc
theorem lW{env:Env}:∀(names:List (Str×NameKind)) (b:List (Str×Addr)),(∀y∈names,y.2=.free->(env.cells.lookup y.1).isSome=true)→
  (forIn names b λ(x:Str×NameKind) (f:List (Str×Addr))=>(do
   if (x.2==NameKind.free)=true then do
    let c←cellOf env x.1
    pure (ForInStep.yield ((x.1,c)::f))
   else pure (ForInStep.yield f):Sem (ForInStep (List (Str×Addr)))))=(pure (cQ env.cells names b):Sem _)
 | [],b,_=>rfl
 | (n,k)::r,b,h=>by
   rw[List.forIn_cons]
   unfold cQ
   by_cases c:(k==NameKind.free)=true
   · obtain⟨a,e⟩:=Option.isSome_iff_exists.mp (h (n,k) QBq (by simpa using c))
     simp only[c,if_true]
     have g:cellOf env n=pure a:=by
       unfold cellOf
       rw[e]
     rw[g,pure_bind,pure_bind,e]
     exact lW r _ λy d=>h y (Qpq _ d)
   · simp only[c,Bool.false_eq_true,if_false]
     rw[pure_bind]
     exact lW r _ λy d=>h y (Qpq _ d)
def AG{a:Scope}{env:Env}(h:∀y∈a.names,y.2=.free->(env.cells.lookup y.1).isSome=true):closureFor a env=pure (cQ env.cells a.names []):=by
 unfold closureFor
 have:=lW a.names [] h
 rw[bind_pure]
 exact this
theorem o8{cells:List (Str×Addr)}:∀(names:List (Str×NameKind)) (a:List (Str×Addr)) (p:Str×Addr),p∈cQ cells names a->p∈a\/∃n,(n,NameKind.free)∈names/\p=(n,(cells.lookup n).getD 0)
 | [],a,p,h=>.inl h
 | (n,k)::r,a,p,h=>by
   unfold cQ at h
   split at h
   · rename_i c
     rcases o8 r _ p h with h|⟨m,b,d⟩
     · rcases Qsq.mp h with h|h
       · exact .inr ⟨n,by rw[show k=NameKind.free by simpa using c];exact QBq,h⟩
       · exact .inl h
     · exact .inr ⟨m,Qpq _ b,d⟩
   · rcases o8 r _ p h with h|⟨m,b,d⟩
     · exact .inl h
     · exact .inr ⟨m,Qpq _ b,d⟩
theorem nZ{cells:List (Str×Addr)}{x:Str}:∀(names:List (Str×NameKind)) (a:List (Str×Addr)),((x,NameKind.free)∈names\/∃c,(x,c)∈a)->∃c,(x,c)∈cQ cells names a
 | [],a,h=>by
   rcases h with h|h
   · cases h
   · exact h
 | (n,k)::r,a,h=>by
   unfold cQ
   split
   · rename_i c
     refine nZ r _ ?_
     rcases h with h|⟨c,h⟩
     · rcases Qsq.mp h with h|h
       · cases h;exact .inr ⟨_,QBq⟩
       · exact .inl h
     · exact .inr ⟨c,Qpq _ h⟩
   · rename_i c
     refine nZ r _ ?_
     rcases h with h|h
     · rcases Qsq.mp h with h|h
       · cases h;exact absurd rfl c
       · exact .inl h
     · exact .inr h
theorem jx{x:Str}{c:Addr}:∀{l:List (Str×Addr)},(x,c)∈l->∃a,l.lookup x=some a
 | [],h=>by cases h
 | (n,d)::r,h=>by
   unfold List.lookup
   by_cases e:(x==n)=true
   · rw[e];exact⟨d,rfl⟩
   · have b:(x==n)=false:=by simpa using e
     rw[b]
     rcases Qsq.mp h with h|h
     · cases h;simp at e
     · exact jx h
def pE(b:List Str)(a:Str->Option NameKind)(names:List (Str×NameKind)):List (Option Nat)->List Str->Bool
 |some j::js,x::N=>(b[j]? ==some x)&&(a x==some .cell||a x==some .free)&&(names.lookup x==some .free)&&pE b a names js N
 |none::js,_::N=>pE b a names js N
 |_,_=>true
theorem pP{b:List Str}{a:Str->Option NameKind}{names:List (Str×NameKind)}:∀{js:List (Option Nat)} {N:List Str} {k j:Nat} {x:Str},pE b a names js N=true->js[k]?=some (some j)->N[k]?=some x->b[j]?=some x/\(a x=some .cell\/a x=some .free)/\names.lookup x=some .free
 | some i::js,y::N,0,j,x,h,h1,h2=>by
   cases h1
   cases h2
   simp only[pE,QCq,Bool.or_eq_true,beq_iff_eq] at h
   exact⟨h.1.1.1,h.1.1.2,h.1.2⟩
 | some i::js,y::N,k+1,j,x,h,h1,h2=>by
   simp only[pE,QCq] at h
   exact pP h.2 (by simpa using h1) (by simpa using h2)
 |none::js,y::N,0,j,x,h,h1,h2=>by cases h1
 |none::js,y::N,k+1,j,x,h,h1,h2=>pP (k:=k) (by simpa [pE] using h) (by simpa using h1) (by simpa using h2)
 | [],N,k,j,x,h,h1,h2=>by simp at h1
 |some i::js,[],k,j,x,h,h1,h2=>by simp at h2
 |none::js,[],k,j,x,h,h1,h2=>by simp at h2
theorem ko{env:Env}{x:Str}:∀{names:List (Str×NameKind)},names.lookup x=some .free->(names.map λ(n,k)=>if (k==NameKind.free&&env.scope.kind==.function&&env.kindOf n==some .cell) then(n,NameKind.cell) else(n,k)).lookup x=some .cell∨
  (names.map λ(n,k)=>if (k==NameKind.free&&env.scope.kind==.function&&env.kindOf n==some .cell) then(n,NameKind.cell) else(n,k)).lookup x=some .free
 | [],h=>by cases h
 | (n,k)::r,h=>by
   unfold List.lookup at h
   rw[QDq]
   by_cases e:(x==n)=true
   · rw[e] at h
     cases h
     dsimp only
     split
     · left;unfold List.lookup;rw[e]
     · right;unfold List.lookup;rw[e]
   · have a:(x==n)=false:=by simpa using e
     rw[a] at h
     have b:=ko (env:=env) h
     dsimp only
     split <;>(unfold List.lookup;rw[a];exact b)
def aR.gen{X:Cx}{N:List Str}{js:List (Option Nat)}{d:Scope}(k:d.kind=.function)(p:d.names.all (λy=>y.2 !=.cell)=true)(t:d.names.all (λy=>y.2 !=.local||d.names.lookup y.1==some .local)=true)
  (q:d.names.all (λy=>y.2 !=.free||(X.env.cells.lookup y.1).isSome)=true) (A:pE X.N X.env.kindOf d.names js N=true) (u:js.length=N.length):aR X N js d (cQ X.env.cells d.names []) where
 kind:=k
 nocell:=λy f=>by
  have:=QUq.mp p y f
  simpa using this
 names:=λy f e=>by
  have:=QUq.mp t y f
  rw[e] at this
  simpa using this
 clos:=AG λy f e=>by
  have:=QUq.mp q y f
  rw[e] at this
  simpa using this
 sub:=λx c h=>by
  rcases o8 _ _ _ (PySem.mem_of_lookup h) with h|⟨n,l,e⟩
  ·cases h
  ·cases e
   have:=QUq.mp q _ l
   have s:(X.env.cells.lookup x).isSome=true:=by simpa using this
   obtain⟨c,g⟩:=Option.isSome_iff_exists.mp s
   rw[g]
   rfl
 has:=λx h=>by
  have m:(x,NameKind.free)∈d.names:=by
   have:∃k,(relabel d X.env).names.lookup x=some k/\(k=.cell\/k=.free):=by
    rcases h with h|h
    ·exact⟨_,h,.inl rfl⟩
    ·exact⟨_,h,.inr rfl⟩
   obtain⟨B,w,g⟩:=this
   have o:=PySem.mem_of_lookup w
   unfold relabel at o
   obtain⟨⟨n,r⟩,f,i⟩:=Qkq.mp o
   dsimp only at i
   split at i
   ·rename_i c
    cases i
    simp only[QCq] at c
    have:r=NameKind.free:=by simpa using c.1.1
    rw[←this]
    exact f
   ·cases i
    rcases g with z|z
    ·have:=QUq.mp p _ f
     rw[z] at this
     simp at this
    ·rw[←z];exact f
  obtain⟨c,g⟩:=nZ (cells:=X.env.cells) d.names [] (.inl m)
  exact jx g
 cap:=λk j x v l=>by
  obtain⟨a,b,c⟩:=pP A v l
  refine⟨a,b,?_⟩
  unfold relabel
  exact ko c
 len:=u
structure eB(P:Program)(w:World)(K:PySem.W.Frag)(mg:Str->Option Value)(base:Heap)(k:Nat)(x:Str)(ps:List Str)(F:cT):Prop where
 ex:∃f fd,aY P w K mg base de k f fd ps (dB ⟨K,mg⟩ ps.length F)/\Binds K fd ps []/\PySem.W.keepIn K (.ref f)=true/\mg x=some (.ref f)
section
variable{X:Cx}{x:Str}{k n:Nat}{ps:List Str}{F:cT}{e:Expr}{es:List Expr}{g:fh}{p pos:Pos}
def Gz(C:eB X.prog X.w X.K X.mg X.base k x ps F)(j:dC k X.A)(d:Gl X x)(c:PA X (e::es) (uE (md X) g))(h:nA ps.length g)
  (a:(x==("__debug__":Str))=false:=by decide) (he:starEach (e::es) X.env=(false,eval e X.env)::starEach es X.env:=by rfl) (hpl:(backTo pos (starEach es X.env)).any (·.1)=false:=by rfl):
  PE X (.Call (.Name x p) (e::es) [] pos) (tD (md X) (aB F g)):=by
 obtain⟨f,l,G,b,i,m⟩:=C.ex
 exact D3 G j d m i b c h a he hpl
def Fp(C:eB X.prog X.w X.K X.mg X.base k x ps F)(j:dC k X.A)(d:Gl X x)(c:PA X (e::es) (uE (md X) g))(h:nA ps.length g)
  (a:(x==("__debug__":Str))=false:=by decide) (he:starEach (e::es) X.env=(false,eval e X.env)::starEach es X.env:=by rfl) (hpl:(backTo pos (starEach es X.env)).any (·.1)=false:=by rfl):
  PE X (.Call (.Name x p) (e::es) [] pos) (tL (md X) (eJ F g)):=by
 obtain⟨f,l,G,b,i,m⟩:=C.ex
 exact C9 G j d m i b c h a he hpl
end
def eB.mono{P:Program}{w:World}{K:PySem.W.Frag}{mg:Str->Option Value}{base:Heap}{j k:Nat}{x:Str}{ps:List Str}{F:cT}(C:eB P w K mg base j x ps F)(h:j<=k):eB P w K mg base k x ps F:=by
 obtain⟨f,a,G,b,c,m⟩:=C.ex
 exact⟨f,a,G.mono h,b,c,m⟩
structure Bl(mg:Str->Option Value):Prop where
 len:mg "len"=none
 tuple:mg "tuple"=none
 list:mg "list"=none
 dict:mg "dict"=none
 set:mg "set"=none
 int:mg "int"=none
 str:mg "str"=none
 bool:mg "bool"=none
 all:mg "all"=none
 any:mg "any"=none
 range:mg "range"=none
 zip:mg "zip"=none
 sorted:mg "sorted"=none
 isi:mg "isinstance"=none
 min:mg "min"=none
 max:mg "max"=none
 abs:mg "abs"=none
 enum:mg "enumerate"=none
open AutoSeq1 in
def j8(l:Addr)(items:Array Value)(n:Nat)(b:Addr)(a:Array Value)(q:Nat)(k:Option Addr)(m:Array (Option Value))(p:¬(!items.isEmpty&&Builtin.List.listTooLong (items.size+a.size))=true)(e:items.size<=sizeLine)(c:items.size+a.size<=sizeLine+1):
  Meets (Builtin.«list.extend» ⟨[.ref l,.ref b],[]⟩) (λ_ R s=>s.heap.get? l=some {cls:=.type "list",dict:=none,data:=.seq items n,slots:= #[]}/\s.heap.get? b=some {cls:=.type "tuple",dict:=k,data:=.seq a q,slots:=m}/\R (.ok (.ret Value.none)) {s with heap:=s.heap.update l (Obj.mapSeq λx=>x++a),toks:=s.toks}):=
 .of_wp λi w A R s h=>by
  obtain⟨u,g,d,r,B⟩:=s;obtain⟨j,o,h⟩:=h;have C:=idx_int;have z:=AutoSeq1.sub_tuple_tuple;have v:=AutoSeq1.sub_list_list;have t:=AutoSeq1.sub_tuple_list;have y:=AutoSeq1.sub_list_tuple;
  have f:(items++a).size<=sizeLine+1:=by rw[Array.size_append];exact c
  wp_walk using (wpAny_updateSeq j rfl (hz:=e) (_hz':=f)),AutoSeq1.wpAny_loadPart' j,AutoSeq1.wpAny_loadPart' o;exact⟨_,rfl,h⟩
section
variable{X:Cx}{a b c e:Expr}{pos:Pos}{st:Stmt}
def Cr:G0 X "list.extend" (λx vs H Q=>∃l b xs i,x=.ref l/\vs= [.ref b]/\H l=some (.lst xs)/\fe X.K H b i/\xs.length+i.length<=sizeLine/\Q .non (upd H l (.lst (xs++i)))):=by
 intro p s R H x vs v P Q I A J h
 obtain⟨l,b,xs,i,rfl,rfl,hH,hB,hz,q⟩:=h
 cases A
 obtain⟨u,rfl,ru⟩:=J.one
 cases ru
 obtain⟨z,f,n,r,N,e⟩:=I.lstM hH
 obtain⟨d,k,⟨⟨B,t,M,y⟩,L,o,C,m⟩,w⟩:=I.tuple hB
 have G:=k.length
 simp only at o m
 subst o m
 have j:f.toArray.size+d.toArray.size<=sizeLine:=by rw[Qjq,Qjq];omega
 have g:¬(!f.toArray.isEmpty&&Builtin.List.listTooLong (f.toArray.size+d.toArray.size))=true:=by
  rw[uZ j,Bool.and_false]
  exact Qtq
 refine call_meets F.slot_list_extend ⟨_,e,rfl⟩ F.entry_list_extend (F.args_list_extend_2 _ _)
  (j8 l f.toArray n b d.toArray C t y g (by rw[Qjq];omega) (by omega)) ⟨e,L,?_⟩
 refine⟨.non,_,I.lset (its':=f++d) hH e (by simp) (r.append k) ?_,rfl,q⟩
 rw[lQa]
 omega
def qI(f:aV)(g:dU):aV:=λi S=>(f i S).bind λ(x,h)=>match x with
 | .ref k=>(g i h).bind λ(p,d)=>match h[k]?,d[k]? with
   |some (.lst _),some (.lst ds)=>if p.2.isL=false/\ds.length+p.1.length<=sizeLine then some (.non,d.set k (.lst (ds++p.1))) else none
   |_,_=>none
 |_=>none
def Dx{f:aV}{g:dU}:∀u H Q,tD (md X) (qI f g) u H Q->G7 X.K "list" (λx vs H Q=>∃l b xs p,x=.ref l/\vs= [.ref b]/\H l=some (.lst xs)/\fe X.K H b p/\xs.length+p.length<=sizeLine/\Q .non (upd H l (.lst (xs++p)))) (tD (md X) f) (zK (tQ (md X) g) Dq) u H Q:=λu H Q qq=>by
 obtain⟨L,C,S,d,S',ok,e,q⟩:=qq
 obtain⟨⟨x,w⟩,M,e⟩:=aq e
 cases x with
 | ref k=>
   dsimp only at e
   obtain⟨⟨⟨I,t⟩,G⟩,e2,e⟩:=aq e
   dsimp only at e
   split at e
   · rename_i N ds r i
     split at e
     · rename_i c
       obtain⟨rfl,rfl⟩:=bF e
       refine⟨L,C,S,_,w,ok,M,λs v H1 z m R=> ?_⟩
       cases R with
       | ref A=>
         rename_i a
         obtain⟨o,J,_⟩:=m.obj k a _ A r
         refine⟨.inl ⟨rfl,o,gc.of J⟩,s,C,w,I,t,G,ok.to z m,e2,λZ b Y H2 B j U y=> ?_⟩
         have h:=bT B.pre A
         obtain⟨vs,W,F⟩:=j.obj k a _ h i
         refine⟨a,b,vs,Y,rfl,rfl,W,U.sqT c.1,by rw[←F.length,←y.length];exact c.2,?_⟩
         obtain⟨n,P⟩:=j.putL h i (F.append y)
         exact q _ _ _ ((z.trans B).trans P) n .non
     · cases e
   · cases e
 |_=>cases e
def EY{f:aV}{g:dU}{o:Expr}{h d:Pos}(n:PE X o (tD (md X) f))(m:PE X e (tQ (md X) g))(j:attributeBase o "extend" X.env (eval o X.env)=eval o X.env:=by rfl) (k:((backTo d (starEach [e] X.env)).all (λx=> !x.1)&&(backToKw d (keywordEach [] X.env)).all (λx=>x.1.isSome)
   &&decide ([e].length+([]:List Keyword).length+(if ([]:List Keyword).isEmpty then 0 else 1)<30))=true:=by rfl)
  (i:(h.endLine==d.line)=true:=by rfl) (l:starEach [e] X.env= [(false,eval e X.env)]:=by rfl):PE X (.Call (.Attribute o "extend" h) [e] [] d) (tD (md X) (qI f g)):=
 jo (pI PySem.F.plainAttrs_list PySem.F.slot_list_extend PySem.F.type_list_extend Cr n (c9 m fV l) j k i l) Dx
def kO(x:V):List V->Option Nat
 | []=>none
 |y::r=>if kb y x=true then some 0 else(kO x r).map (·+1)
theorem w_{x:V}:∀{xs:List V} {j:Nat},kO x xs=some j->(∃y,xs[j]?=some y/\kb y x=true)/\∀m y,m<j->xs[m]?=some y->kb y x=false
 | [],_,h=>by cases h
 | y::r,j,h=>by
   unfold kO at h
   split at h
   · rename_i c
     cases h
     exact⟨⟨y,rfl,c⟩,λm _ d=>absurd d (Nat.not_lt_zero _)⟩
   · rename_i c
     obtain⟨i,l,rfl⟩:=oQm.mp h
     obtain⟨⟨z,g,n⟩,k⟩:=w_ l
     refine⟨⟨z,by simpa using g,n⟩,λm w d f=> ?_⟩
     cases m with
     |zero=>cases f;simpa using c
     |succ m=>exact k m w (by omega) (by simpa using f)
def Bi:G8 X "list.index" (λx vs H Q=>∃a xs y j,x=.ref a/\vs= [y]/\gc X.K H a xs/\dJ y=true/\xs.all dJ=true/\kO y xs=some j/\Q (.int (j:Nat)) H):=by
 intro J s σ H x vs v us Q I R Y h
 obtain⟨a,xs,y,j,rfl,rfl,hq,fy,fs,hj,q⟩:=h
 cases R
 obtain⟨u,rfl,ru⟩:=Y.one
 obtain⟨f,r,L,hz⟩:=I.list hq
 obtain⟨⟨S,dd,a0,M⟩,n,e,G,g,C⟩:=L
 simp only at G g C
 subst G g C
 obtain⟨⟨z,p,U⟩,W⟩:=w_ hj
 have hl:=r.length
 have Z:j<xs.length:=(gQs.mp p).1
 obtain⟨w,i,k⟩:=r.get p
 have A:f.toArray[j]'(by rw[Qjq];omega)=w:=by
  have:=(gQs.mp i).2
  simpa using this
 have B:=iz
 refine call_meets PySem.F.slot_list_index ⟨_,e,rfl⟩ PySem.F.entry_list_index (PySem.F.args_list_index_2 _ _)
  (SeqAt.list_indexAt a f.toArray n none M u (tq y) j (by rw[Qjq];omega) (by omega) (by rw[A,nR k (QUq.mp fs z (mQg p))];exact U) λm N l=> ?_)
  ⟨e,λw i=>fu ru fy r fs w (by simpa using i),⟨.int j,H,I.tok _,⟨_,rfl⟩,q⟩⟩
 have d:m<xs.length:=by rw[Qjq] at N;omega
 obtain⟨P,o,t⟩:=r.get (gQe d)
 have e2:f.toArray[m]=P:=by
  have:=(gQs.mp o).2
  simpa using this
 rw[e2,nR t (QUq.mp fs _ (List.getElem_mem d))]
 exact W m _ l (gQe d)
end
end DL
namespace Zq
open PySem
def It(t:Bool)(h:Heap)(i a:Addr)(k:Nat):Prop:=if t=true then h.IsTupleIter i a k else h.IsListIter i a k
def Sq(t:Bool)(h:Heap)(a:Addr)(xs:Array Value):Prop:=if t=true then h.IsTuple a xs else h.IsList a xs
section
variable{t t2:Bool}{h h':Heap}{i j a b z O T:Addr}{k:Nat}{xs ys:Array Value}
theorem It.at(g:It t h i a k)(f:∀o,h.get? i=some o->h'.get? i=some o):It t h' i a k:=by
 cases t with
 |true=>exact(show h.IsTupleIter i a k from g).at f
 |false=>exact(show h.IsListIter i a k from g).at f
def It.ext{c:Addr}(g:It t h i a k)(f:Heap.ExtBut c h h')(n:i≠c):It t h' i a k:=g.at λo e=>f i o n e
def Sq.at(g:Sq t h a xs)(f:∀o,h.get? a=some o->h'.get? a=some o):Sq t h' a xs:=by
 cases t with
 |true=>obtain⟨o,e,r⟩:=(show h.IsTuple a xs from g);exact(show h'.IsTuple a xs from⟨o,f o e,r⟩)
 |false=>obtain⟨o,e,r⟩:=(show h.IsList a xs from g);exact(show h'.IsList a xs from⟨o,f o e,r⟩)
def Sq.ext{c:Addr}(g:Sq t h a xs)(f:Heap.ExtBut c h h')(n:a≠c):Sq t h' a xs:=g.at λo e=>f a o n e
def It.obj(g:It t h i a k):∃o,h.get? i=some o/\∀v,o.data≠.cell v:=by
 cases t with
 |true=>obtain⟨o,e,_,d⟩:=(show h.IsTupleIter i a k from g);exact⟨o,e,λv n=>by rw[d] at n;cases n⟩
 |false=>obtain⟨o,e,_,d⟩:=(show h.IsListIter i a k from g);exact⟨o,e,λv n=>by rw[d] at n;cases n⟩
end
section
variable{prog:Program}{w:World}{A:Around}{E:Value->Shared->Prop}{s:Shared}{t t2:Bool}{z T O i j a b:Addr}{k:Nat}{xs ys:Array Value}{x y u v:Value}
def draw{Q:Value->Shared->Prop}(c:It t s.heap i a k)(d:Sq t s.heap a xs)(e:xs[k]?=some v)
  (q:∀h',It t h' i a (k+1)->Heap.SameBut i s.heap h'->Q v {s with heap:=h'}):wpAny (model prog w) A (Builtin.SmallTypes.nextOf (.ref i)) Q E s:=by
 cases t with
 |true=>exact Zp.Gf c d e q
 |false=>exact wpAny_nextOf_list_item c d e q
def xV{Q:Value->Shared->Prop}(c:A.handled=none)(d:It t s.heap i a k)(f:Sq t s.heap a xs)(g:xs[k]?=none)
  (q:∀h' e,Heap.ExtBut i s.heap h'->(∃o,h'.get? e=some o/\o.cls=.type "StopIteration")->E (.ref e) {s with heap:=h'}):wpAny (model prog w) A (Builtin.SmallTypes.nextOf (.ref i)) Q E s:=by
 cases t with
 |true=>exact Zp.Gw c d f g q
 |false=>exact wpAny_nextOf_list_end c d f g q
abbrev pR(h:Heap)(z T O:Addr)(d c:Value):Prop:=
 h.get? z=some {cls:=.type "zip",dict:=none,data:=.fields #[d,c,.bool false,.ref T,.ref O],slots:= #[]}
def item(D:ZipApart z T O i j a b){Q:Value->Shared->Prop}(p:pR s.heap z T O .none (.bool false))(gT:IsPair s.heap T (.ref i) (.ref j))(gO:IsPair s.heap O u v)(gi:It t s.heap i a k)(gj:It t2 s.heap j b k)
  (ga:Sq t s.heap a xs) (gb:Sq t2 s.heap b ys) (ex:xs[k]?=some x) (ey:ys[k]?=some y)
  (q:∀h',pR h' z T O (rawInt s.heap.objs.size) (.bool false)->IsPair h' O x y->It t h' i a (k+1)->It t2 h' j b (k+1)->IsPair h' s.heap.objs.size x y->Zp.Rest z O i j s.heap h'->Q (.ref s.heap.objs.size) {s with heap:=h'}):
  wpAny (model prog w) A (Builtin.«zip.__next__» ⟨[.ref z],[]⟩) (λM s'=>∃r,M=.done (.ret r)/\Q r s') E s:=by
 refine(?_:wpAny _ _ (field (.ref z) 2 >>= _) _ _ _)
 refine Qaq (QMq p rfl (x:=.bool false) rfl ?_)
 refine(?_:wpAny _ _ (field (.ref z) 3 >>= _) _ _ _)
 refine Qaq (QMq p rfl (x:=.ref T) rfl (Qaq (wpAny_seqItems gT rfl ?_)))
 refine(?_:wpAny _ _ (Builtin.SmallTypes.ownedTupleIsFree (.ref z) >>= _) _ _ _)
 refine Qaq ?_
 unfold Builtin.SmallTypes.ownedTupleIsFree
 refine Qaq (QMq p rfl (x:=.none) rfl (Qgq ?_))
 simp only[if_true]
 refine Qaq (wpAny_rule (Qaq (QMq p rfl (x:=.ref O) rfl (Qaq (wpAny_setField_rec p (by simp) λh1 J g=> ?_)))))
 replace J:pR h1 z T O .ellipsis (.bool false):=J
 refine Qaq ?_
 simp only[List.zipIdx_cons,List.zipIdx_nil,List.forIn_nil,List.forIn_cons]
 refine Qaq (Qaq (wpAny_onRaise ?_))
 refine(?_:wpAny _ _ (Builtin.SmallTypes.nextOf (.ref i) >>= _) _ _ _)
 refine Qaq (draw (gi.ext g.extBut D.i1z) (ga.ext g.extBut D.l1z) ex λh2 i2 l=>Qgq ?_)
 have X:IsPair h2 O u v:=l.extBut _ _ D.TOi1 (g.extBut _ _ D.TOz gO)
 refine Qaq (wpAny_seqItems X rfl (Qaq (wpAny_updateSeq_pair X λh3 N h=>Qaq (wpAny_letGo (Qgq ?_)))))
 replace N:IsPair h3 O x v:=N
 refine Qaq (Qaq (wpAny_onRaise ?_))
 refine(?_:wpAny _ _ (Builtin.SmallTypes.nextOf (.ref j) >>= _) _ _ _)
 refine Qaq (draw (((gj.ext g.extBut D.i2z).ext l.extBut D.i12.symm).ext h.extBut D.TOi2.symm) (((gb.ext g.extBut D.l2z).ext l.extBut D.l2i1).ext h.extBut D.l2TO) ey λh4 j4 n=>Qgq ?_)
 have S:IsPair h4 O x v:=n.extBut _ _ D.TOi2 N
 refine Qaq (wpAny_seqItems S rfl (Qaq (wpAny_updateSeq_pair S λd B m=>Qaq (wpAny_letGo (Qgq (Qgq ?_))))))
 replace B:IsPair d O x y:=B
 refine Qaq (wpAny_seqItems B rfl (Qaq (wpAny_newTuple ?_)))
 have Y:d.objs.size=s.heap.objs.size:=by rw[m.1,n.1,h.1,l.1,g.1]
 have R:pR d z T O .ellipsis (.bool false):=m.extBut _ _ D.TOz.symm (n.extBut _ _ D.i2z.symm (h.extBut _ _ D.TOz.symm (l.extBut _ _ D.i1z.symm J)))
 have r5:Zp.Rest z O i j s.heap d:=λc o f H L K e=>m.extBut _ _ H (n.extBut _ _ K (h.extBut _ _ H (l.extBut _ _ L (g.extBut _ _ f e))))
 have i5:It t d i a (k+1):=((i2.ext h.extBut D.TOi1.symm).ext n.extBut D.i12).ext m.extBut D.TOi1.symm
 have j5:It t2 d j b (k+1):=j4.ext m.extBut D.TOi2.symm
 have W:z<d.objs.size:=Qiq R
 refine(?_:wpAny _ _ (Builtin.SmallTypes.ownedTupleHandOut (.ref z) (.ref d.objs.size) >>= _) _ _ _)
 refine Qaq ?_
 unfold Builtin.SmallTypes.ownedTupleHandOut
 have z6:pR (d.push {cls:=.type "tuple",data:=.seq #[x,y]}) z T O .ellipsis (.bool false):=Qcq _ R
 refine Qaq (wpAny_setField_rec z6 (by simp) λh7 I Z=> ?_)
 replace I:pR h7 z T O (rawInt d.objs.size) (.bool false):=I
 refine wpAny_setField_rec I (by simp) λG C P=> ?_
 replace C:pR G z T O (rawInt d.objs.size) (.bool false):=C
 have F:∀c o,c≠z->d.get? c=some o->G.get? c=some o:=λc o f e=>P.extBut _ _ f (Z.extBut _ _ f (Qcq _ e))
 have U:IsPair G d.objs.size x y:=P.extBut _ _ (Nat.ne_of_gt W) (Z.extBut _ _ (Nat.ne_of_gt W) (Qrq _ rfl))
 rw[Y] at C U
 refine Qgq ⟨_,rfl,?_⟩
 refine(?_:Q (.ref d.objs.size) _)
 rw[Y]
 exact q G C (F _ _ D.TOz B) (i5.at λo e=>F _ o D.i1z e) (j5.at λo e=>F _ o D.i2z e) U λc o f H L K e=>F c o f (r5 c o f H L K e)
def alive{α:Addr}{Q:Option Obj->Shared->Prop}(h:Q (s.heap.get? α) s):wpAny (model prog w) A (loadIfAlive α) Q E s:=λ_ _ _=>h
def again(D:ZipApart z T O i j a b){p:Addr}{N:Obj}{n:Value}{Q:Value->Shared->Prop}(l:pR s.heap z T O (rawInt p) n)(X:s.heap.get? p=some N)(R:IsPair s.heap T (.ref i) (.ref j))(gi:It t s.heap i a k)(gj:It t2 s.heap j b k)
  (ga:Sq t s.heap a xs) (Y:Sq t2 s.heap b ys) (ex:xs[k]?=some x) (L:ys[k]?=some y)
  (q:∀h',pR h' z T O (rawInt p) (.bool true)->It t h' i a (k+1)->It t2 h' j b (k+1)->IsPair h' s.heap.objs.size x y->Zp.Rest z O i j s.heap h'->Q (.ref s.heap.objs.size) {s with heap:=h'}):
  wpAny (model prog w) A (Builtin.«zip.__next__» ⟨[.ref z],[]⟩) (λH C=>∃r,H=.done (.ret r)/\Q r C) E s:=by
 refine(?_:wpAny _ _ (field (.ref z) 2 >>= _) _ _ _)
 refine Qaq (QMq l rfl (x:=.bool false) rfl ?_)
 refine(?_:wpAny _ _ (field (.ref z) 3 >>= _) _ _ _)
 refine Qaq (QMq l rfl (x:=.ref T) rfl (Qaq (wpAny_seqItems R rfl ?_)))
 refine(?_:wpAny _ _ (Builtin.SmallTypes.ownedTupleIsFree (.ref z) >>= _) _ _ _)
 refine Qaq ?_
 unfold Builtin.SmallTypes.ownedTupleIsFree
 refine Qaq (QMq l rfl (x:=rawInt p) rfl ?_)
 refine(?_:wpAny _ _ (loadIfAlive ((p:Int).toNat) >>= _) _ _ _)
 refine Qaq ?_
 rw[Int.toNat_natCast]
 refine alive ?_
 rw[X]
 refine(?_:wpAny _ _ (field (.ref z) 1 >>= _) _ _ _)
 refine Qaq (QMq l rfl (x:=n) rfl ?_)
 have I:wpAny (model prog w) A (if (n !=Value.bool true)=true then(do let _←setField (.ref z) 1 (.bool true);pure false) else pure false)
   (λr C=>r=false/\∃g,C={s with heap:=g}/\pR g z T O (rawInt p) (.bool true)/\Heap.SameBut z s.heap g) E s:=by
  by_cases c:(n !=Value.bool true)=true
  ·rw[Qhq c]
   exact Qaq (wpAny_setField_rec l (by simp) λg G d=>Qgq ⟨rfl,g,rfl,G,d⟩)
  ·rw[Quq c]
   have e:n=Value.bool true:=by simpa using c
   subst e
   exact Qgq ⟨rfl,s.heap,rfl,l,Heap.SameBut.refl _ _⟩
 refine QRq I (λr C J=> ?_) λ_ _ h=>h
 obtain⟨rfl,g,rfl,G,d⟩:=J
 simp only[Bool.false_eq_true,if_false]
 refine Qaq ?_
 simp only[List.forIn_toArray,List.forIn_cons,List.forIn_nil]
 refine Qaq (Qaq (QLq ?_))
 refine(?_:wpAny _ _ (Builtin.SmallTypes.nextOf (.ref i) >>= _) _ _ _)
 refine Qaq (draw (gi.ext d.extBut D.i1z) (ga.ext d.extBut D.l1z) ex λh2 W m=>Qgq (Qgq ?_))
 refine Qaq (Qaq (QLq ?_))
 refine(?_:wpAny _ _ (Builtin.SmallTypes.nextOf (.ref j) >>= _) _ _ _)
 refine Qaq (draw ((gj.ext d.extBut D.i2z).ext m.extBut D.i12.symm) ((Y.ext d.extBut D.l2z).ext m.extBut D.l2i1) L λf S F=>Qgq (Qgq (Qgq ?_)))
 refine Qaq (wpAny_newTuple ?_ (by show 2<=_;decide))
 have Z:f.objs.size=s.heap.objs.size:=by rw[F.1,m.1,d.1]
 have B:∀c o,f.get? c=some o->(f.push {cls:=.type "tuple",data:=.seq #[x,y]}).get? c=some o:=λc o e=>Qcq _ e
 have K:IsPair (f.push {cls:=.type "tuple",data:=.seq #[x,y]}) f.objs.size x y:=Qrq _ rfl
 have M:pR (f.push {cls:=.type "tuple",data:=.seq #[x,y]}) z T O (rawInt p) (.bool true):=B _ _ (F.extBut _ _ D.i2z.symm (m.extBut _ _ D.i1z.symm G))
 refine Qgq ⟨_,rfl,?_⟩
 refine(?_:Q (.ref f.objs.size) _)
 rw[Z] at K⊢
 exact q _ M ((W.ext F.extBut D.i12).at λo e=>B _ o e) (S.at λo e=>B _ o e) K λc o c1 c2 U P e=>B c o (F.extBut _ _ P (m.extBut _ _ U (d.extBut _ _ c1 e)))
def stop(D:ZipApart z T O i j a b){Q:Fin->Shared->Prop}(M:A.handled=none)(d:pR s.heap z T O .none (.bool false))(G:IsPair s.heap T (.ref i) (.ref j))(N:It t s.heap i a k)(P:Sq t s.heap a xs)(ex:xs[k]?=none)
  (q:∀h' e,Zp.Rest z O i j s.heap h'->(∃o,h'.get? e=some o/\o.cls=.type "StopIteration")->E (.ref e) {s with heap:=h'}):
  wpAny (model prog w) A (Builtin.«zip.__next__» ⟨[.ref z],[]⟩) Q E s:=by
 refine(?_:wpAny _ _ (field (.ref z) 2 >>= _) _ _ _)
 refine Qaq (QMq d rfl (x:=.bool false) rfl ?_)
 refine(?_:wpAny _ _ (field (.ref z) 3 >>= _) _ _ _)
 refine Qaq (QMq d rfl (x:=.ref T) rfl (Qaq (wpAny_seqItems G rfl ?_)))
 refine(?_:wpAny _ _ (Builtin.SmallTypes.ownedTupleIsFree (.ref z) >>= _) _ _ _)
 refine Qaq ?_
 unfold Builtin.SmallTypes.ownedTupleIsFree
 refine Qaq (QMq d rfl (x:=.none) rfl (Qgq ?_))
 simp only[if_true]
 refine Qaq (wpAny_rule (Qaq (QMq d rfl (x:=.ref O) rfl (Qaq (wpAny_setField_rec d (by simp) λJ f h=> ?_)))))
 replace f:pR J z T O .ellipsis (.bool false):=f
 refine Qaq ?_
 simp only[List.zipIdx_cons,List.zipIdx_nil,List.forIn_nil,List.forIn_cons]
 refine Qaq (Qaq (wpAny_onRaise ?_))
 refine(?_:wpAny _ _ (Builtin.SmallTypes.nextOf (.ref i) >>= _) _ _ _)
 refine Qaq (xV M (N.ext h.extBut D.i1z) (P.ext h.extBut D.l1z) ex λI e p L=> ?_)
 obtain⟨F,g,m⟩:=L
 have B:pR I z T O .ellipsis (.bool false):=p _ _ D.i1z.symm f
 have C:e≠z:=λn=>by rw[n,B] at g;cases g;simp at m
 exact wpAny_setField_rec B (by simp) λK _ l=>q K e (λc o r _ H _ n=>l.extBut _ _ r (p _ _ H (h.extBut _ _ r n))) ⟨F,l.extBut _ _ C g,m⟩
def Gm(D:ZipApart z T O i j a b){p:Addr}{G:Obj}{l:Value}{Q:Fin->Shared->Prop}(M:A.handled=none)(f:pR s.heap z T O (rawInt p) l)(K:s.heap.get? p=some G)(H:IsPair s.heap T (.ref i) (.ref j))(P:It t s.heap i a k)(R:Sq t s.heap a xs)(ex:xs[k]?=none)
  (q:∀h' e,Zp.Rest z O i j s.heap h'->(∃o,h'.get? e=some o/\o.cls=.type "StopIteration")->E (.ref e) {s with heap:=h'}):
  wpAny (model prog w) A (Builtin.«zip.__next__» ⟨[.ref z],[]⟩) Q E s:=by
 refine(?_:wpAny _ _ (field (.ref z) 2 >>= _) _ _ _)
 refine Qaq (QMq f rfl (x:=.bool false) rfl ?_)
 refine(?_:wpAny _ _ (field (.ref z) 3 >>= _) _ _ _)
 refine Qaq (QMq f rfl (x:=.ref T) rfl (Qaq (wpAny_seqItems H rfl ?_)))
 refine(?_:wpAny _ _ (Builtin.SmallTypes.ownedTupleIsFree (.ref z) >>= _) _ _ _)
 refine Qaq ?_
 unfold Builtin.SmallTypes.ownedTupleIsFree
 refine Qaq (QMq f rfl (x:=rawInt p) rfl ?_)
 refine(?_:wpAny _ _ (loadIfAlive ((p:Int).toNat) >>= _) _ _ _)
 refine Qaq ?_
 rw[Int.toNat_natCast]
 refine alive ?_
 rw[K]
 refine(?_:wpAny _ _ (field (.ref z) 1 >>= _) _ _ _)
 refine Qaq (QMq f rfl (x:=l) rfl ?_)
 have m:wpAny (model prog w) A (if (l !=Value.bool true)=true then(do let _←setField (.ref z) 1 (.bool true);pure false) else pure false)
   (λr F=>r=false/\∃d,F={s with heap:=d}/\pR d z T O (rawInt p) (.bool true)/\Heap.SameBut z s.heap d) E s:=by
  by_cases c:(l !=Value.bool true)=true
  ·rw[Qhq c]
   exact Qaq (wpAny_setField_rec f (by simp) λd C g=>Qgq ⟨rfl,d,rfl,C,g⟩)
  ·rw[Quq c]
   have e:l=Value.bool true:=by simpa using c
   subst e
   exact Qgq ⟨rfl,s.heap,rfl,f,Heap.SameBut.refl _ _⟩
 refine QRq m (λr F B=> ?_) λ_ _ h=>h
 obtain⟨rfl,d,rfl,C,g⟩:=B
 simp only[Bool.false_eq_true,if_false]
 refine Qaq ?_
 simp only[List.forIn_toArray,List.forIn_cons,List.forIn_nil]
 refine Qaq (Qaq (QLq ?_))
 refine(?_:wpAny _ _ (Builtin.SmallTypes.nextOf (.ref i) >>= _) _ _ _)
 refine Qaq (xV M (P.ext g.extBut D.i1z) (R.ext g.extBut D.l1z) ex λJ e L S=> ?_)
 exact q J e (λc o N _ I _ n=>L _ _ I (g.extBut _ _ N n)) S
def Zs(h:Heap)(z T O i j:Addr):Prop:=pR h z T O .none (.bool false)/\(∃u v,IsPair h O u v)\/∃(p:Addr) (d:Obj) (c:Value),pR h z T O (rawInt (p:Nat)) c/\h.get? p=some d/\p≠z/\p≠O/\p≠i/\p≠j
def Zs.but{h h':Heap}{S:Addr}(g:Zs h z T O i j)(f:∀c o,c≠S->h.get? c=some o->h'.get? c=some o)(e:z≠S)(B:O≠S)(F:∃o,h'.get? S=some o):Zs h' z T O i j:=by
 rcases g with⟨d,u,v,m⟩|⟨p,r,l,d,C,n⟩
 ·exact .inl ⟨f _ _ e d,u,v,f _ _ B m⟩
 ·by_cases c:p=S
  ·subst c
   obtain⟨o,q⟩:=F
   exact .inr ⟨p,o,l,f _ _ e d,q,n⟩
  ·exact .inr ⟨p,r,l,f _ _ e d,f _ _ c C,n⟩
def zN(D:ZipApart z T O i j a b){Q:Option Value->Shared->Prop}(d:Zs s.heap z T O i j)(L:IsPair s.heap T (.ref i) (.ref j))(C:It t s.heap i a k)(B:It t2 s.heap j b k)
  (R:Sq t s.heap a xs) (P:Sq t2 s.heap b ys) (ex:xs[k]?=some x) (G:ys[k]?=some y)
  (q:∀h',Zs h' z T O i j->It t h' i a (k+1)->It t2 h' j b (k+1)->IsPair h' s.heap.objs.size x y->Zp.Rest z O i j s.heap h'->Q (some (.ref s.heap.objs.size)) {s with heap:=h'}):
  wpAny (model prog w) A (pyNext (.ref z)) Q E s:=by
 unfold pyNext
 have h:∀{c o},s.heap.get? c=some o->s.heap.objs.size≠c:=λe=>Nat.ne_of_gt (Qiq e)
 obtain⟨Y,U,_⟩:=C.obj
 obtain⟨Z,W,_⟩:=B.obj
 rcases d with⟨d,u,v,H⟩|⟨p,S,f1,d,N,M,K,I,J⟩
 ·have f:s.TypeIs (.ref z) "zip":=⟨_,d,rfl⟩
  exact Qaq (wpAny_attempt (QiQ (name:=Str.ofString "__next__") f F.slot_zip_next (wpAny_call_entry F.slot_zip_next f F.entry_zip_next
   (item D d L H C B R P ex G λh' r X n m g l=>Qgq (q h' (.inr ⟨_,_,_,r,g,h d,h H,h U,h W⟩) n m g l)) (F.args_zip_next_1 _))))
 ·have f:s.TypeIs (.ref z) "zip":=⟨_,d,rfl⟩
  exact Qaq (wpAny_attempt (QiQ (name:=Str.ofString "__next__") f F.slot_zip_next (wpAny_call_entry F.slot_zip_next f F.entry_zip_next
   (again D d N L C B R P ex G λh' r n m g l=>Qgq (q h' (.inr ⟨p,S,_,r,l _ _ M K I J N,M,K,I,J⟩) n m g l)) (F.args_zip_next_1 _))))
def uk(D:ZipApart z T O i j a b){Q:Option Value->Shared->Prop}(l:A.handled=none)(c:Zs s.heap z T O i j)(h:IsPair s.heap T (.ref i) (.ref j))(m:It t s.heap i a k)(n:Sq t s.heap a xs)(ex:xs[k]?=none)
  (q:∀h',Zp.Rest z O i j s.heap h'->Q none {s with heap:=h'}):wpAny (model prog w) A (pyNext (.ref z)) Q E s:=by
 unfold pyNext
 rcases c with⟨c,u,v,C⟩|⟨p,G,H,c,B,_⟩
 ·have d:s.TypeIs (.ref z) "zip":=⟨_,c,rfl⟩
  exact Qaq (wpAny_attempt (QiQ (name:=Str.ofString "__next__") d F.slot_zip_next (wpAny_call_entry F.slot_zip_next d F.entry_zip_next
   (stop D l c h m n ex λh' e r ⟨o,f,g⟩=>Qaq (wpAny_isInstance (T:="StopIteration") (b:=true) ⟨o,f,g⟩ isSubtype_stop (Qgq (q _ r)))) (F.args_zip_next_1 _))))
 ·have d:s.TypeIs (.ref z) "zip":=⟨_,c,rfl⟩
  exact Qaq (wpAny_attempt (QiQ (name:=Str.ofString "__next__") d F.slot_zip_next (wpAny_call_entry F.slot_zip_next d F.entry_zip_next
   (Gm D l c B h m n ex λh' e r ⟨o,f,g⟩=>Qaq (wpAny_isInstance (T:="StopIteration") (b:=true) ⟨o,f,g⟩ isSubtype_stop (Qgq (q _ r)))) (F.args_zip_next_1 _))))
end
def Hf(t:Bool):String:=if t=true then "tuple_iterator" else "list_iterator"
abbrev H1(t:Bool)(h:Heap)(a:Addr):Heap:=h.push {cls:=.type (Hf t),data:=.fields #[.ref a,.int 0 0]}
abbrev H2(t t2:Bool)(h:Heap)(a b:Addr):Heap:=(H1 t h a).push {cls:=.type (Hf t2),data:=.fields #[.ref b,.int 0 0]}
abbrev H3(t t2:Bool)(h:Heap)(a b:Addr):Heap:=(H2 t t2 h a b).push {cls:=.type "tuple",data:=.seq #[.ref h.objs.size,.ref (H1 t h a).objs.size]}
abbrev H4(t t2:Bool)(h:Heap)(a b:Addr):Heap:=(H3 t t2 h a b).push {cls:=.type "tuple",data:=.seq #[.none,.none]}
abbrev H5(t t2:Bool)(h:Heap)(a b:Addr):Heap:=(H4 t t2 h a b).push {cls:=.type "zip",data:=.fields #[.none,.bool false,.bool false,.ref (H2 t t2 h a b).objs.size,.ref (H3 t t2 h a b).objs.size]}
def Sq.push{t:Bool}{h:Heap}{a:Addr}{xs:Array Value}(g:Sq t h a xs)(o:Obj):Sq t (h.push o) a xs:=g.at λ_ e=>Qcq _ e
def y8(t t2:Bool)(a b:Addr)(xs ys:Array Value):Meets (Builtin.«zip.__new__» ⟨[.type "zip",.ref a,.ref b],[]⟩) (λ_ R s=>Sq t s.heap a xs/\Sq t2 s.heap b ys/\R (.ok (.ret (.ref (H4 t t2 s.heap a b).objs.size))) {s with heap:=H5 t t2 s.heap a b}):=
 .of_wp λm w A R s h=>by
  obtain⟨f,g,d,e,i⟩:=s
  obtain⟨l,o,h⟩:=h
  have n:=sub_zip
  have c:=o.push {cls:=.type (Hf t),data:=.fields #[.ref a,.int 0 0]}
  cases t <;>cases t2
  ·have j:Heap.IsList (Shared.heap ⟨f,g,d,e,i⟩) a xs:=l
   have k:Heap.IsList (Shared.heap ⟨f.push {cls:=.type "list_iterator",data:=.fields #[.ref a,.int 0 0]},g,d,e,i⟩) b ys:=c
   wp_walk using wpAny_pyIter_list j,wpAny_pyIter_list k
   exact⟨_,rfl,h⟩
  ·have j:Heap.IsList (Shared.heap ⟨f,g,d,e,i⟩) a xs:=l
   have k:Heap.IsTuple (Shared.heap ⟨f.push {cls:=.type "list_iterator",data:=.fields #[.ref a,.int 0 0]},g,d,e,i⟩) b ys:=c
   wp_walk using wpAny_pyIter_list j,wpAny_pyIter_tuple k
   exact⟨_,rfl,h⟩
  ·have j:Heap.IsTuple (Shared.heap ⟨f,g,d,e,i⟩) a xs:=l
   have k:Heap.IsList (Shared.heap ⟨f.push {cls:=.type "tuple_iterator",data:=.fields #[.ref a,.int 0 0]},g,d,e,i⟩) b ys:=c
   wp_walk using wpAny_pyIter_tuple j,wpAny_pyIter_list k
   exact⟨_,rfl,h⟩
  ·have j:Heap.IsTuple (Shared.heap ⟨f,g,d,e,i⟩) a xs:=l
   have k:Heap.IsTuple (Shared.heap ⟨f.push {cls:=.type "tuple_iterator",data:=.fields #[.ref a,.int 0 0]},g,d,e,i⟩) b ys:=c
   wp_walk using wpAny_pyIter_tuple j,wpAny_pyIter_tuple k
   exact⟨_,rfl,h⟩
section
variable{prog:Program}{w:World}{A:Around}{E:Value->Shared->Prop}{s:Shared}
def C7{t t2:Bool}{a b:Addr}{xs ys:Array Value}{Q:Value->Shared->Prop}(r:Sq t s.heap a xs)(p:Sq t2 s.heap b ys)
  (q:∀h',pR h' (s.heap.objs.size+4) (s.heap.objs.size+2) (s.heap.objs.size+3) .none (.bool false)->IsPair h' (s.heap.objs.size+2) (.ref s.heap.objs.size) (.ref (s.heap.objs.size+1))->IsPair h' (s.heap.objs.size+3) .none .none→
   It t h' s.heap.objs.size a 0->It t2 h' (s.heap.objs.size+1) b 0->(∀c o,s.heap.get? c=some o->h'.get? c=some o)->Q (.ref (s.heap.objs.size+4)) {s with heap:=h'}):
  wpAny (model prog w) A (call (.type "zip") [.ref a,.ref b]) Q E s:=by
 refine callType_new F.called_zip (by decide) (F.typeCall_zip_2 _ _) (F.newCall_zip_2 _ _) (λg=>F.args_object_init_3 g _ _) F.entry_zip_new (y8 t t2 a b xs ys) ⟨r,p,?_⟩
 have d:(H1 t s.heap a).objs.size=s.heap.objs.size+1:=Heap.size_push ..
 have h:(H2 t t2 s.heap a b).objs.size=s.heap.objs.size+2:=by rw[Heap.size_push,d]
 have f:(H3 t t2 s.heap a b).objs.size=s.heap.objs.size+3:=by rw[Heap.size_push,h]
 have k:(H4 t t2 s.heap a b).objs.size=s.heap.objs.size+4:=by rw[Heap.size_push,f]
 have e:(H5 t t2 s.heap a b).get? (H4 t t2 s.heap a b).objs.size=some _:=Qrq _ rfl
 have j:(H5 t t2 s.heap a b).get? (H3 t t2 s.heap a b).objs.size=some _:=Qcq _ (Qrq _ rfl)
 have l:(H5 t t2 s.heap a b).get? (H2 t t2 s.heap a b).objs.size=some _:=Qcq _ (Qcq _ (Qrq _ rfl))
 have i:(H5 t t2 s.heap a b).get? (H1 t s.heap a).objs.size=some _:=Qcq _ (Qcq _ (Qcq _ (Qrq _ rfl)))
 have m:(H5 t t2 s.heap a b).get? s.heap.objs.size=some _:=Qcq _ (Qcq _ (Qcq _ (Qcq _ (Qrq _ rfl))))
 refine(?_:_/\_)
 rw[h,f,k] at e
 rw[d,h] at l
 rw[f] at j
 rw[d] at i
 rw[k]
 refine⟨⟨_,e,rfl⟩,q _ e l j ?_ ?_ λc o n=>Qcq _ (Qcq _ (Qcq _ (Qcq _ (Qcq _ n))))⟩
 ·cases t <;>exact⟨_,m,rfl,rfl⟩
 ·cases t2 <;>exact⟨_,i,rfl,rfl⟩
end
def lQ:typeLookup (.type "zip") "__getattr__"=pure none:=by rw[typeLookup_type,builtinLookup_eq_fast];kernel_rfl
def gP:entryFor table "zip.__getattribute__"=some Builtin.«object.__getattribute__»:=
 entryFor_alias (id':="object.__getattribute__") (by kernel_rfl) (by decide +kernel) (by decide +kernel) (by kernel_rfl)
def mX:typeLookup (Value.type "zip") (Str.ofString "keys")=pure none:=by
 rw[typeLookup_type,builtinLookup_eq_fast]
 rfl
def nT(a:Addr)(fs:Array Value)(name:Str)(u:Tok)(e:typeLookup (.type "zip") name=pure none)(b:(["__module__","__name__","__qualname__","__doc__","__annotations__"]:List Str).contains name=false)(hsz:name.length+100<=sizeLine:=by size_fits):
  Meets (Builtin.«object.__getattribute__» ⟨[.ref a,.str name u],[]⟩) (λA R s=>s.heap.get? a=some {cls:=.type "zip",dict:=none,data:=.fields fs,slots:= #[]}/\raisesAttr (.ref a) name A R s):=
 Meets.of_wp λf w A R s c=>by
  obtain⟨j,g,d,h,k⟩:=s
  obtain⟨i,c⟩:=c
  have l:(⟨j,g,d,h,k⟩:Shared).TypeIs (.ref a) "zip":=⟨_,i,rfl⟩
  unfold Builtin.«object.__getattribute__»
  repeat (any_goals (first|assumption|wp_step))
  simp only[b,Bool.false_eq_true,if_false]
  repeat (any_goals (first|assumption|wp_step))
  exact wpAny_raiseAttrError c.1 c.2 (attrMsg_fits (by decide +kernel) hsz)
def yZ{prog:Program}{w:World}{A:Around}{E:Value->Shared->Prop}{s:Shared}{a:Addr}{fs:Array Value}{Q:Option Value->Shared->Prop}
  (j:s.heap.get? a=some {cls:=.type "zip",dict:=none,data:=.fields fs,slots:= #[]}) (u:A.handled=none)
  (h:∀(h':Heap) (i:Nat),(∀b o,s.heap.get? b=some o->h'.get? b=some o)->Q none {s with heap:=h',toks:=i}):
  wpAny (model prog w) A (getAttr? (.ref a) (Str.ofString "keys")) Q E s:=by
 obtain⟨q,g,d,i,k⟩:=s
 have p:∀x,Shared.TypeIs ⟨q,g,d,x,k⟩ (.ref a) "zip":=λx=>⟨_,j,rfl⟩
 have m:=sub_AttributeError
 have r:=F.slot_zip_getattribute.lookup
 have n:=F.slot_zip_getattribute.bind (Value.ref a)
 have t:=lQ
 unfold getAttr? mkText getAttrBy? getAttrBy
 refine Qaq (Qaq (wpAny_fresh' (Qgq (Qaq (wpAny_attempt (QLq ?_))))))
 unfold typeOf
 refine Qaq (Qaq (wpAny_loadPart' j (Qgq (Qaq (wpAny_of_eq r (QgQ rfl ?_))))))
 unfold getAttrByItsOwn hookBefore
 refine Qaq (QgQ rfl (Qgq (Qaq (wpAny_attempt (QLq ?_)))))
 unfold callGetattribute
 refine QgQ rfl ?_
 unfold boundAndCalled
 refine Qaq (wpAny_of_eq n ?_)
 refine call_meets F.slot_zip_getattribute (p (i+1)) gP (F.args_zip_getattribute_2 (Value.ref a) _) (nT a fs (Str.ofString "keys") i mX (by decide +kernel) (by decide +kernel)) ⟨j,u,λh' c e f=> ?_⟩
 obtain⟨z,y,v⟩:=f.there
 have l:Shared.TypeIs ⟨h',g,d,c,k⟩ (.ref e) "AttributeError":=⟨_,v,rfl⟩
 show wpAny _ _ (getattributeRaised _ _ _ _ _ _ _) _ _ _
 unfold getattributeRaised
 refine Qaq (wpAny_isInstance l m (wpAny_ite_true rfl ?_))
 unfold hookBehind hookOrError
 refine Qaq (QgQ rfl (wpAny_of_eq t ?_))
 show wpAny _ _ (attributeErrorLeaves _ _ _ _ _) _ _ _
 unfold attributeErrorLeaves
 refine wpAny_ite_true rfl (wpAny_throw ?_)
 exact Qaq (wpAny_isInstance l m (wpAny_ite_true rfl (Qgq (h h' c f.keeps))))
def pZ{prog:Program}{w:World}{A:Around}{E:Value->Shared->Prop}{s:Shared}{z:Addr}{fs:Array Value}{Q:Value->Shared->Prop}
  (i:s.heap.get? z=some {cls:=.type "zip",dict:=none,data:=.fields fs,slots:= #[]}) (k:A.handled=none)
  (h:∀(h':Heap) (d:Nat),(∀b o,(s.heap.push {cls:=.type "dict",data:=.dict #[]}).get? b=some o->h'.get? b=some o)→
   wpAny (model prog w) A.in1.in1 (pyIter (.ref z)) (λit f=>codeAny (model prog w) A.in1 (.builtin "dict.update.loop" {pos:= [.ref s.heap.objs.size,it,rawInt 0,.none]}) (wants (λr a=>r=.none/\Q (.ref s.heap.objs.size) a) E) f) E {s with heap:=h',toks:=d}):
  wpAny (model prog w) A (call (.type "dict") [.ref z]) Q E s:=by
 refine Dk.vf ?_
 have l:=Qrq s.heap (o:={cls:=.type "dict",data:=.dict #[]}) rfl
 have j:Shared.TypeIs {s with heap:=s.heap.push {cls:=.type "dict",data:=.dict #[]}} (.ref s.heap.objs.size) "dict":=⟨_,l,rfl⟩
 have c:=Qcq {cls:=.type "dict",data:=.dict #[]} i
 have g:Shared.TypeIs {s with heap:=s.heap.push {cls:=.type "dict",data:=.dict #[]}} (.ref z) "zip":=⟨_,c,rfl⟩
 unfold Builtin.«dict.__init__» Builtin.Dict.selfAndRest
 refine Qaq (Qaq (wpAny_notOrdered_dict j ?_))
 refine Qaq (Qgq (Qgq ?_))
 show wpAny _ _ (Builtin.Dict.updateFrom _ _ _ _ _) _ _ _
 unfold Builtin.Dict.updateFrom
 refine Qaq (wpAny_typeOf g (wpAny_ite_true (by decide +kernel) (Qaq (yZ c (by simpa using k) λh' d m=> ?_))))
 refine wpAny_ite_true rfl ?_
 refine Qaq (wpAny_rule (Qaq (QRq (h h' d m) (λit f q=> ?_) λe f q=>q)))
 exact Qgq ⟨plainId_quiet (by decide +kernel) _,q⟩
end Zq
namespace Zq
open PySem Dk
section
variable{prog:Program}{w:World}{K:Type}[DecidableEq K]{knd:KeyKind prog w K}{z T O i j a b S:Addr}{t t2:Bool}{xs ys:Array Value}
def wz{A:Around}{R:Result->Shared->Prop}(hA:A.in1.handled=none)(D:ZipApart z T O i j a b)(nS:S≠z/\S≠T/\S≠O/\S≠i/\S≠j/\S≠a/\S≠b)(a5:a≠T/\b≠T)(f:Nat->K)(u:∀(n:Nat) v,xs[n]?=some v->knd.is (f n) v=true)(a4:xs.size<=ys.size)(hn:xs.size<=sizeLine):
  ∀ (m n:Nat) (c:Int) (s:Shared),xs.size-n=m->n<=xs.size->Zs s.heap z T O i j->IsPair s.heap T (.ref i) (.ref j)->It t s.heap i a n->It t2 s.heap j b n->Sq t s.heap a xs->Sq t2 s.heap b ys->Heap.DictOf knd s.heap S (Ek f (λn=>ys.getD n .none) n)→
    (∀h' G,Heap.DictOf knd h' S (Ek f (λn=>ys.getD n .none) xs.size)->(∀c o,c≠z->c≠O->c≠i->c≠j->c≠S->s.heap.get? c=some o->h'.get? c=some o)->R (.ok (.ret .none)) {s with heap:=h',toks:=G})→
    codeAny (model prog w) A (.builtin "dict.update.loop" {pos:= [.ref S,.ref z,rawInt c,.none]}) R s:=by
 obtain⟨X,n2,Y,H,n5,n6,n7⟩:=nS
 intro m
 induction m with
 | zero=>
   intro n c s hm a2 gz C gi gj F U L h
   have e:n=xs.size:=by omega
   subst e
   refine codeAny_builtin ie ?_
   rw[Around.under_plainId eL]
   show wpAny _ _ (do let __x←pyNext (.ref z);_) _ _ _
   refine Qaq (uk D hA gz C gi F (by simp) λh' r=> ?_)
   refine Qaq (Qgq (Qgq (h h' s.toks ?_ λc o p l k g _ e=>r c o p l k g e)))
   obtain⟨o,Z,ep,N,M⟩:=L
   exact⟨o,Z,ep,r _ _ X Y H n5 N,M⟩
 | succ m ih=>
   intro n c s hm a2 gz C gi gj F U L h
   have q:n<xs.size:=by omega
   have ex:xs[n]?=some xs[n]:=by simp[q]
   have ey:ys[n]?=some ys[n]:=by simp[show n<ys.size by omega]
   refine codeAny_builtin ie ?_
   rw[Around.under_plainId eL]
   show wpAny _ _ (do let __x←pyNext (.ref z);_) _ _ _
   refine Qaq (zN D gz C gi gj F U ex ey λhp I P J gp r=> ?_)
   have Q:Heap.DictOf knd hp S (Ek f (λn=>ys.getD n .none) n):=by
     obtain⟨o,Z,ep,N,M⟩:=L
     exact⟨o,Z,ep,r _ _ X Y H n5 N,M⟩
   refine Qaq (QLq (Qaq (wpAny_tryCatch ?_)))
   unfold Builtin.Dict.pairItems
   refine Qaq (wpAny_typeOf (T:="tuple") ⟨_,gp,rfl⟩ (wpAny_ite_true rfl (Qaq ?_)))
   unfold seqItems?
   refine Qaq (wpAny_load' gp (Qgq (Qgq (QLq (wpAny_dictSet_pairs (u n _ ex) Q (λh' x hs=> ?_) (QAq (xm f _ n) (by omega)))))))
   have ev:ys.getD n .none=ys[n]:=by simp[Array.getD,show n<ys.size by omega]
   have B:∀c o,c≠S->hp.get? c=some o->h'.get? c=some o:=λc o hc e=>by rw[hs.2 c hc];exact e
   have d:∀c o,c≠z->c≠O->c≠i->c≠j->c≠S->s.heap.get? c=some o->h'.get? c=some o:=λc o p l k g y e=>B c o y (r c o p l k g e)
   have a1:∃o,h'.get? S=some o:=by obtain⟨o,_,_,e,_⟩:=x;exact⟨o,e⟩
   have a3:Heap.DictOf knd h' S (Ek f (λn=>ys.getD n .none) (n+1)):=by
     show Heap.DictOf knd h' S (stored _ (f n) (ys.getD n .none))
     rw[ev]
     exact x
   refine Qgq ⟨plainId_quiet eL _,ih (n+1) (c+1) _ (by omega) q (I.but B X.symm Y.symm a1) ?_ (P.at λo e=>B _ o H.symm e) (J.at λo e=>B _ o n5.symm e) ?_ ?_ a3 λW G a0 k4=>h W G a0 λc o p l k g y e=>k4 c o p l k g y (d c o p l k g y e)⟩
   · exact d _ _ D.TIz D.TITO D.TIi1 D.TIi2 n2.symm C
   · exact F.at λo e=>d _ o D.l1z D.l1TO D.l1i1 D.l1i2 n6.symm e
   · exact U.at λo e=>d _ o D.l2z D.l2TO D.l2i1 D.l2i2 n7.symm e
end
end Zq
namespace L2
open PySem PySem.Spec PyProof.Rows Zq
section
variable{X:Cx}
def tU(K:PySem.W.Frag)(t:Bool)(H:Hp)(a:Addr)(xs:List V):Prop:=if t=true then fe K H a xs else gc K H a xs
def Inv.sq{c:List (Addr×Obj)}{d:St}{H:Hp}{s:Shared}{t:Bool}{a:Addr}{xs:List V}(I:Inv X c d H s)(h:tU X.K t H a xs):∃b:List Value,bf xs b/\Sq t s.heap a b.toArray/\xs.length<=sizeLine:=by
 cases t with
 | true=>
   obtain⟨b,r,p,z⟩:=I.tuple h
   exact⟨b,r,(show s.heap.IsTuple a b.toArray from p),z⟩
 | false=>
   obtain⟨b,r,p,z⟩:=I.list h
   exact⟨b,r,(show s.heap.IsList a b.toArray from p.isList),z⟩
def Sq.lt{t:Bool}{h:Heap}{a:Addr}{xs:Array Value}(g:Sq t h a xs):a<h.objs.size:=by
 cases t with
 |true=>obtain⟨o,e,_⟩:=(show h.IsTuple a xs from g);exact Qiq e
 |false=>obtain⟨o,e,_⟩:=(show h.IsList a xs from g);exact Qiq e
def DM(K:PySem.W.Frag):List V->Hp->VK->Prop:=λe H Q=>∃(t f:Bool) (a b:Addr) (d:List Key) (c:List V),e= [.ref a,.ref b]/\tU K t H a (d.map kV)/\tU K f H b c/\d.length=c.length/\∀p,H p=none->Q (.ref p) (upd H p (.dK (g_ [] (d.zip c))))
def vM{x y:Expr}{ta:TA}{p1 Y c1 P:Pos}(B:X.calm=true)(a4:Gl X "dict")(a1:X.mg "dict"=none)(hg:Gl X "zip")(hm:X.mg "zip"=none)(ha:PA X [x,y] ta)(hs:starEach [x,y] X.env= [(false,eval x X.env),(false,eval y X.env)]:=by rfl)(M:starEach [y] X.env= [(false,eval y X.env)]:=by rfl)
  (he:starEach [Expr.Call (.Name "zip" Y) [x,y] [] P] X.env= [(false,eval (Expr.Call (.Name "zip" Y) [x,y] [] P) X.env)]:=by rfl):
  PE X (.Call (.Name "dict" p1) [.Call (.Name "zip" Y) [x,y] [] P] [] c1) (GG (DM X.K) ta):=by
 intro C s σ H Q I h
 refine wpAny_Call_Name_kw (iD I a4 a1 (by rfl) ?_)
 refine PyProof.Rows.callWith_type1 ?_ he rfl
 rw[he]
 show wpAny _ _ (spliced ((false,eval (Expr.Call (.Name "zip" Y) [x,y] [] P) X.env)::backTo c1 (starEach [] X.env))) _ _ s
 refine Calls.spliced_cons ?_
 refine wpAny_Call_Name_kw (iD I hg hm (by rfl) ?_)
 refine PyProof.Rows.callWith_type1 (bP (ha P C s σ H _ I h) λus j ⟨vs,H1,G,r1,q1⟩=> ?_) (by rw[hs,M]) (by rw[M];rfl)
 obtain⟨t,t2,a,b,d,ys,e,qa,qb,hl,q⟩:=q1
 subst e
 cases r1 with
 | cons r rr=>
   cases rr with
   | cons r' rr=>
     cases rr
     cases r
     cases r'
     obtain⟨m,ra,pa,za⟩:=G.sq qa
     obtain⟨p,rb,pb,zb⟩:=G.sq qb
     have lx:=Sq.lt pa
     have ly:=Sq.lt pb
     have la:=ra.length
     have lb:=rb.length
     rw[lQm] at la
     refine Zq.C7 pa pb λg S gT gO gi gj W=>Calls.spliced_nil ?_
     have I2:Inv X C σ H1 {j with heap:=g}:=G.kept (t':=j.toks) W
     refine Zq.pZ S (G.ok.hd B) λU tk k2=> ?_
     have z:∀c o,g.get? c=some o->U.get? c=some o:=λc o e=>k2 c o (Qcq _ e)
     have a5:U.get? g.objs.size=some {cls:=.type "dict",data:=.dict #[]}:=k2 _ _ (Qrq g rfl)
     refine wpAny_pyIter_zip (z _ _ S) ?_
     have DD:=PyProof.Rows.zipApart_new lx ly
     have f:j.heap.objs.size+4<g.objs.size:=Qiq S
     have J:∀(n:Nat) k,d[n]?=some k->d.getD n (.inl 0)=k:=λn k e=>by rw[Qlq,e];rfl
     have F:∀c,c<j.heap.objs.size->c≠j.heap.objs.size+4/\c≠j.heap.objs.size+3/\c≠j.heap.objs.size/\c≠j.heap.objs.size+1/\c≠g.objs.size:=λc B=>
       ⟨Qwq (Qqq B (Nat.le_add_right _ _)),Qwq (Qqq B (Nat.le_add_right _ _)),Qwq B,Qwq (Qqq B (Nat.le_add_right _ _)),Qwq (Nat.lt_trans (Qqq B (Nat.le_add_right _ 4)) f)⟩
     refine Zq.wz (knd:=bg X.prog X.w) (t:=t) (t2:=t2) (xs:=m.toArray) (ys:=p.toArray) (show X.A.in1.in1.handled=none from G.ok.hd B) DD ?_ ?_ (λn=>d.getD n (.inl 0)) ?_ (by simp;omega) (by simp;omega) m.toArray.size 0 0 _ rfl (Nat.zero_le _)
       (.inl ⟨z _ _ S,_,_,z _ _ gO⟩) (z _ _ gT) (gi.at λo e=>z _ o e) (gj.at λo e=>z _ o e) (pa.at λo e=>z _ o (W _ o e)) (pb.at λo e=>z _ o (W _ o e)) ?_ ?_
     · refine⟨Nat.ne_of_gt f,Nat.ne_of_gt (Nat.lt_trans ?_ f),Nat.ne_of_gt (Nat.lt_trans ?_ f),Nat.ne_of_gt (Nat.lt_trans ?_ f),Nat.ne_of_gt (Nat.lt_trans ?_ f),(F _ lx).2.2.2.2.symm,(F _ ly).2.2.2.2.symm⟩ <;>(show _<j.heap.objs.size+4) <;>omega
     · exact⟨Qwq (Qqq lx (Nat.le_add_right _ _)),Qwq (Qqq ly (Nat.le_add_right _ _))⟩
     · intro n v hv
       have L:m[n]?=some v:=by simpa using hv
       have hn:n<d.length:=by
         have:=(gQs.mp L).1
         omega
       have N:=gQe hn
       obtain⟨u,R,Z⟩:=ra.get (i:=n) (x:=kV d[n]) (by rw[gQm,N];rfl)
       rw[L] at R
       cases R
       show(bg X.prog X.w).is (d.getD n (.inl 0)) v=true
       rw[J n _ N]
       exact key_is Z _ _
     · obtain⟨o,es,ep,e1,e2⟩:=Heap.DictOf.new (knd:=bg X.prog X.w) g
       exact⟨o,es,ep,k2 _ _ e1,e2⟩
     · intro h3 a2 dd k3
       have a0:g.objs.size≠sysModules:=by
         have:=I2.big
         exact Nat.ne_of_gt this
       have le:j.heap.objs.size<=g.objs.size:=nQl (Nat.lt_of_le_of_lt (Nat.le_add_right _ 4) f)
       refine⟨rfl,.ref g.objs.size,_,G.laid (a:=g.objs.size) (o:=.dK (g_ [] (d.zip ys))) (t':=a2) (h':=h3) (λc o e=> ?_) le (oH ?_ (beq_eq_false_iff_ne.mpr a0) ?_ dd),rfl,q _ (G.hok.fresh le)⟩
       · obtain⟨o1,o2,o3,o4,o5⟩:=F c (Qiq e)
         exact k3 c o o1 o2 o3 o4 o5 (z c o (W c o e))
       · have:=fZ (d.zip ys) []
         rw[QGq,List.length_zip] at this
         omega
       · have a3:∀n,n<=d.length->KV (g_ [] ((d.zip ys).take n)) (Dk.Ek (λn=>d.getD n (.inl 0)) (λn=>p.toArray.getD n .none) n):=by
           intro n
           induction n with
           |zero=>intro _;exact .nil
           | succ n ih=>
             intro hn
             have N:=gQe (l:=d) (i:=n) (by omega)
             have hy:=gQe (l:=ys) (i:=n) (by omega)
             obtain⟨u,R,Z⟩:=rb.get hy
             have ez:(d.zip ys)[n]?=some (d[n],ys[n]):=by rw[List.getElem?_zip_eq_some];exact⟨N,hy⟩
             have e3:(d.zip ys).take (n+1)=(d.zip ys).take n++ [(d[n],ys[n])]:=by rw[QYq,ez];rfl
             have eu:p.toArray.getD n .none=u:=by
               have:=(gQs.mp R)
               obtain⟨g,U⟩:=this
               simp[Array.getD,g,U]
             rw[e3]
             show KV (List.foldl _ [] ((d.zip ys).take n++ [(d[n],ys[n])])) (stored _ (d.getD n (.inl 0)) (p.toArray.getD n .none))
             rw[List.foldl_append,J n _ N,eu]
             exact(ih (by omega)).put d[n] Z
         have:=a3 d.length (Qmq _)
         have e4:(d.zip ys).take d.length=d.zip ys:=by
           have:(d.zip ys).length=d.length:=by rw[List.length_zip];omega
           rw[←this,QEq]
         rw[e4] at this
         have e5:m.toArray.size=d.length:=by simp;omega
         rw[e5]
         exact this
end
end L2
namespace Zq
open PySem
section
variable{prog:Program}{w:World}{A:Around}{E:Value->Shared->Prop}{s:Shared}{t t2:Bool}{z T O i j a b:Addr}{k:Nat}{xs ys:Array Value}{x y u v:Value}
def yn(D:ZipApart z T O i j a b){Q:Option Value->Shared->Prop}(c:pR s.heap z T O .none (.bool false))(l:IsPair s.heap T (.ref i) (.ref j))(f:IsPair s.heap O u v)(C:It t s.heap i a k)(B:It t2 s.heap j b k)
  (G:Sq t s.heap a xs) (o:Sq t2 s.heap b ys) (ex:xs[k]?=some x) (e:ys[k]?=some y)
  (q:∀h',pR h' z T O (rawInt s.heap.objs.size) (.bool false)->IsPair h' O x y->It t h' i a (k+1)->It t2 h' j b (k+1)->IsPair h' s.heap.objs.size x y->Zp.Rest z O i j s.heap h'->Q (some (.ref s.heap.objs.size)) {s with heap:=h'}):
  wpAny (model prog w) A (pyNext (.ref z)) Q E s:=by
 have d:s.TypeIs (.ref z) "zip":=⟨_,c,rfl⟩
 unfold pyNext
 exact Qaq (wpAny_attempt (QiQ (name:=Str.ofString "__next__") d F.slot_zip_next (wpAny_call_entry F.slot_zip_next d F.entry_zip_next
  (item D c l f C B G o ex e λh' r n p m g h=>Qgq (q h' r n p m g h)) (F.args_zip_next_1 _))))
end
end Zq
namespace L2
open PySem PySem.Spec PyProof.Rows Zq
def Inv.sq_inj{X:Cx}{b:List (Addr×Obj)}{c:St}{H:Hp}{s:Shared}{t:Bool}{a:Addr}{xs ys:List V}(I:Inv X b c H s)(h:tU X.K t H a xs)(h':tU X.K t H a ys):xs=ys:=by
 cases t with
 |true=>exact I.tuple_inj h h'
 |false=>exact I.list_inj h h'
def JB(K:PySem.W.Frag)(t t2:Bool)(a b:Addr):It:=
  ⟨λi H=>∃c d x y,tU K t H a c/\tU K t2 H b d/\c[i]?=some x/\d[i]?=some y,
   λi H v e=>∃p,v=.ref p/\H p=none/\∀c d x y,tU K t H a c->tU K t2 H b d->c[i]?=some x->d[i]?=some y->e=upd H p (.tup [x,y]),
   λi H=>∃c,tU K t H a c/\c.length<=i⟩
def yu{P:Program}{w:World}{K:PySem.W.Frag}{B:List Expr}{x1:Nat}{tp:Pos}{t t2:Bool}{z T O i j a b:Addr}(D:ZipApart z T O i j a b):
  Turn P w K (.Tuple B x1 tp) (JB K t t2 a b) [z,T,O,i,j] z (λn h=>pR h z T O .none (.bool false)/\IsPair h T (.ref i) (.ref j)/\(∃u v,IsPair h O u v)/\Zq.It t h i a n/\Zq.It t2 h j b n) where
 mem:=by simp
 obj:=λn h ⟨f,g,⟨u,v,m⟩,p,q⟩ c d=>by
  simp at d
  rcases d with rfl|rfl|rfl|rfl|rfl
  ·exact⟨_,f,λv n=>by cases n⟩
  ·exact⟨_,g,λv n=>by cases n⟩
  ·exact⟨_,m,λv n=>by cases n⟩
  ·exact p.obj
  ·exact q.obj
 keep:=λn h h' ⟨f,g,⟨u,v,m⟩,p,q⟩ k=>⟨k z (by simp) _ f,k T (by simp) _ g,⟨u,v,k O (by simp) _ m⟩,p.at λo e=>k i (by simp) o e,q.at λo e=>k j (by simp) o e⟩
 item:=by
  rintro X Y S R d n l s σ H E I G ⟨f,g,⟨u,v,m⟩,p,q⟩ hg
  subst Y S R
  obtain⟨xs,ys,x,y,J,qb,U,hy⟩:=hg
  obtain⟨N,Q,Z,_⟩:=I.sq J
  obtain⟨a1,rb,pb,_⟩:=I.sq qb
  obtain⟨ux,ex,rx⟩:=Q.get U
  obtain⟨uy,ey,ry⟩:=rb.get hy
  have A:∀{c o},s.heap.get? c=some o->c≠s.heap.objs.size:=λe=>Qwq (Qiq e)
  have C:∀c∈[z,T,O,i,j],c≠s.heap.objs.size:=λc d=>by
   obtain⟨oi,e1,_⟩:=p.obj
   obtain⟨oj,e2,_⟩:=q.obj
   simp at d
   rcases d with rfl|rfl|rfl|rfl|rfl
   ·exact A f
   ·exact A g
   ·exact A m
   ·exact A e1
   ·exact A e2
  refine Zq.yn D f g m p q Z pb (x:=ux) (y:=uy) (by simpa using ex) (by simpa using ey) λh1 z1 O1 i1 j1 n1 F=>⟨_,rfl,?_⟩
  have T1:=F _ _ D.TIz D.TITO D.TIi1 D.TIi2 g
  refine wpAny_letOwnedTupleGo_zip z1 λh2 z2 r=> ?_
  have I2:Inv X l σ (upd H s.heap.objs.size (.tup [x,y])) {s with heap:=h2}:=I.turnedNew (t':=s.toks) (fp:= [z,T,O,i,j]) G (λc o d e=> ?_) (Qmq _) ?_
  ·refine⟨.ref s.heap.objs.size,_,I2,rfl,⟨s.heap.objs.size,rfl,I.hok.fresh (Qmq _),λa0 a2 x' y' q1 q2 L M=> ?_⟩,⟨z2,r.extBut _ _ D.TIz T1,⟨_,_,r.extBut _ _ D.TOz O1⟩,i1.ext r.extBut D.i1z,j1.ext r.extBut D.i2z⟩,λc d=> ?_⟩
   ·rw[I.sq_inj q1 J] at L
    rw[I.sq_inj q2 qb] at M
    rw[U] at L
    rw[hy] at M
    cases L
    cases M
    rfl
   ·rw[aO (C c d)]
    exact(G c d).1
  ·simp at d
   exact r.extBut _ _ d.1 (F c o d.1 d.2.2.1 d.2.2.2.1 d.2.2.2.2 e)
  ·exact⟨by show 2<=_;decide,[ux,uy],.cons rx (.cons ry .nil),_,r.extBut _ _ (λe=>C z (by simp) e.symm) n1,rfl,rfl,0,rfl⟩
 done:=by
  rintro X Y S R d n l s σ H E I G ⟨f,g,⟨u,v,m⟩,p,q⟩ hg
  subst Y S R
  obtain⟨xs,J,U⟩:=hg
  obtain⟨N,Q,Z,_⟩:=I.sq J
  have hl:=Q.length
  refine Zq.uk D (I.ok.hd d) (.inl ⟨f,u,v,m⟩) g p Z (by simp;omega) λh1 F=>⟨rfl,I.turnedL (t':=s.toks) (fp:= [z,T,O,i,j]) G λc o d e=> ?_⟩
  simp at d
  exact F c o d.1 d.2.2.1 d.2.2.2.1 d.2.2.2.2 e
 self:=λ_ _ _ _ _ ⟨f,_⟩ h=>wpAny_pyIter_zip f h
section
variable{X:Cx}
def JL(K:PySem.W.Frag)(g:TA):TI:=λh H R=>g h H λf H1=>∃(t c:Bool) (a b:Addr) (e d:List V),f= [.ref a,.ref b]/\tU K t H1 a e/\tU K c H1 b d/\R (JB K t c a b) H1
def BH{f:List Expr}{C:Nat}{P:Pos}{a b:Expr}{u:TA}{p pos:Pos}(N:Gl X "zip")(F:X.mg "zip"=none)(G:PA X [a,b] u)(B:starEach [a,b] X.env= [(false,eval a X.env),(false,eval b X.env)]:=by rfl)(d:starEach [b] X.env= [(false,eval b X.env)]:=by rfl):
  PI X (.Tuple f C P) (.Call (.Name "zip" p) [a,b] [] pos) (JL X.K u):=by
 intro i s σ H R I h
 refine Call_ (iD I N F (by rfl) (PyProof.Rows.callWith_type1 (bP (G pos i s σ H _ I h) λus n ⟨vs,H1,g,J,W⟩=> ?_) (by rw[B,d]) (by rw[d];rfl)))
 obtain⟨t,t2,x,y,xs,ys,e,Z,S,q⟩:=W
 subst e
 cases J with
 | cons r j=>
   cases j with
   | cons M j=>
     cases j
     cases r
     cases M
     obtain⟨a0,ra,m,_⟩:=g.sq Z
     obtain⟨z,rb,v,_⟩:=g.sq S
     have Q:=Sq.lt m
     have U:=Sq.lt v
     refine Zq.C7 m v λh' w L A gi Y k=> ?_
     refine wpAny_pyIter_zip w ⟨_,_,_,_,H1,rfl,g.kept (t':=n.toks) k,yu (PyProof.Rows.zipApart_new Q U),⟨w,L,⟨_,_,A⟩,gi,Y⟩,λc o=> ?_,q⟩
     have l:n.heap.objs.size<=c:=by
       simp only[Qsq,QXq,or_false] at o
       rcases o with e|e|e|e|e <;>(rw[e];first|exact Qmq _|exact Nat.le_add_right _ _)
     exact g.fpOk l (g.hok.fresh l)
end
end L2
namespace DL
open PySem PySem.Spec PyProof.Rows L2
def vE.sqB{M:Md}{ρ:List Addr}{H:Hp}{a:Addr}{vs:List V}{t:Tag}(h:vE M ρ H a vs t):L2.tU M.K (!t.isL) H a vs:=by
 cases c:t.isL with
 |true=>exact h.sqL c
 |false=>exact h.sqT c
def uh(xs ys:List D):List D:=List.zipWith (λx y=>D.tup [x,y]) xs ys
open Classical in
def z4(f g:dU):qg:=λb S=>(f b S).bind λ(p,c)=>(g b c).bind λ(r,a)=>if p.2.stays a p.1/\p.1.length<=r.1.length then some ((uh p.1 r.1,λS=>p.2.stays S p.1/\r.2.stays S r.1),a) else none
section
variable{X:Cx}{a b c e:Expr}{pos:Pos}{st:Stmt}
def JD{n:List Expr}{s:Nat}{tp p:Pos}{f g:dU}(hg:Gl X "zip")(hm:X.mg "zip"=none)(ha:PE X a (tQ (md X) f))(hb:PE X b (tQ (md X) g))(P:starEach [a,b] X.env= [(false,eval a X.env),(false,eval b X.env)]:=by rfl)(j:starEach [b] X.env= [(false,eval b X.env)]:=by rfl):
  PI X (.Tuple n s tp) (.Call (.Name "zip" p) [a,b] [] pos) (tI (md X) (z4 f g)):=GI (BH hg hm (c9 ha (c9 hb fV j) (by rw[P,j])) P j) λσ H R ⟨ρ,Γ,S,ds,W,S',ok,e,q⟩=>by
 obtain⟨⟨⟨l,t1⟩,U⟩,e1,e⟩:=aq e
 obtain⟨⟨⟨m,t2⟩,S2⟩,e2,e⟩:=aq e
 dsimp only at e
 split at e
 ·rename_i c
  obtain⟨e3,rfl⟩:=bF e
  obtain⟨rfl,rfl⟩:=Prod.mk.inj e3
  refine⟨ρ,Γ,S,l,t1,U,ok,e1,λF a1 a0 H1 s t h1 r1=>⟨F,Γ,U,m,t2,S2,ok.to s t,e2,λa3 b1 ws H2 Z o Q r2=> ?_⟩⟩
  obtain⟨C,J,r3⟩:=h1.to r1 Z o c.1
  refine⟨_,_,a1,b1,C,ws,rfl,J.sqB,Q.sqB,q _ _ _ (s.trans Z) o λi a2 S3 H3 M k w=> ?_⟩
  obtain⟨G,A,L⟩:=J.to r3 M k w.1
  obtain⟨N,Y,g4⟩:=Q.to r2 M k w.2
  refine⟨λd h=> ?_,λhi=>⟨G,A.sqB,?_⟩⟩
  ·unfold uh at h
   rw[List.getElem?_zipWith] at h
   cases r:l[i]? with
   |none=>rw[r] at h;cases h
   | some x=>
     cases B:m[i]? with
     |none=>rw[r,B] at h;cases h
     | some y=>
       rw[r,B] at h
       cases h
       obtain⟨u,I,ru⟩:=L.get r
       obtain⟨z,K,rz⟩:=g4.get B
       refine⟨⟨G,N,u,z,A.sqB,Y.sqB,I,K⟩,λv H4 hv=> ?_⟩
       obtain⟨p,rfl,hp,hq⟩:=hv
       have:=hq G N u z A.sqB Y.sqB I K
       subst this
       exact⟨bB.laid hp,k.lay hp,.tup bx ((aN.cons ru (.cons rz .nil)).ext (bB.laid hp))⟩
  ·rw[hi]
   unfold uh
   rw[List.length_zipWith,L.length.symm]
   have:=c.2
   omega
 ·cases e
end
def p9:D->Option Key
 |.int i=>some (.inl i)
 |.str x=>some (.inr x)
 |_=>none
def nh{M:Md}{ρ:List Addr}{H:Hp}{d:D}{v:V}{k:Key}(r:Rel M ρ H d v)(e:p9 d=some k):v=kV k:=by
 cases r <;>simp[p9] at e <;>subst e <;>rfl
def u0:List D->Option (List Key)
 | []=>some []
 |d::r=>(p9 d).bind λk=>(u0 r).bind λa=>some (k::a)
theorem uB{M:Md}{ρ:List Addr}{H:Hp}:∀{ds:List D} {vs:List V} {a:List Key},aN M ρ H ds vs->u0 ds=some a->vs=a.map kV
 |_,_,_,.nil,e=>by cases e;rfl
 | _,_,_,.cons h hs,e=>by
   obtain⟨k,b,e⟩:=aq e
   obtain⟨a,c,e⟩:=aq e
   cases e
   rw[nh h b,uB hs c]
   rfl
def pM(a:List (Key×D))(k:Key):Option D:=(a.find? λb=>decide (b.1=k)).map (·.2)
def putD(a:List (Key×D))(k:Key)(v:D):List (Key×D):=
 if (a.any λb=>decide (b.1=k))=true then a.map (λb=>if b.1=k then(b.1,v) else b) else a++ [(k,v)]
def bS(a more:List (Key×D)):List (Key×D):=more.foldl (λb c=>putD b c.1 c.2) a
section
variable{M:Md}{ρ:List Addr}{H:Hp}
theorem bA.append:∀{l m:List (Key×D)} {kv kw:List (Key×V)},bA M ρ H l kv->bA M ρ H m kw->bA M ρ H (l++m) (kv++kw)
 | [],_,_,_,h,h'=>by cases h;exact h'
 |(_,_)::_,_,_,_,⟨v,t,e,h,hs⟩,h'=>by subst e;exact⟨v,_,rfl,h,bA.append hs h'⟩
theorem bA.any:∀{l:List (Key×D)} {kv:List (Key×V)} (k:Key),bA M ρ H l kv->(l.any λp=>decide (p.1=k))=kv.any λp=>decide (p.1=k)
 | [],_,_,h=>by cases h;rfl
 |(_,_)::_,_,k,⟨v,t,e,h,hs⟩=>by subst e;simp only[List.any_cons,bA.any k hs]
theorem bA.mapP{d:D}{v:V}{k:Key}(r:Rel M ρ H d v):∀{l:List (Key×D)} {kv:List (Key×V)},bA M ρ H l kv->bA M ρ H (l.map λp=>if p.1=k then(p.1,d) else p) (kv.map λp=>if p.1=k then(p.1,v) else p)
 | [],_,h=>by cases h;rfl
 | (k',_)::_,_,⟨u,t,e,h,hs⟩=>by
   subst e
   simp only[QDq]
   by_cases c:k'=k
   · simp only[c,if_true];exact⟨v,_,rfl,r,bA.mapP r hs⟩
   · simp only[c,if_false];exact⟨u,_,rfl,h,bA.mapP r hs⟩
def bA.put{l:List (Key×D)}{kv:List (Key×V)}{k:Key}{d:D}{v:V}(h:bA M ρ H l kv)(r:Rel M ρ H d v):bA M ρ H (putD l k d) (putK kv k v):=by
 unfold putD putK
 rw[h.any k]
 split
 ·exact h.mapP r
 ·exact h.append ⟨v,[],rfl,r,rfl⟩
theorem bA.merge:∀{m:List (Key×D)} {kw:List (Key×V)} {l:List (Key×D)} {kv:List (Key×V)},bA M ρ H m kw->bA M ρ H l kv->bA M ρ H (bS l m) (g_ kv kw)
 | [],_,_,_,h,h'=>by cases h;exact h'
 | (k,d)::m,_,_,_,⟨v,t,e,h,hs⟩,h'=>by
   subst e
   unfold bS g_
   rw[List.foldl_cons,List.foldl_cons]
   exact bA.merge (m:=m) (kw:=t) hs (h'.put h)
theorem bA.zip:∀{a:List Key} {ds:List D} {vs:List V},aN M ρ H ds vs->bA M ρ H (a.zip ds) (a.zip vs)
 | [],_,_,_=>rfl
 |_::_,_,_,.nil=>rfl
 |k::a,_,_,.cons h hs=>⟨_,_,rfl,h,bA.zip hs⟩
theorem bA.val:∀{l:List (Key×D)} {kv:List (Key×V)} {k:Key} {d:D},bA M ρ H l kv->pM l k=some d->∃v,l7 kv k=some v/\Rel M ρ H d v
 | [],_,_,_,_,e=>by cases e
 | (k',d')::_,_,k,d,⟨v,t,e,h,hs⟩,e'=>by
   subst e
   unfold pM at e'
   unfold l7
   rw[List.find?_cons] at e'⊢
   by_cases c:k'=k
   · simp only[c,decide_true] at e'⊢
     cases e'
     exact⟨v,rfl,h⟩
   · simp only[c,decide_false] at e'⊢
     exact bA.val hs e'
def bA.ext'{a:List Addr}{b:Hp}{l:List (Key×D)}{kv:List (Key×V)}(h:bA M ρ H l kv)(e:bB ρ H a b):bA M a b l kv:=h.imp λ_ _ r=>r.ext e
def bA.pre'{a:List Addr}{l:List (Key×D)}{kv:List (Key×V)}(h:bA M ρ H l kv)(e:ρ <+: a):bA M a H l kv:=h.imp λ_ _ r=>r.pre e
end
section
variable{X:Cx}{a b c e:Expr}{pos:Pos}{st:Stmt}
def E8{M:Md}{ρ d:List Addr}{H h:Hp}{n:aC}{l:List (Key×D)}{kv:List (Key×V)}{p:Addr}{Q:VK}(x:bB ρ H d h)(st:dS M d n h)(j:h p=none)(r:bA M d h l kv)
  (q:∀f v g,bB ρ H f g->dS M f (n++ [.dct l]) g->Rel M f g (.ref n.length) v->Q v g):Q (.ref p) (upd h p (.dK kv)):=by
 have s:p∉d:=fK x st j
 have k:bB d h d (upd h p (.dK kv)):=bB.laid j
 have m:=(st.lay (u:=.dK kv) j).box (o:=.dct l) s ⟨kv,bx,(r.ext' k).pre' (List.prefix_append _ _)⟩
 refine q (d++ [p]) (.ref p) _ ⟨x.pre.trans (List.prefix_append _ _),λc i=> ?_,(x.trans k).keep,(x.trans k).grow⟩ m (.ref ?_)
 ·rcases mQa.mp i with i|i
  ·exact x.new c i
  ·rw[Qfq] at i;subst i;exact .inr (x.grow _ j)
 ·rw[←st.len,QQq (Qmq _)]
  simp
open Classical in
def EM(f g:dU):aV:=λh S=>(f h S).bind λ(p,i)=>(g h i).bind λ(r,d)=>if p.2.stays d p.1/\p.1.length=r.1.length then(u0 p.1).bind λj=>some (.ref d.length,d++ [.dct (bS [] (j.zip r.1))]) else none
def ES{W j c1 n:Pos}{f g:dU}(hc:X.calm=true)(k:Gl X "dict")(s:X.mg "dict"=none)(hg:Gl X "zip")(L:X.mg "zip"=none)(N:PE X a (tQ (md X) f))(K:PE X b (tQ (md X) g))(w:starEach [a,b] X.env= [(false,eval a X.env),(false,eval b X.env)]:=by rfl)(h:starEach [b] X.env= [(false,eval b X.env)]:=by rfl)
  (he:starEach [Expr.Call (.Name "zip" j) [a,b] [] n] X.env= [(false,eval (Expr.Call (.Name "zip" j) [a,b] [] n) X.env)]:=by rfl):
  PE X (.Call (.Name "dict" W) [.Call (.Name "zip" j) [a,b] [] n] [] c1) (tD (md X) (EM f g)):=jo (vM hc k s hg L (c9 N (c9 K fV h) (by rw[w,h])) w h he) λσ H Q ⟨G,B,S,d,S',ok,e,q⟩=>by
 obtain⟨⟨⟨m,F⟩,u⟩,I,e⟩:=aq e
 obtain⟨⟨⟨o,R⟩,C⟩,e2,e⟩:=aq e
 dsimp only at e
 split at e
 ·rename_i c
  obtain⟨U,e3,e⟩:=aq e
  obtain⟨rfl,rfl⟩:=bF e
  refine⟨G,B,S,m,F,u,ok,I,λt a1 Y H1 y r h1 P=>⟨t,B,u,o,R,C,ok.to y r,e2,λa0 b1 ws H2 A i Z x=> ?_⟩⟩
  obtain⟨J,h3,v⟩:=h1.to P A i c.1
  have ek:=uB v e3
  subst ek
  have z:=v.length
  rw[lQm] at z
  refine⟨_,_,a1,b1,U,ws,rfl,h3.sqB,Z.sqB,by rw[←z,←x.length];exact c.2,λp M=> ?_⟩
  exact E8 (y.trans A) i M (bA.merge (l:= []) (bA.zip x) rfl) q
 ·cases e
def Hn:aV:=λ_ S=>some (.ref S.length,S++ [.dct []])
def Ip:PE X (.Dict [] [] pos) (tD (md X) Hn):=jo zY λi H Q g=>by
 obtain⟨h,k,S,d,j,ok,e,q⟩:=g
 obtain⟨rfl,rfl⟩:=bF e
 exact λp f=>E8 bB.refl ok.st f (l:= []) (kv:= []) rfl q
def F_(f g:aV):aV:=λi S=>(f i S).bind λ(x,m)=>(g i m).bind λ(y,h)=>match x with
 | .ref k=>match h[k]? with
   |some (.dct l)=>(p9 y).bind λj=>(pM l j).bind λd=>some (d,h)
   |_=>none
 |_=>none
def HL{f g:aV}(I:X.A.units+1<cLine)(j:PE X a (tD (md X) f))(B:PE X b (tD (md X) g))(i:B3 b):PE X (.Subscript a b pos) (tD (md X) (F_ f g)):=jo (CA I j B i) λσ H Q P=>by
 obtain⟨w,t,S,d,S',ok,e,q⟩:=P
 obtain⟨⟨x,p⟩,z,e⟩:=aq e
 obtain⟨⟨y,u⟩,N,e⟩:=aq e
 cases x with
 | ref k=>
   dsimp only at e
   split at e
   · rename_i l i
     obtain⟨Z,J,e⟩:=aq e
     obtain⟨d',L,e⟩:=aq e
     obtain⟨rfl,rfl⟩:=bF e
     refine⟨w,t,S,_,p,ok,z,λo W H1 r n m=>⟨o,t,p,y,u,ok.to r n,N,λM U H2 s h C=> ?_⟩⟩
     cases nh C J
     have m:=m.ext s
     cases m with
     | ref j=>
       obtain⟨Y,G,F⟩:=h.obj k _ _ j i
       obtain⟨v,K,R⟩:=F.val L
       exact⟨_,v,rfl,by rw[←K];exact yy.k G,q _ _ _ (r.trans s) h R⟩
   · cases e
 |_=>cases e
def GV(f g h:aV):cy:=λi S=>(h i S).bind λ(d,o)=>(f i o).bind λ(x,m)=>(g i m).bind λ(y,j)=>match x with
 | .ref k=>match j[k]? with
   |some (.dct l)=>(p9 y).bind λn=>if l.length<sizeLine then some (.nx i (j.set k (.dct (putD l n d)))) else none
   |_=>none
 |_=>none
mutual
theorem Rel.offK{M:Md}{ρ:List Addr}{H:Hp}{b:Addr}{g:List (Key×V)}{o:HO}(f:H b=some (.dK g)):∀{d:D} {v:V},Rel M ρ H d v->Rel M ρ (upd H b o) d v
 |_,_,.non=>.non
 |_,_,.bl x=>.bl x
 |_,_,.int i=>.int i
 |_,_,.str x=>.str x
 |_,_,.tup h hs=>.tup (by rw[aO (A6 h f (by intro z;cases z))];exact h) (aN.offK f hs)
 |_,_,.ref h=>.ref h
 |_,_,.fn h=>.fn h
theorem aN.offK{M:Md}{ρ:List Addr}{H:Hp}{b:Addr}{f:List (Key×V)}{o:HO}(d:H b=some (.dK f)):∀{ds:List D} {vs:List V},aN M ρ H ds vs->aN M ρ (upd H b o) ds vs
 |_,_,.nil=>.nil
 |_,_,.cons h hs=>.cons (Rel.offK d h) (aN.offK d hs)
end
def dS.putKd{M:Md}{ρ:List Addr}{S:aC}{H:Hp}{k:Nat}{a:Addr}{l f:List (Key×D)}{kw:List (Key×V)}(st:dS M ρ S H)(i:ρ[k]?=some a)(h:S[k]?=some (.dct l))(r:bA M ρ H f kw):dS M ρ (S.set k (.dct f)) (upd H a (.dK kw))/\bB ρ H ρ (upd H a (.dK kw)):=by
 obtain⟨j,g,m⟩:=st.obj k a _ i h
 exact st.put i h ⟨kw,bx,r.imp λ_ _ q=>q.offK g⟩ λx d=>by rw[g] at d;cases d;exact id
def Hk{f g h:aV}{i:Pos}{v:Expr}(Z:X.A.units+1<cLine)(r:PE X a (tD (md X) f))(R:PE X b (tD (md X) g))(W:PE X v (tD (md X) h))(p:swapsWith v (some (.Subscript a b i)) pos.line X.env=pure false:=by rfl):PS X (.Assign [.Subscript a b i] v pos) (tS (md X) (GV f g h)):=
 y0 (CJ Z r R W p) λD σ H qq=>by
  obtain⟨N,I,S,o,ok,e,q⟩:=qq
  obtain⟨⟨d,K⟩,P,e⟩:=aq e
  obtain⟨⟨x,J⟩,e2,e⟩:=aq e
  obtain⟨⟨y,S3⟩,e3,e⟩:=aq e
  cases x with
  | ref k=>
    dsimp only at e
    split at e
    · rename_i l p
      obtain⟨U,e4,e⟩:=aq e
      split at e
      · rename_i hl
        cases e
        refine⟨N,I,S,d,K,ok,P,λG v1 H1 u n z=>⟨G,I,K,_,J,ok.to u n,e2,λF v2 H2 C B t=>⟨F,I,J,y,S3,(ok.to u n).to C B,e3,λa0 v3 H3 w j Q=> ?_⟩⟩⟩
        cases nh Q e4
        have t:=t.ext w
        have z:=z.ext (C.trans w)
        have m:=(u.trans C).trans w
        cases t with
        | ref r=>
          obtain⟨kv,Y,M⟩:=j.obj k _ _ r p
          obtain⟨s,L⟩:=j.putKd r p (M.put (k:=U) z)
          exact⟨_,_,rfl,AZ.k Y (by rw[←M.length];exact hl),q _ _ _ (m.trans L) ((ok.to m j).to L s)⟩
      · cases e
    · cases e
  |_=>cases e
open Classical in
def EE(f:dU)(g:aV):aV:=λh S=>(f h S).bind λ(p,k)=>if p.2.isL=true then(g h k).bind λ(y,d)=>if p.2.stays d p.1 then(pQ y).bind λv=>(iy p.1).bind λi=>(kO v i).bind λj=>some (.int (j:Nat),d) else none else none
def GM{f:dU}{g:aV}{o:Expr}{i h:Pos}(N:PE X o (tQ (md X) f))(U:PE X e (tD (md X) g))(l:attributeBase o "index" X.env (eval o X.env)=eval o X.env:=by rfl) (n:((backTo h (starEach [e] X.env)).all (λx=> !x.1)&&(backToKw h (keywordEach [] X.env)).all (λx=>x.1.isSome)
   &&decide ([e].length+([]:List Keyword).length+(if ([]:List Keyword).isEmpty then 0 else 1)<30))=true:=by rfl)
  (k:(i.endLine==h.line)=true:=by rfl) (z:starEach [e] X.env= [(false,eval e X.env)]:=by rfl):PE X (.Call (.Attribute o "index" i) [e] [] h) (tD (md X) (EE f g)):=
 jo (pI PySem.F.plainAttrs_list PySem.F.slot_list_index PySem.F.type_list_index Bi N (eM U kK z) l n k z) λσ H Q qq=>by
  obtain⟨L,J,S,d,S',ok,e,q⟩:=qq
  obtain⟨⟨⟨Z,t⟩,w⟩,M,e⟩:=aq e
  dsimp only at e
  split at e
  ·rename_i G
   obtain⟨⟨y,K⟩,e2,e⟩:=aq e
   dsimp only at e
   split at e
   ·rename_i cS
    obtain⟨v,C,e⟩:=aq e
    obtain⟨vs,e4,e⟩:=aq e
    obtain⟨j,W,e⟩:=aq e
    obtain⟨rfl,rfl⟩:=bF e
    refine⟨L,J,S,Z,t,w,ok,M,λu a us H1 A r B Y=>⟨.inl ⟨rfl,us,B.sqL G⟩,u,J,w,[y],K,ok.to A r,by simp only[ar,ax,e2,Qbq],λa0 ws H2 I m p=> ?_⟩⟩
    obtain⟨s,h3,P⟩:=B.to Y I m cS
    cases p with
    | cons p R=>
      cases R
      cases gN p C
      obtain⟨rfl,f1⟩:=iZ P e4
      exact⟨a,s,_,j,rfl,rfl,h3.sqL G,iJ C,f1,W,q _ _ _ (A.trans I) m (.int _)⟩
   ·cases e
  ·cases e
end
section
variable{X:Cx}{a b c e:Expr}{pos:Pos}{st:Stmt}
def Hc:V->List V->Hp->VK->Prop:=λx g H Q=>∃a b f d,x=.ref a/\g= [.ref b]/\a≠b/\H a=some (.dK f)/\H b=some (.dK d)/\f.length+d.length<=sizeLine/\Q .non (upd H a (.dK (g_ f d)))
def yN:G8 X "dict.update" Hc:=by
 intro n s L H x G v K Q I t B h
 obtain⟨a,b,k,i,rfl,rfl,ab,ha,hb,hz,q⟩:=h
 cases t
 obtain⟨u,rfl,ru⟩:=B.one
 cases ru
 obtain⟨z,A,y,f,m⟩:=xX I.hok ha
 obtain⟨M,l,p,d,j⟩:=xX I.hok hb
 refine call_meetsIn PySem.F.slot_dict_update m.typeIs PySem.F.entry_dict_update (PySem.F.args_dict_update_2 _ _) (meets_dict_update (bg X.prog X.w) a b ab l) ⟨y,p,m,j,by rw[←f.length,←d.length];exact hz,λo g _ r=> ?_⟩
 have C:∃q,o.get? a=some q:=let ⟨q,_,_,hq,_⟩:=g;⟨q,hq⟩
 have J:=fZ i k
 exact⟨.non,_,ni I (by rw[ha];exact True.intro) r C (oH (by omega) A (KV.merge d f) g),rfl,q⟩
def BP(f g:aV):aV:=λi S=>(f i S).bind λ(x,h)=>(g i h).bind λ(y,d)=>match x,y with
 | .ref k,.ref j=>if k≠j then match h[k]?,d[k]?,d[j]? with
   |some (.dct _),some (.dct l),some (.dct m)=>if l.length+m.length<=sizeLine then some (.non,d.set k (.dct (bS l m))) else none
   |_,_,_=>none
   else none
 |_,_=>none
def Gr{f g:aV}{o:Expr}{n h:Pos}(ho:PE X o (tD (md X) f))(w:PE X e (tD (md X) g))(s:attributeBase o "update" X.env (eval o X.env)=eval o X.env:=by rfl) (u:((backTo h (starEach [e] X.env)).all (λx=> !x.1)&&(backToKw h (keywordEach [] X.env)).all (λx=>x.1.isSome)
   &&decide ([e].length+([]:List Keyword).length+(if ([]:List Keyword).isEmpty then 0 else 1)<30))=true:=by rfl)
  (r:(n.endLine==h.line)=true:=by rfl) (P:starEach [e] X.env= [(false,eval e X.env)]:=by rfl):PE X (.Call (.Attribute o "update" n) [e] [] h) (tD (md X) (BP f g)):=
 jo (pI PySem.F.plainAttrs_dict PySem.F.slot_dict_update PySem.F.type_dict_update yN ho (eM w kK P) s u r P) λσ H Q qq=>by
  obtain⟨ρ,Z,S,d,S',ok,e,q⟩:=qq
  obtain⟨⟨x,G⟩,e1,e⟩:=aq e
  obtain⟨⟨y,B⟩,e2,e⟩:=aq e
  cases x with
  | ref k=>
    cases y with
    | ref j=>
      dsimp only at e
      split at e
      · rename_i ne
        cases K:G[k]? with
        |none=>rw[K] at e;cases e
        | some o1=>
          rw[K] at e
          cases o1 with
          | dct l0=>
            cases A:B[k]? with
            |none=>rw[A] at e;cases e
            | some o2=>
              rw[A] at e
              cases o2 with
              | dct l=>
                cases L:B[j]? with
                |none=>rw[L] at e;cases e
                | some o3=>
                  rw[L] at e
                  cases o3 with
                  | dct m=>
                    dsimp only at e
                    split at e
                    · rename_i hl
                      obtain⟨rfl,rfl⟩:=bF e
                      refine⟨ρ,Z,S,_,G,ok,e1,λM v H1 U t r1=> ?_⟩
                      cases r1 with
                      | ref w=>
                        rename_i a
                        obtain⟨C,g0,_⟩:=t.obj k a _ w K
                        refine⟨.inr (.inr (.inl ⟨rfl,.inl ⟨C,g0⟩⟩)),M,Z,G,[.ref j],B,ok.to U t,by simp only[ar,ax,e2,Qbq],λa0 ws H2 W i I=> ?_⟩
                        cases I with
                        | cons I rr=>
                          cases rr
                          cases I with
                          | ref R=>
                            rename_i b
                            have p:=bT W.pre w
                            obtain⟨kv,g1,Y⟩:=i.obj k a _ p A
                            obtain⟨kw,g3,N⟩:=i.obj j b _ R L
                            have ab:a≠b:=λz=>by subst z;exact ne (iA i.nd p R)
                            obtain⟨J,x3⟩:=i.putKd p A (bA.merge N Y)
                            exact⟨a,b,kv,kw,rfl,rfl,ab,g1,g3,by rw[←Y.length,←N.length];exact hl,q _ _ _ ((U.trans W).trans x3) J .non⟩
                    · cases e
                  |_=>cases e
              |_=>cases e
          |_=>cases e
      · cases e
    |_=>cases e
  |_=>cases e
end
end DL
namespace L2
open PySem PySem.Spec PyProof.Rows
section
variable{prog:Program}{w:World}{A:Around}{s:Shared}
def qd{F G a g:Expr}{q:List Expr}{d:Scope}{pos:Pos}{it:Value}{D:Addr}{env:Env}{R:Result->Shared->Prop}(I:Nat->Shared->Prop)
  (z:∀n s,I n s->wpAny (model prog w) A (pyNext it) (λr f=>match r with
   |none=>R (.ok .next) f
   |some v=>wpAny (model prog w) A (letOwnedTupleGo a it v) (λ_ e=>wpAny (model prog w) A (assign a env v) (λ_ i=>
     wpAny (model prog w) A (forIn q true λc r=>if r=true then do let ok←isTrue c env (eval c env);pure (ForInStep.yield ok) else pure (ForInStep.yield r)) (λok s₃=>
      if ok=true then wpAny (model prog w) A (eval F env) (λx k=>wpAny (model prog w) A (eval G env) (λy o=>
       wpAny (model prog w) A (dictSet D x y) (λ_ j=>∃m,m<n/\I m j) (λ_ _=>False) o) (λ_ _=>False) k) (λ_ _=>False) s₃
      else∃m,m<n/\I m s₃) (λ_ _=>False) i) (λ_ _=>False) e) (λ_ _=>False) f) (λ_ _=>False) s)
  (n:Nat) (h:I n s):codeAny (model prog w) A (.compLoop (.DictComp F G [⟨a,g,q,0⟩] d pos) 0 it (.ref D) env) R s:=by
 refine codeAny_loop rfl I (λn s H=> ?_) n h
 show wpAny _ A ((compTurn (.DictComp F G [⟨a,g,q,0⟩] d pos) 0 it (.ref D) env).onRaise (λx=>do noteFrame x env;theTreesLotGoes x)) _ _ s
 refine wpAny_noted ?_
 rw[compTurn_dict]
 refine Qaq (wpAny_standAt (Qaq (QRq (z n s H) (λr f l=> ?_) λ_ _ b=>b.elim)))
 cases r with
 |none=>exact Qgq l
 | some v=>
   refine Qaq (QRq l (λ_ e p=> ?_) λ_ _ b=>b.elim)
   refine Qaq (QRq p (λ_ i C=>Qaq (QRq C (λok s₃ h₃=> ?_) λ_ _ b=>b.elim)) λ_ _ b=>b.elim)
   cases ok with
   |false=>exact Qgq ⟨rfl,h₃⟩
   | true=>
     exact Qaq (Qaq (QRq h₃ (λx k u=>Qaq (QLq (QRq u (λy o t=>Qaq (wpAny_standAt (QLq (QRq t (λ_ j B=>Qgq ⟨rfl,B⟩) λ_ _ b=>b.elim)))) λ_ _ b=>b.elim))) λ_ _ b=>b.elim))
end
def DX(J:It)(g:TG)(p:TT)(o r:TE)(Q:VK)(D:Addr)(q:St)(H:Hp):Prop:=
 ∃ W:Nat->Nat->St->Hp->Prop,(∃m,W 0 m q H)/\∀i m d f,W i m d f→
   (J.stop i f/\Q (.ref D) f)\/(J.go i f/\∃h:St->Hp->Prop,(∀b e,h b e->∃l,l<m/\W (i+1) l b e)∧
     ∀ x H2,J.yld i f x H2->g x d H2 λa H3=>p a H3 λok H4=>
       if ok=true then o a H4 λk H5=>r a H5 λy n=>∃c j,k=kV j/\n D=some (.dK c)/\c.length<sizeLine/\h a (upd n D (.dK (putK c j y))) else h a H4)
def z3(js:List (Option Nat))(b:TI)(g:TG)(d:TT)(c e:TE):TE:=λa H Q=>b a H λJ H1=>∀D,H1 D=none->DX J g d c e Q D (g9 js a) (upd H1 D (.dK []))
def AB{X:Cx}{N:List Str}{js:List (Option Nat)}{a:Scope}{Z:List (Str×Addr)}{tg Q kx vx G:Expr}{b0:List Expr}{pos b1:Pos}{wi:TI}{g gt:TG}{tt:TT}{tk tv:TE}
  (S:aR X N js a Z) (hc:X.calm=true) (hi:PI X tg Q wi)
  (hg:∀C s H fp,PG (aD X N a Z C s H fp) tg g) (ht:∀C s H fp,jH (aD X N a Z C s H fp) b0 tt) (hk:∀C s H fp,PE (aD X N a Z C s H fp) kx tk) (hv:∀C s H fp,PE (aD X N a Z C s H fp) vx tv) (d5:PG X G gt)
  (hs:∀x,foldedSetIterable Q X.env x=pure x:=by intro _;rfl) (e5:swapsWithSole [G] (.DictComp kx vx [⟨tg,Q,b0,0⟩] a pos) b1.line X.env=pure true:=by rfl)
  (h1:(assignEach [G] X.env).map (·.2)= [assign G X.env]:=by rfl):PS X (.Assign [G] (.DictComp kx vx [⟨tg,Q,b0,0⟩] a pos) b1) (ze (z3 js wi g tt tk tv) gt):=by
 intro a0 s σ H Dn I h
 rw[exec_Assign_arm]
 refine Qaq (wpAny_standAt (Qaq (wpAny_of_eq e5 (wpAny_ite_true rfl (Qaq ?_)))))
 rw[h1]
 show wpAny _ _ (do let _←comprehension _ _ _ _ _ _ _ (some λv=>assignAll v [assign G X.env]);pure ()) _ _ _
 refine Qaq ?_
 refine wpAny_comprehension_free (use:=some λv=>assignAll v [assign G X.env]) rfl hs S.clos S.kind S.names (bP (hi a0 s σ H _ I h) λv s1 h1=>bP h1 λe7 t h2=> ?_)
 obtain⟨it,fp,tn,J,H2,e,F,T,b4,f2,hD⟩:=h2
 subst e
 refine QhQ (wpAny_newFunctionEnv S.nocell (by intro y hy;simp at hy) (λP M B=> ?_) S.kind)
 dsimp only at M B⊢
 generalize a6:t.heap.push {cls:=.type "dict",data:=.dict #[]}=P2 at M B⊢
 have hC:P2.objs.size=t.heap.objs.size+1:=by rw[←a6,Heap.size_push]
 have b6:t.heap.objs.size≠P2.objs.size:=by rw[hC];exact Qwq (Nat.lt_succ_self _)
 have a2:t.heap.objs.size<=P2.objs.size:=by rw[hC];exact Nat.le_succ _
 have L:∀b,b<t.heap.objs.size->b≠P2.objs.size:=λb f=>by rw[hC];exact Qwq (Nat.lt_succ_of_lt f)
 have a1:∀b o,t.heap.get? b=some o->P.get? b=some o:=λb o e=>B.extBut b o (L b (Qiq e)) (Qcq _ (a6▸Qcq _ e))
 have e6:P.get? t.heap.objs.size=some {cls:=.type "dict",data:=.dict #[]}:=B.extBut _ _ b6 (Qcq _ (a6▸Qrq _ rfl))
 have nD:H2 t.heap.objs.size=none:=F.fresh
 have nC:H2 P2.objs.size=none:=F.hok.fresh a2
 have b3:∀b∈fp,b<t.heap.objs.size:=λb f=>by
  obtain⟨o,e,_⟩:=T.obj _ _ b4 b f
  exact Qiq e
 obtain⟨W,⟨m0,w0⟩,c0⟩:=hD t.heap.objs.size nD
 have b8:(aD X N a Z P2.objs.size t H2 fp).Ok:=by
  refine⟨F.ok.mod,S.kind,F.ok.glob,F.ok.blt,a2,λx y c h1 h2=>F.ok.inj x y c (S.sub x c h1) (S.sub y c h2),S.has,(λx c h=>by cases h),F.ok.hd,F.ok.frames,.inl rfl,
   λb f=>⟨L b (b3 b f),λx c h=>(f2 b f).2.2.2.2.1 x c (S.sub x c h)⟩,F.bs,QAq F.ok.bsz F.sz,λb o e f=> ?_,λb f z=> ?_,F.stack,F.stkFree⟩
  ·rcases(f2 b f).2.2.2.1 with z|z
   ·exact F.ok.noex b o e z
   ·exact absurd (Qqq (Qqq (Qiq e) F.ok.bsz) z) (Nat.lt_irrefl _)
  ·rcases Qsq.mp (F.stkSub b z) with q|q
   ·exact(f2 b f).2.1 q
   ·exact(f2 b f).2.2.1 q
 have d1:b9 X.prog X.w (upd H2 t.heap.objs.size (.dK [])) P t.heap.objs.size (.dK []):=by
  obtain⟨o,es,ep,e1,e2⟩:=Heap.DictOf.new (knd:=bg X.prog X.w) t.heap
  exact oH (Nat.zero_le _) (beq_eq_false_iff_ne.mpr (Ne.symm (Qwq F.big))) .nil ⟨o,es,ep,B.extBut _ _ b6 (Qcq _ (a6▸e1)),e2⟩
 have I4:Inv (aD X N a Z P2.objs.size t H2 fp) [] (g9 js σ) (upd H2 t.heap.objs.size (.dK [])) {t with heap:=P,toks:=t.toks+([]:List (Str×Value)).length}:=by
  refine⟨b8,rfl,F.bare,Un.laid a1 (Qmq _) nD,⟨_,M,λi x v h1 h2 h3=> ?_⟩,λx c h=> ?_,by show upd H2 _ _ P2.objs.size=none;rw[aO b6.symm];exact nC,λx c h=> ?_,λp hp=>absurd (show p∈([]:List (Addr×Obj)) from hp) (by simp),F.hok.laid a1 (Qmq _) d1,by show(g9 js σ).length=N.length;unfold g9;rw[lQm];exact S.len⟩
  ·unfold g9 at h2
   rw[gQm] at h2
   cases e:js[i]? with
   |none=>rw[e] at h2;cases h2
   | some o=>
     rw[e] at h2
     cases o with
     |none=>cases h2
     | some j=>
       have a3:σ.getD j none=some v:=QdQ h2
       have hj:σ[j]?=some (some v):=by
         rw[Qlq] at a3
         cases q:σ[j]? with
         |none=>rw[q] at a3;cases a3
         |some y=>rw[q] at a3;exact congrArg some a3
       obtain⟨c1,c2,c3⟩:=S.cap i j x e h1
       obtain⟨m,hn,hl⟩:=F.loc
       have e0:C2 X.env.scope x:=by
         rcases c2 with z|z
         · exact .inr (.inl z)
         · exact .inr (.inr z)
       obtain⟨u,r,l⟩:=hl j x v c1 hj e0
       refine⟨u,r,.inr ⟨c3,?_⟩⟩
       obtain⟨c,d2⟩:=S.has x c3
       refine⟨c,d2,?_⟩
       rcases l with⟨z,_⟩|⟨_,c',e',z⟩
       · rcases c2 with y|y <;>rw[y] at z <;>cases z
       · rw[S.sub x c d2] at e'
         cases e'
         obtain⟨o,ho,hd⟩:=z
         exact⟨o,a1 _ _ ho,hd⟩
  ·obtain⟨v,o,ho,hd⟩:=F.cell x c (S.sub x c h)
   exact⟨v,o,a1 _ _ ho,hd⟩
  ·obtain⟨v,o,ho,hd⟩:=F.cell x c (S.sub x c h)
   rw[aO (Qwq (Qiq ho))]
   exact F.freeC x c (S.sub x c h)
 have a5:∀{U:List (Addr×Obj)} {H':Hp},U= []->(∀b∈fp,H' b=none)->∀b∈fp,mh (aD X N a Z P2.objs.size t H2 fp) U H' b:=λ{U H'} ep hn b f=>by
  subst ep
  refine⟨hn b f,L b (b3 b f),λz=>b8.exfs b f z,.inl f,λx c h=>(f2 b f).2.2.2.2.1 x c (S.sub x c h),λp hp=>absurd (show p∈([]:List (Addr×Obj)) from hp) (by simp)⟩
 have b2:codeAny (model X.prog X.w) X.A (.compLoop (.DictComp kx vx [⟨tg,Q,b0,0⟩] a pos) 0 (.ref it) (.ref t.heap.objs.size) (compEnvC a Z P2.objs.size X.env))
   (compPost (model X.prog X.w) X.A X.xe (some λv=>assignAll v [assign G X.env]) (λ_ s9=>wpAny (model X.prog X.w) X.A (pure ()) (λ_ d9=>wpAny (model X.prog X.w) X.A (pure Flow.next) (SP X a0 Dn) X.xe d9) X.xe s9) (.ref t.heap.objs.size) P2.objs.size) {t with heap:=P,toks:=t.toks+([]:List (Str×Value)).length}:=by
  refine qd (λn s'=>∃i a4 H',Inv (aD X N a Z P2.objs.size t H2 fp) [] a4 H' s'/\tn i s'.heap/\(∀b∈fp,H' b=none)/\W i n a4 H') ?_ m0
   ⟨0,_,_,I4,T.keep _ _ _ b4 λb _ o e=>a1 b o e,λb f=>by rw[aO (Qwq (b3 b f))];exact(f2 b f).1,w0⟩
  rintro n s3 ⟨i,a8,H3,I3,d3,d4,w3⟩
  rcases c0 i n a8 H3 w3 with⟨stop,q⟩|⟨go,Nx,hN,c8⟩
  ·refine bP (T.done (aD X N a Z P2.objs.size t H2 fp) rfl rfl rfl hc i [] s3 a8 H3 _ I3 (a5 rfl d4) d3 stop) λr s4 Y=> ?_
   obtain⟨hr,I5⟩:=Y
   subst hr
   obtain⟨m,hn,_⟩:=id I5.loc
   have d8:∀h',Heap.SameBut P2.objs.size s4.heap h'->Inv X a0 σ H3 {s4 with heap:=h'}:=by
    intro h' R
    have u:=I5.base
    have ne:∀b o,t.heap.get? b=some o->b≠P2.objs.size:=λb o e=>L b (Qiq e)
    refine F.call' (ch:=fp) I5.os ⟨λb o e n f hx=>(R.2 b (ne b o e)).trans (u.keep b o e n f hx),λb o e n f hx=> ?_,u.free,λb o e hx=> ?_,u.tups,u.frzs,u.tbls⟩ (λb ob e=> ?_) I5.bare λb f=>⟨(f2 b f).2.2.2.1,(f2 b f).2.1,(f2 b f).2.2.2.2.1,(f2 b f).2.2.2.2.2⟩
    ·obtain⟨sl,e1⟩:=u.slot b o e n f hx
     exact⟨sl,(R.2 b (ne b o e)).trans e1⟩
    ·obtain⟨o',e1⟩:=u.there b o e hx
     exact⟨o',(R.2 b (ne b o e)).trans e1⟩
    ·refine(I5.hok b ob e).stay (λc w' hc q=>(R.2 c ?_).trans q) (λ_ q=>q) λ_ _ q=>q
     have fC:H3 P2.objs.size=none:=I5.free
     rintro rfl
     rcases hc with z|z
     ·rw[←z,fC] at e;cases e
     ·rw[fC] at z;cases z
   have IX:=d8 s4.heap ⟨rfl,λ_ _=>rfl⟩
   have a9:mh X a0 H3 P2.objs.size:=F.fpOk a2 I5.free
   obtain⟨oC,es,ep,b7,c4,d6⟩:=hn
   have IP:=IX.pinned (fp:= [P2.objs.size]) (λb f=>by rw[Qfq] at f;rw[f];exact a9) (λb f=>by rw[Qfq] at f;rw[f];exact⟨oC,b7,λv=>by rw[c4];simp⟩)
   show wpAny _ _ (assignAll (.ref t.heap.objs.size) [assign G X.env]) _ _ _
   rw[assignAll.eq_2]
   refine bP (d5 _ s4 σ H3 (.ref t.heap.objs.size) (.ref t.heap.objs.size) _ IP rfl q) λ_ s6 Y=> ?_
   obtain⟨K,H6,I6,q6⟩:=Y
   have pC:=I6.pin (P2.objs.size,oC) (Qoq _ (Qoq _ (cu (Qfq.mpr rfl) b7)))
   refine⟨m,⟨oC,es,ep,pC.1,c4,d6⟩,λh' R=>Qgq (Qgq ⟨K,H6,?_,q6⟩)⟩
   exact I6.unpinned.turned (it:=P2.objs.size) (t':=s6.toks) (λb o' f e=>(R.2 b f).trans e) pC.2.1 pC.2.2.1 a9.2.2.2.1 a9.2.2.2.2.1 a9.2.2.2.2.2
  ·refine bP (T.item (aD X N a Z P2.objs.size t H2 fp) rfl rfl rfl hc i [] s3 a8 H3 _ I3 (a5 rfl d4) d3 go) λr s4 Y=> ?_
   obtain⟨u,hr,h4⟩:=Y
   subst hr
   refine bP h4 λ_ s5 Y=> ?_
   obtain⟨x,H5,I5,r5,y5,b5,e4⟩:=Y
   have e3:=I5.pinned (a5 rfl e4) (T.obj _ _ b5)
   refine bP (hg P2.objs.size t H2 fp _ s5 a8 H5 x u _ e3 r5 (c8 x H5 y5)) λ_ s6 Y=> ?_
   obtain⟨K,H6,I6,q6⟩:=Y
   refine bP (ht P2.objs.size t H2 fp _ s6 K H6 _ I6 q6) λok s7 Y=> ?_
   obtain⟨H7,I7,q7⟩:=Y
   have again:∀{s8:Shared} {H8:Hp},Inv (aD X N a Z P2.objs.size t H2 fp) ([]++jY fp s5.heap) K H8 s8->Nx K H8->∃m,m<n/\∃i a4 H',Inv (aD X N a Z P2.objs.size t H2 fp) [] a4 H' s8/\tn i s8.heap/\(∀b∈fp,H' b=none)/\W i m a4 H':=λ{s8 H8} I8 n8=>by
    obtain⟨m',hm,w8⟩:=hN K H8 n8
    refine⟨m',hm,i+1,K,H8,I8.unpinned,T.keep _ _ _ b5 λb f o e=>(I8.pin (b,o) (Qoq _ (Qoq _ (cu f e)))).1,λb f=> ?_,w8⟩
    obtain⟨o,e,d⟩:=T.obj _ _ b5 b f
    exact(I8.pin (b,o) (Qoq _ (Qoq _ (cu f e)))).2.1
   cases ok with
   |false=>exact again I7 q7
   | true=>
     refine bP (hk P2.objs.size t H2 fp _ s7 K H7 _ I7 q7) λkv s8 Y=> ?_
     obtain⟨k,H8,I8,rk,q8⟩:=Y
     refine bP (hv P2.objs.size t H2 fp _ s8 K H8 _ I8 q8) λyv s9 Y=> ?_
     obtain⟨y,H9,I9,ry,d7,ky,ek,hx,hl,n9⟩:=Y
     subst ek
     obtain⟨z,hd,vs,c5,dd⟩:=xX I9.hok hx
     refine wpAny_dictSet_pairs (t_ rk) dd (λh' c6 R=> ?_) (by rw[←c5.length];exact z)
     have he:∃q,h'.get? t.heap.objs.size=some q:=let ⟨q,_,_,hq,_⟩:=c6;⟨q,hq⟩
     have e8:=fL d7 ky y
     exact again (ni I9 (by rw[hx];exact True.intro) R he (oH (by omega) hd (c5.put ky ry) c6)) n9
 exact codeAny_compStart_dict b2 (T.self _ 0 _ _ _ (T.keep _ _ _ b4 λb _ o e=>a1 b o e) b2)
end L2
namespace DL
open PySem PySem.Spec PyProof.Rows L2
section
variable{M:Md}{ρ:List Addr}{H:Hp}{b:Addr}{us:List (Key×V)}{o:HO}
theorem dS.offK{S:aC}(st:dS M ρ S H)(f:H b=some (.dK us))(n:b∉ρ):dS M ρ S (upd H b o):=⟨st.len,st.nd,λk a p h l=>by
 have q:=st.obj k a p h l
 have g:a≠b:=λz=>n (z▸mQg h)
 cases p with
 |lst j=>obtain⟨e,c,d⟩:=q;exact⟨e,by rw[aO g];exact c,d.offK f⟩
 |frz j=>obtain⟨e,o,c,d⟩:=q;exact⟨e,o,by rw[aO g];exact c,d.offK f⟩
 |dct m=>obtain⟨i,c,d⟩:=q;exact⟨i,by rw[aO g];exact c,d.imp λ_ _ r=>r.offK f⟩⟩
def En.offK{c:cN}{a:L2.St}(h:En M ρ H c a)(e:H b=some (.dK us)):En M ρ (upd H b o) c a:=⟨h.len,λi d q=>by obtain⟨v,f,g⟩:=h.get i d q;exact⟨v,f,g.offK e⟩⟩
end
open Classical in
def f_(g:jt)(t:gM)(b c:aV)(W:aC->Prop):List D->cN->aC->List (Key×D)->Option (List (Key×D)×aC)
 | [],Γ,S,acc=>if W S then some (acc,S) else none
 |d ::ds,Γ,S,acc=>if W S then(g d Γ S).bind λ(a,j)=>(t a j).bind λ(k,e)=>
    if k=true then(b a e).bind λ(x,i)=>(c a i).bind λ(y,f)=>(p9 x).bind λh=>if acc.length<sizeLine then f_ g t b c W ds a f (putD acc h y) else none
    else f_ g t b c W ds a e acc
  else none
def mi(js:List (Option Nat))(i:qg)(g:jt)(t:gM)(b c:aV):cN->aC->Option (List (Key×D)×aC):=λa S=>(i a S).bind λ(p,d)=>f_ g t b c p.2 p.1 (k8 js a) d []
def Bx{M:Md}{js:List (Option Nat)}{i:qg}{g:jt}{t:gM}{fk fv:aV}{σ:L2.St}{H:Hp}{Q:VK}{ρ:List Addr}{Γ:cN}{S S':aC}{l:List (Key×D)}(ok:Ok M ρ Γ S σ H)(e:mi js i g t fk fv Γ S=some (l,S'))
  (q:∀b a kv f,bB ρ H b f->dS M b S' f->H a=none->a∉b->f a=some (.dK kv)->bA M b f l kv->Q (.ref a) f):z3 js (tI M i) (tG M g) (tB M t) (tD M fk) (tD M fv) σ H Q:=by
 obtain⟨⟨⟨n,W⟩,S1⟩,e1,e⟩:=aq e
 refine⟨ρ,Γ,S,n,W,S1,ok,e1,λp J H1 x1 X wk D U=> ?_⟩
 have n1:D∉p:=fK x1 X U
 have a9:Ok M p (k8 js Γ) S1 (g9 js σ) (upd H1 D (.dK [])):=⟨((ok.en.ext x1).ext (bB.laid U)).sig js,X.lay U⟩
 refine⟨λi m s f=>m=n.length-i/\i<=n.length/\∃d A R c j,bB p H1 d f/\Ok M d A R s f/\D∉d/\f D=some (.dK j)/\bA M d f c j/\f_ g t fk fv W (n.drop i) A R c=some (l,S'),
  ⟨n.length,by simp,Nat.zero_le _,p,_,S1,[],[],bB.laid U,a9,n1,bx,rfl,e⟩,?_⟩
 rintro i m b4 H2 ⟨rfl,hi,d,A,R,c,j,x2,ok2,n2,hD2,racc,e2⟩
 by_cases I:i<n.length
 ·have hd:n[i]?=some n[i]:=gQe I
  rw[QWq I] at e2
  unfold f_ at e2
  split at e2
  ·rename_i w
   obtain⟨w1,w2⟩:=wk i d R H2 x2 ok2.st w
   obtain⟨go,a2⟩:=w1 _ hd
   refine .inr ⟨go,λs f=>∃b u F c j,bB p H1 b f/\Ok M b u F s f/\D∉b/\f D=some (.dK j)/\bA M b f c j/\f_ g t fk fv W (n.drop (i+1)) u F c=some (l,S'),
    λs f ⟨b,u,F,c,j,h1,h2,h3,h4,h5,h6⟩=>⟨n.length-(i+1),by omega,rfl,I,b,u,F,c,j,h1,h2,h3,h4,h5,h6⟩,λx H3 hy=> ?_⟩
   obtain⟨x3,b1,r3⟩:=a2 x H3 hy
   obtain⟨⟨h,S4⟩,e4,e5⟩:=aq e2
   refine⟨d,A,R,_,h,S4,ok2.to x3 b1,r3,e4,λb0 b3 H4 x4 o=> ?_⟩
   obtain⟨⟨k,S5⟩,e6,e7⟩:=aq e5
   refine⟨b0,h,S4,k,S5,o,e6,λZ H5 Y P=> ?_⟩
   have C:=(x3.trans x4).trans Y
   have G:∀{b f},bB d H2 b f->f D=some (.dK j)/\D∉b:=λ{b f} x=>⟨x.keep _ _ hD2 (.inl n2),λm=>(x.new _ m).elim n2 λz=>by rw[z] at hD2;cases hD2⟩
   dsimp only at e7⊢
   split at e7
   ·rename_i ck
    rw[Qhq ck]
    obtain⟨⟨kx,S6⟩,e8,e9⟩:=aq e7
    obtain⟨⟨y,S7⟩,a1,a8⟩:=aq e9
    obtain⟨kk,a4,N⟩:=aq a8
    refine⟨Z,h,S5,kx,S6,o.to Y P,e8,λa0 kv H6 x6 a3 r6=>⟨a0,h,S6,y,S7,(o.to Y P).to x6 a3,a1,λb2 v H7 x7 a6 r7=> ?_⟩⟩
    have L:=(C.trans x6).trans x7
    obtain⟨B,n7⟩:=G L
    have K:=racc.ext' L
    split at N
    ·rename_i cl
     refine⟨j,kk,nh r6 a4,B,by rw[←racc.length];exact cl,b2,h,S7,putD c kk y,_,(x2.trans L).off U _,⟨(((o.en.ext Y).ext x6).ext x7).offK B,a6.offK B n7⟩,n7,bx,(K.put r7).imp λ_ _ r=>r.offK B,N⟩
    ·cases N
   ·rename_i ck
    rw[Quq ck]
    obtain⟨a5,n5⟩:=G C
    exact⟨Z,h,S5,c,j,x2.trans C,o.to Y P,n5,a5,racc.ext' C,e7⟩
  ·cases e2
 ·have e3:i=n.length:=by omega
  subst e3
  rw[List.drop_length] at e2
  unfold f_ at e2
  split at e2
  ·rename_i w
   obtain⟨rfl,rfl⟩:=bF e2
   obtain⟨w1,w2⟩:=wk n.length d R H2 x2 ok2.st w
   exact .inl ⟨w2 rfl,q d D j H2 (x1.trans x2) ok2.st (x1.grow _ U) n2 hD2 racc⟩
  ·cases e2
def FT(n:Nat)(f:cN->aC->Option (List (Key×D)×aC)):cy:=λb S=>(f b S).bind λ(l,a)=>some (.nx (b.set n (some (.ref a.length))) (a++ [.dct l]))
section
variable{X:Cx}{pos:Pos}
def BE{N:List Str}{js:List (Option Nat)}{c:Scope}{p:List (Str×Addr)}{r d v y f:Expr}{j:List Expr}{i:qg}{g:jt}{t:gM}{B G:aV}{n:Nat}{h:Pos}
  (S:aR X N js c p) (W:X.calm=true) (hi:PI X r d (tI (md X) i))
  (hg:∀C s H fp,PG (aD X N c p C s H fp) r (tG (md X) g)) (ht:∀C s H fp,jH (aD X N c p C s H fp) j (tB (md X) t)) (hk:∀C s H fp,PE (aD X N c p C s H fp) v (tD (md X) B)) (U:∀C s H fp,PE (aD X N c p C s H fp) y (tD (md X) G)) (w:PG X f (kS n))
  (P:∀x,foldedSetIterable d X.env x=pure x:=by intro _;rfl) (z:swapsWithSole [f] (.DictComp v y [⟨r,d,j,0⟩] c pos) h.line X.env=pure true:=by rfl)
  (Y:(assignEach [f] X.env).map (·.2)= [assign f X.env]:=by rfl):PS X (.Assign [f] (.DictComp v y [⟨r,d,j,0⟩] c pos) h) (tS (md X) (FT n (mi js i g t B G))):=
 y0 (AB S W hi hg ht hk U w P z Y) λD σ H qq=>by
  obtain⟨K,Γ,S,o,ok,e,q⟩:=qq
  obtain⟨⟨l,S1⟩,L,e⟩:=aq e
  cases e
  refine Bx ok L λk a M I x A Z R Q J=> ?_
  have u:=A.box (o:=.dct l) R ⟨M,Q,J.pre' (List.prefix_append k [a])⟩
  have F:bB K H (k++ [a]) I:=⟨x.pre.trans (List.prefix_append _ _),λb m=>by
   rcases mQa.mp m with m|m
   ·exact x.new b m
   ·rw[Qfq] at m;subst m;exact .inr Z,x.keep,x.grow⟩
  refine q (k++ [a]) _ I F ⟨((ok.en.ext F).set (.ref ?_)),u⟩
  rw[←A.len,QQq (Qmq _)]
  simp
end
end DL
namespace Zp
open PySem PySem.W PyProof.Rows
end Zp
namespace L2
open PySem PySem.Spec PyProof.Rows
end L2
namespace DL
open PySem PySem.Spec PyProof.Rows L2
end DL
namespace L2
open PySem PySem.Spec PyProof.Rows
end L2
namespace DL
open PySem PySem.Spec L2
def xu{P:Program}{w:World}{K:PySem.W.Frag}{mg:Str->Option Value}{base:Heap}{f:Addr}{d:FuncData}{ps:List Str}{k n:Nat}:aY P w K mg base de k f d ps (dB ⟨K,mg⟩ n λ_ _=>none):=
 {len:=λc H Q E h=>by
   obtain⟨_,_,_,_,_,_,_,_,e,_⟩:=h
   cases e
  run:=λA a s H b g c Q E _ _ _ _ h=>by
   obtain⟨_,_,_,_,_,_,_,_,e,_⟩:=h
   cases e}
end DL
namespace Zq
open PySem PyProof.Rows
def Cp{prog:Program}{w:World}{A:Around}(n:A.handled=none)(t:Bool)(it a:Addr)(f:a≠it)(items:Array Value):
  Draws prog w A it [it,a] items.size (λi v=>items[i]?=some v) (λi h=>It t h it a i/\Sq t h a items) where
 live:=λ_ _ b=>by obtain⟨o,h,_⟩:=b.1.obj;exact⟨o,h⟩
 frame:=λ_ _ _ b j=>⟨b.1.at λo e=>j it (by simp) o e,b.2.at λo e=>j a (by simp) o e⟩
 item:=λi s Q E g b l=>draw b.1 b.2 (v:=items[i]) (by simp[g]) λk c d=>l _ k s.toks (by simp[g]) ⟨c,b.2.ext d.extBut f⟩ d
 done:=λs Q E b m=>xV n b.1 b.2 (by simp) m
def AH{prog:Program}{w:World}{A:Around}(g:A.handled=none)(t:Bool)(it a:Addr)(items:Array Value)(k:Nat)(c:items.size<=k):
  Draws prog w A it [it,a] k (λi v=>items[i]?=some v) (λi h=>i=k/\It t h it a k/\Sq t h a items) where
 live:=λ_ _ b=>by obtain⟨o,h,_⟩:=b.2.1.obj;exact⟨o,h⟩
 frame:=λ_ _ _ b c=>⟨b.1,b.2.1.at λo e=>c it (by simp) o e,b.2.2.at λo e=>c a (by simp) o e⟩
 item:=λi s Q E d b j=>absurd b.1 (Qwq d)
 done:=λs Q E b f=>xV g b.2.1 b.2.2 (by simp[c]) f
abbrev E2(t:Bool)(h:Heap)(a:Addr):Heap:=(H1 t h a).push {cls:=.type "enumerate",data:=.fields #[.none,.bool false,.ref h.objs.size,rawInt 0,.none,.none]}
def vL(t:Bool)(a:Addr)(xs:Array Value):Meets (Builtin.«enumerate.__new__» ⟨[.type "enumerate",.ref a],[]⟩) (λ_ R s=>Sq t s.heap a xs/\R (.ok (.ret (.ref (H1 t s.heap a).objs.size))) {s with heap:=E2 t s.heap a}):=
 .of_wp λj w A R s h=>by
  obtain⟨i,g,d,e,k⟩:=s
  obtain⟨l,h⟩:=h
  have f:=sub_enumerate
  cases t
  ·have b:Heap.IsList (Shared.heap ⟨i,g,d,e,k⟩) a xs:=l
   wp_walk
   refine wpAny_stack_any λm=>Qgq ?_
   split
   ·rename_i c _ _ _ _ _
    cases (c==Value.type "enumerate")
    ·wp_walk using wpAny_pyIter_list b
     exact⟨_,rfl,h⟩
    ·wp_walk using wpAny_pyIter_list b
     exact⟨_,rfl,h⟩
   ·wp_walk using wpAny_pyIter_list b
    exact⟨_,rfl,h⟩
  ·have b:Heap.IsTuple (Shared.heap ⟨i,g,d,e,k⟩) a xs:=l
   wp_walk
   refine wpAny_stack_any λm=>Qgq ?_
   split
   ·rename_i c _ _ _ _ _
    cases (c==Value.type "enumerate")
    ·wp_walk using wpAny_pyIter_tuple b
     exact⟨_,rfl,h⟩
    ·wp_walk using wpAny_pyIter_tuple b
     exact⟨_,rfl,h⟩
   ·wp_walk using wpAny_pyIter_tuple b
    exact⟨_,rfl,h⟩
section
variable{prog:Program}{w:World}{A:Around}{E:Value->Shared->Prop}{s:Shared}
def FV{t:Bool}{a:Addr}{xs:Array Value}{Q:Value->Shared->Prop}(g:Sq t s.heap a xs)
  (q:∀h',IsEnum h' (s.heap.objs.size+1) s.heap.objs.size 0 .none->It t h' s.heap.objs.size a 0->(∀c o,s.heap.get? c=some o->h'.get? c=some o)->Q (.ref (s.heap.objs.size+1)) {s with heap:=h'}):
  wpAny (model prog w) A (call (.type "enumerate") [.ref a]) Q E s:=by
 refine callType_new F.called_enumerate (by decide) (F.typeCall_enumerate_1 _) (F.newCall_enumerate_1 _) (λb=>F.args_object_init_2 b _) F.entry_enumerate_new (vL t a xs) ⟨g,?_⟩
 have e:(H1 t s.heap a).objs.size=s.heap.objs.size+1:=Heap.size_push ..
 have d:(E2 t s.heap a).get? (H1 t s.heap a).objs.size=some _:=Qrq _ rfl
 have f:(E2 t s.heap a).get? s.heap.objs.size=some _:=Qcq _ (Qrq _ rfl)
 refine(?_:_/\_)
 rw[e] at d
 rw[e]
 refine⟨⟨_,d,rfl⟩,q _ d ?_ λc o n=>Qcq _ (Qcq _ n)⟩
 cases t <;>exact⟨_,f,rfl,rfl⟩
end
end Zq
namespace L2
open PySem PyProof.Rows Zq
def IY(K:PySem.W.Frag)(t:Bool)(a:Addr):It:=
  ⟨λi H=>∃b x,tU K t H a b/\b[i]?=some x,
   λi H v c=>∃p,v=.ref p/\H p=none/\∀b x,tU K t H a b->b[i]?=some x->c=upd H p (.tup [.int (i:Nat),x]),
   λi H=>∃b,tU K t H a b/\b.length<=i⟩
def yS{P:Program}{w:World}{K:PySem.W.Frag}{q:List Expr}{x1:Nat}{tp:Pos}{t:Bool}{e it a:Addr}(l:e≠it)(M:a≠e)(F:a≠it):
  Turn P w K (.Tuple q x1 tp) (IY K t a) [e,it] e (λn h=>(∃d,IsEnum h e it (n:Nat) d)/\Zq.It t h it a n) where
 mem:=by simp
 obj:=λn h ⟨⟨d,f⟩,j⟩ c b=>by
  simp at b
  rcases b with rfl|rfl
  ·exact⟨_,f,λv n=>by cases n⟩
  ·exact j.obj
 keep:=λn h h' ⟨⟨d,f⟩,j⟩ k=>⟨⟨d,k e (by simp) _ f⟩,j.at λo e=>k it (by simp) o e⟩
 item:=by
  rintro X m z Q b n i s σ H E I u ⟨⟨d,f⟩,j⟩ N
  subst m z Q
  obtain⟨xs,x,y,C⟩:=N
  obtain⟨g,G,J,_⟩:=I.sq y
  obtain⟨ux,Z,rx⟩:=G.get C
  have Y:∀{c o},s.heap.get? c=some o->c≠s.heap.objs.size:=λe=>Qwq (Qiq e)
  have r:∀c∈[e,it],c≠s.heap.objs.size:=λc b=>by
   obtain⟨oi,e1,_⟩:=j.obj
   simp at b
   rcases b with rfl|rfl
   ·exact Y f
   ·exact Y e1
  have B:n<g.toArray.size:=by
   have:=(gQs.mp Z).1
   simpa using this
  refine wpAny_pyNext_enum_itemD (Cp (A:=X.A.in1) (I.ok.hd b) t it a F g.toArray) f ⟨j,J⟩ B l (by simp[l,Ne.symm M]) λx' h1 U m ho R hT a0 hk=>⟨_,rfl,?_⟩
  obtain rfl:x'=ux:=by
   have:=m
   simp only[List.getElem?_toArray] at this
   rw[Z] at this
   exact(QdQ this).symm
  refine wpAny_letOwnedTupleGo_enum ho λh2 e2 S=> ?_
  have I2:Inv X i σ (upd H s.heap.objs.size (.tup [.int (n:Nat),x])) {s with heap:=h2,toks:=U+1}:=I.turnedNew (t':=U+1) (fp:= [e,it]) u (λc o b p=> ?_) (Qmq _) ?_
  ·refine⟨.ref s.heap.objs.size,_,I2,rfl,⟨s.heap.objs.size,rfl,I.hok.fresh (Qmq _),λa1 x' q1 L=> ?_⟩,⟨⟨_,by simpa using e2⟩,R.1.ext S.extBut (Ne.symm l)⟩,λc b=> ?_⟩
   ·rw[I.sq_inj q1 y] at L
    rw[C] at L
    cases L
    rfl
   ·rw[aO (r c b)]
    exact(u c b).1
  ·simp at b
   exact S.extBut _ _ b.1 (hk c o b.1 b.2 p)
  ·exact⟨by show 2<=_;decide,[_,_],.cons ⟨_,rfl⟩ (.cons rx .nil),_,S.extBut _ _ (λp=>r e (by simp) p.symm) hT,rfl,rfl,0,rfl⟩
 done:=by
  rintro X m z Q b n i s σ H E I u ⟨⟨d,f⟩,j⟩ N
  subst m z Q
  obtain⟨xs,y,C⟩:=N
  obtain⟨g,G,J,_⟩:=I.sq y
  have hl:=G.length
  refine wpAny_pyNext_enum_endD (AH (A:=X.A.in1) (I.ok.hd b) t it a g.toArray n (by simp;omega)) f ⟨rfl,j,J⟩ λh1 r1=>⟨rfl,I.turnedL (t':=s.toks) (fp:= [e,it]) u λc o b p=> ?_⟩
  simp at b
  exact r1 c o b.2 p
 self:=λ_ _ _ _ _ ⟨⟨d,f⟩,_⟩ h=>wpAny_pyIter_enum f h
section
variable{X:Cx}
def FQ(K:PySem.W.Frag)(d:TA):TI:=λe H R=>d e H λc H1=>∃(t:Bool) (a:Addr) (b:List V),c= [.ref a]/\tU K t H1 a b/\R (IY K t a) H1
def Bu{b:List Expr}{v:Nat}{B:Pos}{a:Expr}{n:TA}{p pos:Pos}(A:Gl X "enumerate")(w:X.mg "enumerate"=none)(y:PA X [a] n)(u:starEach [a] X.env= [(false,eval a X.env)]:=by rfl):
  PI X (.Tuple b v B) (.Call (.Name "enumerate" p) [a] [] pos) (FQ X.K n):=by
 intro d s J H R I h
 refine Call_ (iD I A w (by rfl) (PyProof.Rows.callWith_type1 (bP (y pos d s J H _ I h) λU f ⟨P,H1,g,z,C⟩=> ?_) u rfl))
 obtain⟨t,x,S,e,F,q⟩:=C
 subst e
 cases z with
 | cons r M=>
   cases M
   cases r
   obtain⟨L,Q,l,_⟩:=g.sq F
   have o:=Sq.lt l
   refine Zq.FV l λN j G k=> ?_
   refine wpAny_pyIter_enum j ⟨_,_,_,_,H1,rfl,g.kept (t':=f.toks) k,yS (e:=f.heap.objs.size+1) (it:=f.heap.objs.size) (Nat.succ_ne_self _) (Qwq (Nat.lt_succ_of_lt o)) (Qwq o),⟨⟨_,j⟩,G⟩,λc m=> ?_,q⟩
   have i:f.heap.objs.size<=c:=by
     simp only[Qsq,QXq,or_false] at m
     rcases m with e|e <;>(rw[e];first|exact Qmq _|exact Nat.le_add_right _ _)
   exact g.fpOk i (g.hok.fresh i)
end
end L2
namespace DL
open PySem PySem.Spec L2
def ib(n:Nat):List D->List D
 | []=> []
 |d::ds=>.tup [.int n,d]::ib (n+1) ds
theorem jl:∀{ds:List D} {n i:Nat} {d:D},(ib n ds)[i]?=some d->∃x,ds[i]?=some x/\d=.tup [.int ((n+i:Nat)),x]
 | [],_,_,_,h=>by simp[ib] at h
 | x::ds,n,0,d,h=>by
   simp only[ib,List.getElem?_cons_zero,Option.some.injEq] at h
   exact⟨x,rfl,h.symm⟩
 | x::ds,n,i+1,d,h=>by
   simp only[ib,List.getElem?_cons_succ] at h
   obtain⟨y,a,b⟩:=jl h
   exact⟨y,by simpa using a,by rw[b];congr 3;omega⟩
theorem lz:∀{ds:List D} {n:Nat},(ib n ds).length=ds.length
 | [],_=>rfl
 |_::_,_=>congrArg (·+1) lz
def qG(f:dU):qg:=λb S=>(f b S).bind λ(p,a)=>some ((ib 0 p.1,λS=>p.2.stays S p.1),a)
section
variable{X:Cx}{a:Expr}{pos:Pos}
def Hi{c:List Expr}{h:Nat}{Q p:Pos}{f:dU}(P:Gl X "enumerate")(F:X.mg "enumerate"=none)(I:PE X a (tQ (md X) f))(n:starEach [a] X.env= [(false,eval a X.env)]:=by rfl):
  PI X (.Tuple c h Q) (.Call (.Name "enumerate" p) [a] [] pos) (tI (md X) (qG f)):=GI (Bu P F (c9 I fV n) n) λσ H R ⟨y,Z,S,ds,W,S',ok,e,q⟩=>by
 obtain⟨⟨⟨k,t⟩,B⟩,z,e⟩:=aq e
 obtain⟨N,rfl⟩:=bF e
 obtain⟨rfl,rfl⟩:=Prod.mk.inj N
 refine⟨y,Z,S,k,t,B,ok,z,λa0 Y j H1 h m o J=> ?_⟩
 refine⟨_,Y,j,rfl,o.sqB,q _ _ _ h m λi U S3 H3 G b w=> ?_⟩
 obtain⟨l,g,s⟩:=o.to J G b w
 refine⟨λd L=> ?_,λK=>⟨l,g.sqB,?_⟩⟩
 ·obtain⟨x,A,rfl⟩:=jl L
  obtain⟨u,r,C⟩:=s.get A
  refine⟨⟨l,u,g.sqB,r⟩,λv H4 M=> ?_⟩
  obtain⟨p,rfl,hp,hq⟩:=M
  have:=hq l u g.sqB r
  subst this
  refine⟨bB.laid hp,b.lay hp,.tup bx ((aN.cons ?_ (.cons C .nil)).ext (bB.laid hp))⟩
  rw[Nat.zero_add]
  exact .int _
 ·rw[K,lz,s.length]
  exact Qmq _
end
structure xb(P:Program)(w:World)(K:PySem.W.Frag)(mg:Str->Option Value)(x:Str)(tbl:List (Str×Str)):Prop where
 at_:∃a,mg x=some (.ref a)/\∀h:Heap,K.In h->∃vs,h.DictOf (bg P w) a vs/\∀k nm,tbl.lookup k=some nm->∃f,valueAt vs (Sum.inr k:Key)=some (.ref f)/\mg nm=some (.ref f)
section
variable{X:Cx}{a b c e:Expr}{pos:Pos}
def GY(d:List (Str×Str))(g:aV):aV:=λi S=>(g i S).bind λ(y,h)=>match y with
 |.str x=>(d.lookup x).bind λf=>some (.fn f,h)
 |_=>none
def BI{x:Str}{i:List (Str×Str)}{g:aV}{p:Pos}(hD:xb X.prog X.w X.K X.mg x i)(hg:Gl X x)(M:PE X b (tD (md X) g))(L:B3 b)(hd:(x==("__debug__":Str))=false:=by decide):
  PE X (.Subscript (.Name x p) b pos) (tD (md X) (GY i g)):=by
 rintro j s σ H Q I ⟨t,Γ,S,d,S',ok,e,q⟩
 obtain⟨a,P,hK⟩:=hD.at_
 obtain⟨⟨y,A⟩,G,e⟩:=aq e
 cases y with
 | str z=>
   obtain⟨Y,e2,e⟩:=aq e
   obtain⟨rfl,rfl⟩:=bF e
   refine x9 PySem.F.slot_dict_getitem.lookup L (rD I hg P ?_ hd)
   refine bP (M j s σ H (λv l=>∃h,bB t H h l/\dS (md X) h A l/\Rel (md X) h l (.str z) v) I ⟨t,Γ,S,_,A,ok,G,λh v l x C r=>⟨h,x,C,r⟩⟩) λiv R qr=> ?_
   obtain⟨v,H2,B,rv,h,x2,m,N⟩:=qr
   obtain⟨vs,u,U⟩:=hK _ B.kIn
   obtain⟨f,J,n⟩:=U z Y e2
   cases N
   have ty:R.TypeIs (.ref a) "dict":=by
     obtain⟨o,es,ep,Z,W,h3,_⟩:=u
     exact⟨o,Z,W.1⟩
   refine⟨ty,wpAny_getItem_of (t_ (k:=Sum.inr z) rv) u.mapOf J ?_⟩
   exact⟨.ref f,H2,B.tok _,rfl,q _ _ _ x2 m (.fn n)⟩
 |_=>cases e
def pN(i:Nat)(T:List (Str×cT))(g:fh):aV:=λd S=>match d[i]? with
 |some (some (.fn x))=>(T.lookup x).bind λF=>aB F g d S
 |_=>none
def Bt{i k:Nat}{y:Str}{ps:List Str}{T:List (Str×cT)}{j:List Expr}{g:fh}{p:Pos}(Z:∀x F,T.lookup x=some F->eB X.prog X.w X.K X.mg X.base k x ps F)(hr:dC k X.A)(M:X.N[i]?=some y)(hv:C2 X.env.scope y)
  (ha:PA X (e::j) (uE (md X) g)) (P:nA ps.length g) (z:(y==("__debug__":Str))=false:=by decide) (t:(y==("__classdict__":Str))=false:=by decide) (he:starEach (e::j) X.env=(false,eval e X.env)::starEach j X.env:=by rfl) (hpl:(backTo pos (starEach j X.env)).any (·.1)=false:=by rfl):
  PE X (.Call (.Name y p) (e::j) [] pos) (tD (md X) (pN i T g)):=by
 rintro h s B H Q I ⟨R,Γ,S,d,S',ok,e,q⟩
 unfold pN at e
 split at e
 ·rename_i x U
  obtain⟨F,n,e⟩:=aq e
  obtain⟨f,fd,G,bb,Y,m⟩:=(Z x F n).ex
  obtain⟨v,o,rv⟩:=ok.en.get i _ U
  cases rv with
  | fn hm=>
    have L:(md X).mg x=some (.ref f):=m
    rw[hm] at L
    cases L
    refine wpAny_Call_Name_kw (bP (zx M hv z t h s B H (λJ l=>J=.ref f/\l=H) I ⟨_,o,rfl,rfl⟩) λu s1 qr=> ?_)
    obtain⟨J,l,I1,r1,n,e2⟩:=qr
    subst n e2
    cases (show u=Value.ref f from r1)
    refine PySem.W.callWith_K (h₀:=X.base) I.ok.mod.kin Y (bP (ha pos h s1 B l _ I1 (xB P B l Q ⟨R,Γ,S,d,S',ok,e,q⟩)) λus s2 ⟨vs,H1,C,r,q2⟩=>⟨C.kIn,?_⟩) he hpl
    exact As G hr bb .nil zL C r q2
 ·cases e
end
def vZ(w:World)(x:Str):PyData.keyHash w.params x=hashStr w x:=by
 unfold PyData.keyHash hashStr
 first|rfl|simp
inductive Al(w:World)(mg:Str->Option Value):List DictEntry->List (Str×Str)->Prop
 |nil:Al w mg [] []
 |cons {x nm:Str} {t:Tok} {f:Addr} {es:List DictEntry} {tbl:List (Str×Str)}:mg nm=some (.ref f)->Al w mg es tbl->Al w mg (⟨PyData.keyHash w.params x,.str x t,.ref f⟩::es) ((x,nm)::tbl)
def Al.keys{P:Program}{w:World}{mg:Str->Option Value}{b:List DictEntry}{a:List (Str×Str)}(c:Al w mg b a):∀e∈b,∃k,(bg P w).is k e.key=true/\e.hash=(bg P w).hash k:=by
 induction c with
 |nil=>intro e h;cases h
 | @cons x nm t f b a hm c ih=>
   intro e h
   rcases Qsq.mp h with rfl|h
   · exact⟨Sum.inr x,lV x t,vZ w x⟩
   · exact ih e h
def Al.pairs{P:Program}{w:World}{mg:Str->Option Value}{b:List DictEntry}{a:List (Str×Str)}(d:Al w mg b a):∃vs:List (Key×Value),Pairs (bg P w) b vs/\vs.map (·.1)=a.map (λp=>Sum.inr p.1)∧
  ∀k nm,a.lookup k=some nm->∃f,valueAt vs (Sum.inr k:Key)=some (.ref f)/\mg nm=some (.ref f):=by
 induction d with
 |nil=>exact⟨[],.nil,rfl,λk nm h=>by cases h⟩
 | @cons x nm t f b a hm d ih=>
   obtain⟨vs,l,j,m⟩:=ih
   refine⟨(Sum.inr x,.ref f)::vs,.cons (lV x t) rfl l,by simp[j],λk n h=> ?_⟩
   by_cases c:k=x
   · subst c
     rw[List.lookup_cons_self] at h
     cases h
     refine⟨f,?_,hm⟩
     unfold valueAt
     rw[List.find?_cons_of_pos (by simp)]
     rfl
   · have i:(k==x)=false:=by simpa using c
     rw[List.lookup_cons,i] at h
     obtain⟨g,e,o⟩:=m k n h
     refine⟨g,?_,o⟩
     unfold valueAt at e⊢
     rw[List.find?_cons_of_neg]
     · exact e
     · intro z
       have:(Sum.inr x:Key)=Sum.inr k:=by simpa using z
       exact c (Sum.inr.inj this).symm
def z_{P:Program}{w:World}{K:PySem.W.Frag}{mg:Str->Option Value}{x:Str}{c:List (Str×Str)}{a:Addr}{f:List DictEntry}{o:Nat}(i:mg x=some (.ref a))(l:K.lookup a=some ⟨.type "dict",none,.dict f.toArray o,#[]⟩)(d:Al w mg f c)(nd:(c.map (·.1)).Nodup):xb P w K mg x c:=by
 obtain⟨g,k,j,m⟩:=d.pairs (P:=P)
 refine⟨a,i,λh q=>⟨g,⟨_,_,_,q _ _ l,⟨rfl,rfl,rfl⟩,rfl,λe r=>d.keys e (by simpa using r),by simpa using k,?_⟩,m⟩⟩
 rw[j]
 have:c.map (λp=>(Sum.inr p.1:Key))=(c.map (·.1)).map Sum.inr:=by rw[QPq];rfl
 rw[this]
 exact List.Pairwise.map _ (λa b n e=>n (Sum.inr.inj e)) nd
theorem A7{P:Program}{w:World}{K:PySem.W.Frag}{mg:Str->Option Value}{base:Heap}{k:Nat}{ps:List Str}:∀{T:List (Str×cT)},(∀p∈T,eB P w K mg base k p.1 ps p.2)->∀x F,T.lookup x=some F->eB P w K mg base k x ps F
 | [],_,x,F,h=>by cases h
 | p::T,g,x,F,h=>by
   by_cases c:x=p.1
   · subst c
     rw[List.lookup_cons_self] at h
     cases h
     exact g p (QBq ..)
   · have a:(x==p.1)=false:=by simpa using c
     rw[List.lookup_cons,a] at h
     exact A7 (λq b=>g q (Qpq _ b)) x F h
def tJ:Sp:=λc H Q _=>∃(a:Addr) (b:List Int) (o:Obj),c= [.ref a]/\H a=some (.frz o (.lst (b.map V.int)))/\b.length<=63/\∀d,Q (.bl true) d
theorem qp{M:Md}{ρ:List Addr}{H:Hp}:∀ns:List Int,aN M ρ H (ns.map D.int) (ns.map V.int)
 | []=>.nil
 |s::ss=>.cons (.int s) (qp ss)
def Bz{P:Program}{w:World}{K:PySem.W.Frag}{mg:Str->Option Value}{base:Heap}{k:Nat}{f:Addr}{g:FuncData}{ps:List Str}{F:cT}(G:aY P w K mg base de k f g ps (dB ⟨K,mg⟩ 1 F))
  (h:∀ns:List Int,ns.length<=63->∃c,F [.ref 0] [.frz (ns.map D.int)]=some (.d (.bl true),c)):aY P w K mg base de k f g ps tJ:=
 G.imp λu H Q E p=>by
  obtain⟨a,ns,o,e,j,m,q⟩:=p
  subst e
  obtain⟨c,e⟩:=h ns m
  refine⟨[a],[.frz (ns.map D.int)],[.ref 0],_,c,rfl,.cons (.ref rfl) .nil,⟨rfl,by simp,λk b y i l=> ?_⟩,e,λn v s x t r=> ?_⟩
  ·cases k with
   |zero=>cases i;cases l;exact⟨_,o,j,qp ns⟩
   |succ k=>simp at i
  ·cases r
   exact q s
def wA(K:PySem.W.Frag):Bool:=K.all λp=>match p.2.data with|.seq _ _=>(match p.2.cls with|.type s=>s !="list" |_=>true)|_=>true
def yV{K:PySem.W.Frag}(h:wA K=true){a:Addr}{o:Obj}(e:K.lookup a=some o){f:Array Value}{n:Nat}(hd:o.data=.seq f n):o.cls≠.type "list":=by
 intro j
 have d:∀(K:List (Addr×Obj)),K.all (λp=>match p.2.data with|.seq _ _=>(match p.2.cls with|.type s=>s !="list" |_=>true)|_=>true)=true->K.lookup a=some o->False:=by
  intro K
  induction K with
  |nil=>intro _ e;cases e
  | cons p K k=>
    intro h e
    rw[List.all_cons,QCq] at h
    obtain⟨b,q⟩:=p
    rw[List.lookup_cons] at e
    by_cases c:a=b
    · subst c
      simp only[BEq.rfl] at e
      cases e
      have g:=h.1
      simp only[hd,j] at g
      simp at g
    · have i:(a==b)=false:=by simpa using c
      rw[i] at e
      exact k h.2 e
 exact d K h e
def FO{K:PySem.W.Frag}{H:Hp}{a:Addr}{ns:List Int}(e:wA K=true)(b:ns.length<=63)(d:BW H)(c:gc K H a (ns.map V.int)):tJ [.ref a] H (λv _=>v=.bl true) λ_ _ _=>False:=by
 rcases c with(h|⟨o,h⟩)|⟨o,its,n,h,hc,_,hd,_⟩
 ·rcases d a with z|⟨o,f,z⟩
  ·rw[h] at z;cases z
  ·rw[h] at z;cases z
 ·exact⟨a,ns,o,rfl,h,b,λ_=>rfl⟩
 ·exact absurd hc (yV e h hd)
def uj{l:PySem.W.OpenLaw}{q:Program}{b:List Str}{j:(Str->Option Value)->Heap->Prop}{g:World->Heap->Prop}{d:DefRec}{K:Params->PySem.W.Frag}{k:Nat}(m:l.most=some 63)(c:d.params.defaults= [])(o:dC k PySem.callerA)
  (p:∀(w:World) (h:Heap),g w h->(K w.params).In h) (v:∀w:World,wA (K w.params)=true)
  (F:∀(w:World) (mg:Str->Option Value) (i:Addr) (h:Heap),(K w.params).In h->h.Ns mainGlobals mg->mg d.name=some (.ref i)→
   ∃e:FuncData,(∀(s:Shared) (u:Value),BindsTo s e ⟨[u],[]⟩ [("_law_script",u)])/\∀base:Heap,(K w.params).In base->base.Ns mainGlobals mg->aY l.prog w (K w.params) mg base de k i e ["_law_script"] tJ):
  PySem.W.WalkO q b j g l.row.toRowW d [] (λf vs=>PySem.call f vs):=
 L2.B7 (n:=63) (k:=k) (x:="_law_script") (CX:=λ_=>de) (sp:=λ_=>tJ) m (by decide) c o p F (λw H a A t r y=>FO (v w) t r y) λ_ _ _ _ _ z=>z
end DL
namespace DL
open PySem PySem.Spec L2 PyProof.Rows
section
variable{X:Cx}{x:Str}{e:Expr}{f:aV}{pos pos':Pos}
def Gq(i:Nat)(a:X.N.Nodup)(he:PE X e (tD (md X) f))(hi:X.N[i]?=some x:=by rfl)(b:Loc X.env.scope x:=by first|exact Or.inl rfl|exact Or.inr rfl)(d:swapsWith e (some (.Name x pos')) pos.line X.env=pure false:=by rfl)
  (c:X.fn x=true\/X.env.scope.names.lookup x=some .local:=by first|exact .inl rfl|exact .inr rfl|assumption):PS X (.Assign [.Name x pos'] e pos) (tS (md X) (aS i f)):=FD (EL a hi b he d c)
def JY(i:Nat)(a:X.N.Nodup)(hi:X.N[i]?=some x:=by rfl)(b:Loc X.env.scope x:=by first|exact Or.inl rfl|exact Or.inr rfl)(c:X.fn x=true\/X.env.scope.names.lookup x=some .local:=by first|exact .inl rfl|exact .inr rfl|assumption):PG X (.Name x pos) (kS i):=rj a hi b c
def JU(i:Nat)(a:X.N.Nodup)(hi:X.N[i]?=some x:=by rfl)(b:Loc X.env.scope x:=by first|exact Or.inl rfl|exact Or.inr rfl)(c:X.fn x=true\/X.env.scope.names.lookup x=some .local:=by first|exact .inl rfl|exact .inr rfl|assumption):PG X (.Name x pos) (tG (md X) (bO i)):=A8 (rj a hi b c)
def JT{N:List Str}{a:Scope}{b:List (Str×Addr)}{C:Addr}{s:Shared}{H:Hp}{fp:List Addr}(i:Nat)(c:N.Nodup:=by decide +kernel)(hi:(aD X N a b C s H fp).N[i]?=some x:=by rfl)(d:Loc (aD X N a b C s H fp).env.scope x:=by first|exact Or.inl rfl|exact Or.inr rfl)
  (g:(aD X N a b C s H fp).fn x=true\/(aD X N a b C s H fp).env.scope.names.lookup x=some .local:=by first|exact .inl rfl|exact .inr rfl|assumption):PG (aD X N a b C s H fp) (.Name x pos) (tG (md (aD X N a b C s H fp)) (bO i)):=A8 (rj c hi d g)
def v_(i:Nat)(b:X.N[i]?=some x:=by rfl)(c:C2 X.env.scope x:=by first|exact Or.inl rfl|exact Or.inr (Or.inl rfl)|exact Or.inr (Or.inr rfl))(hd:(x==("__debug__":Str))=false:=by decide)(a:(x==("__classdict__":Str))=false:=by decide):PE X (.Name x pos) (tD (md X) (av i)):=F1 (pv i b c hd a)
end
section
variable{X:Cx}{x:Str}{k k':Nat}{ps:List Str}{F:cT}{e:Expr}{es:List Expr}{g:fh}{p pos:Pos}
def HK(C:eB X.prog X.w X.K X.mg X.base k x ps F)(h:dC k' X.A)(b:PA X (e::es) (uE (md X) g))(f:k<=k':=by first|decide|omega)(c:Gl X x:=by rfl)
  (d:nA ps.length g:=by repeat (first|exact wC|refine jg ?_))
  (a:(x==("__debug__":Str))=false:=by decide) (he:starEach (e::es) X.env=(false,eval e X.env)::starEach es X.env:=by rfl) (hpl:(backTo pos (starEach es X.env)).any (·.1)=false:=by rfl):
  PE X (.Call (.Name x p) (e::es) [] pos) (tD (md X) (aB F g)):=Gz C (h.mono f) c b d a he hpl
def Ie(C:eB X.prog X.w X.K X.mg X.base k x ps F)(h:dC k' X.A)(b:PA X (e::es) (uE (md X) g))(f:k<=k':=by first|decide|omega)(c:Gl X x:=by rfl)
  (d:nA ps.length g:=by repeat (first|exact wC|refine jg ?_))
  (a:(x==("__debug__":Str))=false:=by decide) (he:starEach (e::es) X.env=(false,eval e X.env)::starEach es X.env:=by rfl) (hpl:(backTo pos (starEach es X.env)).any (·.1)=false:=by rfl):
  PE X (.Call (.Name x p) (e::es) [] pos) (tL (md X) (eJ F g)):=Fp C (h.mono f) c b d a he hpl
end
def eO{N P:List Str}{h:Scope}(a:h.kind=.function:=by rfl)(b:h.isCoroutine=false:=by rfl)(c:h.isGenerator=false:=by rfl)(d:N.Nodup:=by decide +kernel)(e:N.take P.length=P:=by rfl)
  (f:∀x∈P,h.names.lookup x=some .local\/h.names.lookup x=some .cell:=by decide +kernel) (g:∀y∈h.names,y.2≠.free:=by decide +kernel):aE N P h:=⟨a,b,c,d,e,f,g⟩
structure aU(K:PySem.W.Frag)(x:Str)(st:Stmt)(f:Addr):Prop where
 ex:∃(oc:Value) (od:Option Addr) (kV dc pm:Value) (an:Option Addr) (cd ct:Value) (sl:Array (Option Value)),PySem.W.nsIn K mainGlobals x=some (some (.ref f))∧
  K.lookup f=some ⟨oc,od,.func (PySem.W.fnOf x x (eR st) (dg st) (aA st) .none kV dc pm an cd ct),sl⟩/\PySem.W.codeIn K cd x=true/\PySem.W.keepIn K (.ref f)=true
def aU.of{K:PySem.W.Frag}{x:Str}{st:Stmt}{f:Addr}{j:Value}{e:Option Addr}{kV h d:Value}{g:Option Addr}{b ct:Value}{i:Array (Option Value)}(a:PySem.W.nsIn K mainGlobals x=some (some (.ref f)))
  (l:K.lookup f=some ⟨j,e,.func (PySem.W.fnOf x x (eR st) (dg st) (aA st) .none kV h d g b ct),i⟩) (c:PySem.W.codeIn K b x=true) (k:PySem.W.keepIn K (.ref f)=true):aU K x st f:=⟨j,e,kV,h,d,g,b,ct,i,a,l,c,k⟩
structure HS(K:PySem.W.Frag)(mg:Str->Option Value)(x:Str)(st:Stmt)(ps:List Str)(f:Addr):Prop where
 ex:∃fd,dD K x x st f fd/\Binds K fd ps []/\PySem.W.keepIn K (.ref f)=true
 m:mg x=some (.ref f)
def aU.ok1{K:PySem.W.Frag}{mg:Str->Option Value}{x:Str}{st:Stmt}{ps:List Str}{f:Addr}{h:Heap}(D:aU K x st f)(X:K.In h)(G:h.Ns mainGlobals mg)
  (k:∀(kV c e:Value) (i:Option Addr) (b ct:Value) (a:List Value),a.length=ps.length->bindArgs (PySem.W.fnOf x x (eR st) (dg st) (aA st) .none kV c e i b ct) ⟨a,[]⟩=pure (ps.zip a):=by intro _ _ _ _ _ _ a m;rcases a with _|⟨_,_|⟨_,_|⟨_,_|⟨_,_|⟨_,_|⟨_,_⟩⟩⟩⟩⟩⟩ <;>first|rfl|cases m):HS K mg x st ps f:=by
 obtain⟨r,p,kV,q,e,i,n,ct,o,l,g,j,d⟩:=D.ex
 exact⟨⟨_,v9 g j d,(v9 g j d).binds k,d⟩,PySem.W.mg_of X G l⟩
structure Pk(P:Program)(w:World)(base:Heap):Prop where
def HS.cal{P:Program}{w:World}{base:Heap}{K:PySem.W.Frag}{mg:Str->Option Value}{x:Str}{st:Stmt}{ps:List Str}{f:Addr}{k:Nat}{F:cT}(O:HS K mg x st ps f)(Z:Pk P w base)
  (h:∀a,dD K x x st f a->Binds K a ps []->PySem.W.keepIn K (.ref f)=true->mg x=some (.ref f)->aY P w K mg base de k f a ps (dB ⟨K,mg⟩ ps.length F)):eB P w K mg base k x ps F:=by
 obtain⟨a,d,c,b⟩:=O.ex
 exact⟨f,a,h a d c b O.m,c,b,O.m⟩
end DL
namespace DL
open PySem PySem.Spec L2
def E{α:Type}(f:cN->aC->Option (α×aC))(c:cN)(S:aC)(Q:α->aC->Prop):Prop:=∃a b,f c S=some (a,b)/\Q a b
def T(f:cy)(a:cN)(S:aC)(Q:Out->Prop):Prop:=∃o,f a S=some o/\Q o
def Fn(F:cT)(ds:List D)(S:aC)(Q:Res->aC->Prop):Prop:=∃r a,F ds S=some (r,a)/\Q r a
def Tg(g:jt)(d:D)(c:cN)(S:aC)(Q:cN->aC->Prop):Prop:=∃a b,g d c S=some (a,b)/\Q a b
def GK(g:m5)(d:List D)(c:cN)(S:aC)(Q:cN->aC->Prop):Prop:=∃a b,g d c S=some (a,b)/\Q a b
def Op{α:Type}(o:Option α)(Q:α->Prop):Prop:=∃d,o=some d/\Q d
section
variable{Γ:cN}{S:aC}
def E.mono{α:Type}{f:cN->aC->Option (α×aC)}{Q R:α->aC->Prop}(h:E f Γ S Q)(i:∀a S,Q a S->R a S):E f Γ S R:=by
 obtain⟨a,b,e,q⟩:=h
 exact⟨a,b,e,i _ _ q⟩
def T.mono{f:cy}{Q R:Out->Prop}(h:T f Γ S Q)(i:∀o,Q o->R o):T f Γ S R:=by
 obtain⟨a,e,q⟩:=h
 exact⟨a,e,i _ q⟩
def da{i:Nat}{d:D}{Q:D->aC->Prop}(h:Γ[i]?=some (some d))(q:Q d S):E (av i) Γ S Q:=⟨d,S,by unfold av;rw[h],q⟩
def Hr{d:D}{Q:D->aC->Prop}(q:Q d S):E (cF d) Γ S Q:=⟨d,S,rfl,q⟩
def Jq{Q:List D->aC->Prop}(q:Q [] S):E ax Γ S Q:=⟨[],S,rfl,q⟩
def Ic{f:aV}{g:fh}{Q:List D->aC->Prop}(h:E f Γ S λd a=>E g Γ a λds S2=>Q (d::ds) S2):E (ar f g) Γ S Q:=by
 obtain⟨d,a,b,ds,S2,c,q⟩:=h
 exact⟨_,_,by unfold ar;rw[b];simp only[Qbq];rw[c];rfl,q⟩
def D_{o:pT}{f g:aV}{Q:D->aC->Prop}(h:E f Γ S λx a=>E g Γ a λy S2=>Op (o S2 x y) λd=>Q d S2):E (aW o f g) Γ S Q:=by
 obtain⟨x,a,c,y,S2,e,d,b,q⟩:=h
 exact⟨d,S2,by unfold aW;rw[c];simp only[Qbq];rw[e];simp only[Qbq];rw[b];rfl,q⟩
def Jk{f:fh}{Q:D->aC->Prop}(h:E f Γ S λds a=>ds.length<=sizeLine/\Q (.tup ds) a):E (aK f) Γ S Q:=by
 obtain⟨ds,a,b,l,q⟩:=h
 exact⟨_,_,by unfold aK;rw[b];simp only[Qbq];rw[Qhq l],q⟩
def GJ{f:fh}{Q:List D->aC->Prop}(h:E f Γ S λds a=>ds.length<=sizeLine/\Q ds a):E (fg f) Γ S Q:=by
 obtain⟨ds,a,b,l,q⟩:=h
 exact⟨_,_,by unfold fg;rw[b];simp only[Qbq];rw[Qhq l],q⟩
def II{f:fh}{Q:D->aC->Prop}(h:E f Γ S λds a=>Q (.ref a.length) (a++ [.lst ds])):E (iM f) Γ S Q:=by
 obtain⟨ds,a,b,q⟩:=h
 exact⟨_,_,by unfold iM;rw[b];rfl,q⟩
def JZ{o:CU}{f:fh}{Q:D->aC->Prop}(h:E f Γ S λds a=>Op (o ds) λd=>Q d a):E (vg o f) Γ S Q:=by
 obtain⟨ds,a,b,d,c,q⟩:=h
 exact⟨d,a,by unfold vg;rw[b];simp only[Qbq];rw[c];rfl,q⟩
def Fw{f:aV}{Q:(List D×Tag)->aC->Prop}(h:E f Γ S λd a=>Op (oT a d) λp=>Q p a):E (bX f) Γ S Q:=by
 obtain⟨e,a,b,d,c,q⟩:=h
 exact⟨d,a,by unfold bX;rw[b];simp only[Qbq];rw[c];rfl,q⟩
def Ij{f:fh}{Q:(List D×Tag)->aC->Prop}(h:E f Γ S λds a=>Q (ds,.fr) a):E (pU f) Γ S Q:=by
 obtain⟨ds,a,b,q⟩:=h
 exact⟨_,a,by unfold pU;rw[b];rfl,q⟩
def JA{f:dU}{Q:D->aC->Prop}(h:E f Γ S λp a=>Q (.int p.1.length) a):E (jq f) Γ S Q:=by
 obtain⟨p,a,b,q⟩:=h
 exact⟨_,a,by unfold jq;rw[b];rfl,q⟩
def Hz{f:dU}{Q:D->aC->Prop}(h:E f Γ S λp a=>Q (.tup p.1) a):E (tupQ f) Γ S Q:=by
 obtain⟨p,a,b,q⟩:=h
 exact⟨_,a,by unfold tupQ;rw[b];rfl,q⟩
def E1{f:dU}{Q:(List D×Tag)->aC->Prop}(h:E f Γ S λp a=>p.2.isL=true/\Q p a):E (fR f) Γ S Q:=by
 obtain⟨p,a,b,l,q⟩:=h
 exact⟨_,a,by unfold fR;rw[b];simp only[Qbq];rw[Qhq l],q⟩
def G1{f:dU}{Q:D->aC->Prop}(h:E f Γ S λp a=>(p.2.isL=true/\p.2.stays a p.1)/\Q (.bl (!p.1.isEmpty)) a):E (nI f) Γ S Q:=by
 obtain⟨p,a,b,l,q⟩:=h
 exact⟨_,a,by unfold nI;rw[b];simp only[Qbq];rw[Qhq l],q⟩
def Hs{F:cT}{g:fh}{Q:D->aC->Prop}(h:E g Γ S λds a=>Fn F ds a λr S2=>match r with|.d x=>Q x S2|.l _=>False):E (aB F g) Γ S Q:=by
 obtain⟨ds,a,b,r,S2,c,q⟩:=h
 cases r with
 |d x=>exact⟨x,S2,by unfold aB;rw[b];simp only[Qbq];rw[c];rfl,q⟩
 |l x=>exact q.elim
def GW{F:cT}{g:fh}{Q:List D->aC->Prop}(h:E g Γ S λds a=>Fn F ds a λr S2=>match r with|.d _=>False|.l x=>Q x S2):E (eJ F g) Γ S Q:=by
 obtain⟨ds,a,b,r,S2,c,q⟩:=h
 cases r with
 |d x=>exact q.elim
 |l x=>exact⟨x,S2,by unfold eJ;rw[b];simp only[Qbq];rw[c];rfl,q⟩
def sI{f:aV}{Q:Bool->aC->Prop}(h:E f Γ S λd a=>match d with|.bl k=>Q k a|_=>False):E (bc f) Γ S Q:=by
 obtain⟨d,a,b,q⟩:=h
 cases d with
 |bl k=>exact⟨k,a,by unfold bc;rw[b];rfl,q⟩
 |_=>exact q.elim
def Gy{f:aV}{Q:Bool->aC->Prop}(h:E f Γ S λd a=>Op (wN a d) λk=>Q k a):E (jK f) Γ S Q:=by
 obtain⟨d,a,b,k,c,q⟩:=h
 exact⟨k,a,by unfold jK;rw[b];simp only[Qbq];rw[c];rfl,q⟩
def Dg{f:gM}{Q:Bool->aC->Prop}(h:E f Γ S λk a=>Q (!k) a):E (vG f) Γ S Q:=by
 obtain⟨k,a,b,q⟩:=h
 exact⟨_,a,by unfold vG;rw[b];rfl,q⟩
def DN{f g:gM}{Q:Bool->aC->Prop}(h:E f Γ S λk a=>if k=true then E g Γ a Q else Q false a):E (tX f g) Γ S Q:=by
 obtain⟨k,a,b,q⟩:=h
 cases k with
 |true=>obtain⟨j,c,d,q⟩:=(q:E g Γ a Q);exact⟨j,c,by unfold tX;rw[b];exact d,q⟩
 |false=>exact⟨false,a,by unfold tX;rw[b];rfl,q⟩
def Aq{f g:gM}{Q:Bool->aC->Prop}(h:E f Γ S λk a=>if k=true then Q true a else E g Γ a Q):E (EO f g) Γ S Q:=by
 obtain⟨k,a,b,q⟩:=h
 cases k with
 |true=>exact⟨true,a,by unfold EO;rw[b];rfl,q⟩
 |false=>obtain⟨j,c,d,q⟩:=(q:E g Γ a Q);exact⟨j,c,by unfold EO;rw[b];exact d,q⟩
def Jd{c:gM}{f g:aV}{Q:D->aC->Prop}(h:E c Γ S λk a=>if k=true then E f Γ a Q else E g Γ a Q):E (sA c f g) Γ S Q:=by
 obtain⟨k,a,e,q⟩:=h
 cases k with
 |true=>obtain⟨j,b,d,q⟩:=(q:E f Γ a Q);exact⟨j,b,by unfold sA;rw[e];exact d,q⟩
 |false=>obtain⟨j,b,d,q⟩:=(q:E g Γ a Q);exact⟨j,b,by unfold sA;rw[e];exact d,q⟩
def FR{i:Nat}{f:aV}{Q:Out->Prop}(h:E f Γ S λd a=>Q (.nx (Γ.set i (some d)) a)):T (aS i f) Γ S Q:=by
 obtain⟨d,a,b,q⟩:=h
 exact⟨_,by unfold aS;rw[b];rfl,q⟩
def oy{f:aV}{Q:Out->Prop}(h:E f Γ S λd a=>Q (.rt d a)):T (cH f) Γ S Q:=by
 obtain⟨d,a,b,q⟩:=h
 exact⟨_,by unfold cH;rw[b];rfl,q⟩
def HH{f:fh}{Q:Out->Prop}(h:E f Γ S λd a=>Q (.rl d a)):T (CW f) Γ S Q:=by
 obtain⟨d,a,b,q⟩:=h
 exact⟨_,by unfold CW;rw[b];rfl,q⟩
def AD{f:aV}{Q:Out->Prop}(h:E f Γ S λd a=>Q (.nx Γ a)):T (yD f) Γ S Q:=by
 obtain⟨d,a,b,q⟩:=h
 exact⟨_,by unfold yD;rw[b];rfl,q⟩
def cD{Q:Out->Prop}(q:Q (.nx Γ S)):T il Γ S Q:=⟨_,rfl,q⟩
def JN{f:aV}{g:jt}{Q:Out->Prop}(h:E f Γ S λd b=>Tg g d Γ b λa S2=>Q (.nx a S2)):T (nQ f g) Γ S Q:=by
 obtain⟨d,b,c,a,S2,e,q⟩:=h
 exact⟨_,by unfold nQ;rw[c];simp only[Qbq];rw[e];rfl,q⟩
def bZ{f g:cy}{Q:Out->Prop}(h:T f Γ S λo=>match o with|.nx a b=>T g a b Q|o=>Q o):T (aF f g) Γ S Q:=by
 obtain⟨o,c,q⟩:=h
 cases o with
 |nx a b=>obtain⟨o,d,q⟩:=(q:T g a b Q);exact⟨o,by unfold aF;rw[c];exact d,q⟩
 |_=>exact⟨_,by unfold aF;rw[c];rfl,q⟩
def hU{c:gM}{f g:cy}{Q:Out->Prop}(h:E c Γ S λk a=>if k=true then T f Γ a Q else T g Γ a Q):T (hG c f g) Γ S Q:=by
 obtain⟨k,a,d,q⟩:=h
 cases k with
 |true=>obtain⟨j,b,q⟩:=(q:T f Γ a Q);exact⟨j,by unfold hG;rw[d];exact b,q⟩
 |false=>obtain⟨j,b,q⟩:=(q:T g Γ a Q);exact⟨j,by unfold hG;rw[d];exact b,q⟩
def aQ{i:Nat}{d:D}{Q:cN->aC->Prop}(q:Q (Γ.set i (some d)) S):Tg (bO i) d Γ S Q:=⟨_,_,rfl,q⟩
def JP{f g:aV}{d:D}{Q:cN->aC->Prop}(h:E f Γ S λx a=>E g Γ a λy S2=>∃k i ds j,x=.ref k/\y=.int i/\S2[k]?=some (.lst ds)/\yC ds.length i=some j/\Q Γ (S2.set k (.lst (ds.set j d)))):Tg (EW f g) d Γ S Q:=by
 obtain⟨x,a,b,y,S2,c,k,i,ds,j,rfl,rfl,h1,h2,q⟩:=h
 exact⟨_,_,by unfold EW;rw[b];simp only[Qbq];rw[c];simp only[Qbq,h1,h2],q⟩
def IL{f g h:aV}{Q:Out->Prop}(w:E f Γ S λx c=>E g Γ c λy S2=>∃k i ds m,x=.ref k/\y=.int i/\S2[k]?=some (.lst ds)/\0<=i/\ds[i.toNat]?=some (.int m)/\E h Γ S2 λz b=>∃n a j,z=.int n/\b[k]?=some (.lst a)/\yC a.length i=some j/\Q (.nx Γ (b.set k (.lst (a.set j (.int (m+n))))))):T (GU f g h) Γ S Q:=by
 obtain⟨x,c,d,y,S2,e,k,i,ds,m,rfl,rfl,h1,h2,h3,z,b,e3,n,a,j,rfl,h4,h5,q⟩:=w
 exact⟨_,by unfold GU;rw[d];simp only[Qbq];rw[e];simp only[Qbq,h1,Qhq h2,h3,e3,h4,h5],q⟩
def kC{i:qg}{g:jt}{b:cy}{Q:Out->Prop} (h:E i Γ S λp u=>∃I:Nat->cN->aC->Prop,I 0 Γ u/\(∀n a e,I n a e->p.2 e)∧
   (∀(n:Nat) (d:D) (a:cN) (e:aC),p.1[n]?=some d->I n a e->Tg g d a e λl S2=>T b l S2 λo=>match o with|.nx c f=>I (n+1) c f|.ct c f=>I (n+1) c f|.bk c f=>Q (.nx c f)|o=>Q o)∧
   ∀a e,I p.1.length a e->Q (.nx a e)):T (m_ i g b) Γ S Q:=by
 obtain⟨⟨s,W⟩,u,z,I,B,x,j,r⟩:=h
 have A:∀(k n:Nat) (a:cN) (e:aC),n+k=s.length->I n a e->∃o,forL g b W (s.drop n) a e=some o/\Q o:=by
  intro k
  induction k with
  | zero=>
    intro n a e w t
    rw[List.drop_of_length_le (by omega)]
    refine⟨.nx a e,by simp only[forL];rw[Qhq (x _ _ _ t)],r _ _ (by rw[←w];exact t)⟩
  | succ k y=>
    intro n a e w t
    have m:n<s.length:=by omega
    rw[QWq m]
    obtain⟨l,S2,v,o,C,q⟩:=j n s[n] a e (gQe m) t
    simp only[forL]
    rw[Qhq (x _ _ _ t),v]
    simp only[Qbq]
    rw[C]
    simp only[Qbq]
    cases o with
    |nx c f=>exact y (n+1) c f (by omega) q
    |ct c f=>exact y (n+1) c f (by omega) q
    |bk c f=>exact⟨_,rfl,q⟩
    |rt d f=>exact⟨_,rfl,q⟩
    |rl d f=>exact⟨_,rfl,q⟩
 obtain⟨o,v,q⟩:=A s.length 0 Γ u (by omega) B
 exact⟨o,by unfold m_;rw[z];exact v,q⟩
def og{js:List (Option Nat)}{i:qg}{g:jt}{t:gM}{f:aV}{Q:List D->aC->Prop} (h:E i Γ S λp x=>∃I:Nat->cN->aC->List D->Prop,I 0 (k8 js Γ) x []/\(∀n b j a,I n b j a->p.2 j)∧
   (∀(n:Nat) (d:D) (b:cN) (j:aC) (a:List D),p.1[n]?=some d->I n b j a->Tg g d b j λe S2=>E t e S2 λk w=>if k=true then E f e w λy z=>a.length<sizeLine/\I (n+1) e z (a++ [y]) else I (n+1) e w a)∧
   ∀b j a,I p.1.length b j a->Q a j):E (cW js i g t f) Γ S Q:=by
 obtain⟨⟨u,W⟩,x,G,I,J,C,m,s⟩:=h
 have H:∀(k n:Nat) (b:cN) (j:aC) (a:List D),n+k=u.length->I n b j a->∃r l,jC g t f W (u.drop n) b j a=some (r,l)/\Q r l:=by
  intro k
  induction k with
  | zero=>
    intro n b j a B v
    rw[List.drop_of_length_le (by omega)]
    refine⟨a,j,by simp only[jC];rw[Qhq (C _ _ _ _ v)],s _ _ _ (by rw[←B];exact v)⟩
  | succ k F=>
    intro n b j a B v
    have o:n<u.length:=by omega
    rw[QWq o]
    obtain⟨e,S2,A,c,w,K,q⟩:=m n u[n] b j a (gQe o) v
    simp only[jC]
    rw[Qhq (C _ _ _ _ v),A]
    simp only[Qbq]
    rw[K]
    simp only[Qbq]
    cases c with
    | true=>
      rw[Qhq rfl] at q⊢
      obtain⟨y,z,M,L,q⟩:=q
      rw[M]
      simp only[Qbq]
      rw[Qhq L]
      exact F (n+1) e z _ (by omega) q
    | false=>
      rw[Quq (by decide)] at q⊢
      exact F (n+1) e w _ (by omega) q
 obtain⟨r,l,A,q⟩:=H u.length 0 _ x [] (by omega) J
 exact⟨r,l,by unfold cW;rw[G];exact A,q⟩
def xf{f:aV}{Q:(List D×(aC->Prop))->aC->Prop}(h:E f Γ S λd a=>∃j,d=.int j/\(-(2^62)<=j/\j<2^62)/\Q (pY 0 j,λ_=>True) a):E (ub f) Γ S Q:=by
 obtain⟨d,a,b,j,rfl,hj,q⟩:=h
 exact⟨_,a,by unfold ub;rw[b];simp only[Qbq];rw[Qhq hj],q⟩
def vj{f:dU}{Q:(List D×(aC->Prop))->aC->Prop}(h:E f Γ S λp a=>Q (p.1,λc=>p.2.stays c p.1) a):E (r8 f) Γ S Q:=by
 obtain⟨p,a,b,q⟩:=h
 exact⟨_,a,by unfold r8;rw[b];rfl,q⟩
def AQ{m:List D->List D->Option (List D×D)}{f:aV}{g:fh}{Q:D->aC->Prop}(h:E f Γ S λx b=>∃k a,x=.ref k/\b[k]?=some (.lst a)/\E g Γ b λys S2=>∃ds,S2[k]?=some (.lst ds)/\Op (m ds ys) λp=>Q p.2 (S2.set k (.lst p.1))):E (Ak m f g) Γ S Q:=by
 obtain⟨x,b,c,k,a,rfl,h1,ys,S2,e2,ds,h2,p,e3,q⟩:=h
 exact⟨_,_,by unfold Ak;rw[c];simp only[Qbq,e2,h1,h2,e3],q⟩
end
def bD{n:Nat}{b:cy}{ds:List D}{S:aC}{Q:Res->aC->Prop} (h:T b (ds.map some++List.replicate (n-ds.length) none) S λo=>match o with
   |.nx _ a=>Op (settle S .non a) λp=>Q p.1 p.2|.rt d a=>Op (settle S d a) λp=>Q p.1 p.2|.rl l a=>Op (dQ S l a) λp=>Q p.1 p.2|_=>False):Fn (dX n b) ds S Q:=by
 obtain⟨o,f,q⟩:=h
 cases o with
 |nx g a=>obtain⟨⟨r,c⟩,e,q⟩:=q;exact⟨r,c,by unfold dX;rw[f];exact e,q⟩
 |rt d a=>obtain⟨⟨r,c⟩,e,q⟩:=q;exact⟨r,c,by unfold dX;rw[f];exact e,q⟩
 |rl d a=>obtain⟨⟨r,c⟩,e,q⟩:=q;exact⟨r,c,by unfold dX;rw[f];exact e,q⟩
 |bk=>exact q.elim
 |ct=>exact q.elim
def eW{S a S2:aC}{d:D}{Q:Res×aC->Prop}(b:kT S a)(e:a.take S.length=S2)(hd:∀k,d≠.ref k)(c:bJ S.length d=true)(q:Q (.d d,S2)):Op (settle S d a) Q:=by
 refine⟨_,?_,q⟩
 unfold settle
 rw[Qhq b,e]
 cases d with
 |ref k=>exact absurd rfl (hd k)
 |_=>simp only[c,if_true]
def nM{S a S2:aC}{ds:List D}{Q:Res×aC->Prop}(b:kT S a)(d:a.take S.length=S2)(c:bz S.length ds=true)(q:Q (.l ds,S2)):Op (dQ S ds a) Q:=by
 refine⟨_,?_,q⟩
 unfold dQ
 rw[Qhq ⟨b,c⟩,d]
def nU{S:aC}:kT S S:=⟨Qmq _,λk o _ h=>.inl h⟩
def qv{S:aC}{k:Nat}{o:O}(h:BK S.length o=true):kT S (S.set k o):=by
 refine⟨by simp,λj u _ e=> ?_⟩
 rw[List.getElem?_set] at e
 split at e
 ·split at e
  ·cases e;exact .inr h
  ·cases e
 ·exact .inl e
end DL
namespace L2
open PySem PySem.Spec PyProof.Rows
end L2
namespace DL
open PySem PySem.Spec L2
end DL
namespace L2
open PySem PySem.Spec PyProof.Rows
end L2
namespace DL
open PySem PySem.Spec PyProof.Rows L2
end DL
namespace L2
open PySem PySem.Spec PyProof.Rows
end L2
namespace DL
open PySem PySem.Spec PyProof.Rows L2
end DL
namespace DL
open PySem PySem.Spec L2
end DL
namespace L2
open PySem PySem.Spec
end L2
namespace DL
open PySem PySem.Spec L2
end DL
namespace DL
open PySem PySem.Spec PyProof.Rows L2
def gC:fillsNumberSlot (.type "tuple") "mul"=pure false:=
 PySem.fillsNumberSlot_seq (id:="tuple.__mul__") (r:=some (.builtin "tuple.__rmul__")) PySem.F.slot_tuple_mul.lookup (by decide +kernel) PySem.F.slot_tuple_rmul.lookup (by decide +kernel)
def kX:seqRepeat? (.type "tuple")=pure (some (.builtin "tuple.__mul__")):=by
 unfold seqRepeat?
 rw[PySem.seqSlot_of (T:="tuple") (name:="__mul__") (id:="tuple.__mul__") PySem.F.slot_tuple_mul.lookup (by decide +kernel),PySem.seqSlot_of (T:="tuple") (name:="__rmul__") (id:="tuple.__rmul__") PySem.F.slot_tuple_rmul.lookup (by decide +kernel)]
 rfl
def nP(a:Int)(t:Tok)(l:Addr)(items:Array Value)(n:Nat)(c:Option Addr)(e:Array (Option Value)):
  Meets (Builtin.«int.__rmul__» ⟨[.int a t,.ref l],[]⟩) (λ_ R s=>s.heap.get? l=some {cls:=.type "tuple",dict:=c,data:=.seq items n,slots:=e}/\R (.ok (.ret Value.notImplemented)) s):=
 .of_wp λb w A R s h=>by obtain⟨i,g,d,f,k⟩:=s;obtain⟨j,h⟩:=h;wp_walk;exact⟨_,rfl,h⟩
def yG(l:Addr)(items:Array Value)(n:Nat)(o:Option Addr)(p:Array (Option Value))(x:Int)(u:Tok)(F:2<=x)(B:x<2^63)(a:¬items.isEmpty=true)(hsz:items.size*x.toNat<=sizeLine):
  Meets (Builtin.«tuple.__mul__» ⟨[.ref l,.int x u],[]⟩) (λ_ R s=>s.heap.get? l=some {cls:=.type "tuple",dict:=o,data:=.seq items n,slots:=p}/\R (.ok (.ret (Value.ref s.heap.objs.size))) {s with heap:=s.heap.push {cls:=Value.type "tuple",data:=Data.seq (List.foldl (λe f=>e++f) #[] (List.replicate x.toNat items))},toks:=s.toks}):=
 .of_wp λk w A R s h=>by
  obtain⟨C,g,d,z,G⟩:=s;obtain⟨b,h⟩:=h
  have H:=AutoSeq1.idx_int
  have j:(sizeLine:Nat)=16777216:=by decide
  have i:((items.size:Int)*x)=((items.size*x.toNat:Nat):Int):=by rw[Int.natCast_mul,Int.toNat_of_nonneg (by omega)]
  have t:items.size*x.toNat<=16777216:=by omega
  have y:¬(decide (x< -2^63)||decide (x>=2^63))=true:=by simp;omega
  have v:¬(items.isEmpty||x==1)=true:=by simp at a⊢;exact⟨a,by omega⟩
  have r:¬(decide (x<=0)||items.isEmpty)=true:=by simp at a⊢;exact⟨by omega,a⟩
  have q:¬((items.size:Int)*x>(2^63-1)/8):=by rw[i];omega
  have m:¬Builtin.Tuple.tupleTooMany ((items.size:Int)*x)=true:=by rw[i];unfold Builtin.Tuple.tupleTooMany;rw[Qdq (by rw[j];omega)];decide
  have c:(List.foldl (λe f=>e++f) #[] (List.replicate x.toNat items)).size<=sizeLine:=by rw[AutoListH.size_joined,j,Nat.mul_comm];simpa using t
  wp_walk using wpAny_loadPart' b
  refine QgQ (Qdq y) ?_
  wp_walk using wpAny_loadPart' b
  refine QgQ (Qdq v) ?_
  wp_walk using wpAny_loadPart' b
  refine QgQ (Qdq r) ?_
  wp_walk using wpAny_loadPart' b
  refine QgQ (Qdq q) ?_
  wp_walk using wpAny_loadPart' b
  refine QgQ (Qdq m) ?_
  wp_walk using wpAny_loadPart' b
  refine QgQ (Qdq (Nat.not_lt.mpr c)) ?_
  wp_walk
  exact⟨_,rfl,h⟩
section
variable{X:Cx}{a b:Expr}{pos:Pos}
def C4(K:PySem.W.Frag):R2:=λx y H Q=>∃a k c,x=.ref a/\y=.int k/\fe K H a c/\c≠[]/\2<=k/\k<2^63/\c.length*k.toNat<=sizeLine/\∀p,H p=none->Q (.ref p) (upd H p (.tup (List.replicate k.toNat c).flatten))
def Bo:ip X (binaryOp .Mult) (C4 X.K):=by
 intro w s R H x y v u Q I B N h
 obtain⟨l,k,G,rfl,rfl,ha,hx,h1,h2,hz,q⟩:=h
 cases B
 obtain⟨t,rfl⟩:=N
 obtain⟨c,f,L,_⟩:=I.tuple ha
 obtain⟨⟨C,i,p,j⟩,d,r,n,m⟩:=id L
 simp only at r m
 subst r m
 have g:c.toArray.size*k.toNat<=sizeLine:=by rw[Qjq,←f.length];exact hz
 have e:List.foldl (λA M=>A++M) #[] (List.replicate k.toNat c.toArray)=(List.replicate k.toNat c).flatten.toArray:=by
  have:=foldl_rep c k.toNat []
  rw[List.nil_append] at this
  exact this
 refine wpAny_binaryOp_repeat_ref (T:="tuple") (U:="int") (by decide) ⟨_,d,rfl⟩ (λJ=>typeIs_int J k t) gC F.fills_int_mul F.slot_int_rmul kX F.slot_int_index.lookup
  (call_meets F.slot_int_rmul (typeIs_int s k t) F.entry_int_rmul (F.args_int_rmul_2 _ _) (nP k t l c.toArray n i j)
   ⟨d,rfl,⟨_,d,rfl⟩,call_meets F.slot_tuple_mul ⟨_,d,rfl⟩ F.entry_tuple_mul (F.args_tuple_mul_2 _ _) (yG l c.toArray n i j k t h1 h2 (λz=>hx (f.nil_iff.mp (by simpa using z))) g) ⟨d,?_⟩⟩)
 rw[e]
 refine⟨.ref s.heap.objs.size,_,I.laid (t':=s.toks) (o:=.tup (List.replicate k.toNat G).flatten) (λb P q=>Qcq _ q) (Qmq _) ?_,rfl,q _ (I.hok.fresh (Qmq _))⟩
 exact⟨by rw[len_rep,Nat.mul_comm];exact hz,_,f.rep k.toNat,p8.new _ _⟩
end
def wK(l:Addr)(items:Array Value)(n:Nat)(b:Option Addr)(c:Array (Option Value))(u:Tok):
  Meets (Builtin.«tuple.__mul__» ⟨[.ref l,.int 1 u],[]⟩) (λ_ R s=>s.heap.get? l=some {cls:=.type "tuple",dict:=b,data:=.seq items n,slots:=c}/\R (.ok (.ret (Value.ref l))) s):=
 .of_wp λa w A R s h=>by
  obtain⟨i,g,d,f,j⟩:=s;obtain⟨e,h⟩:=h
  have o:=AutoSeq1.idx_int
  have m:¬(decide ((1:Int)< -2^63)||decide ((1:Int)>=2^63))=true:=by decide
  have k:(items.isEmpty||(1:Int)==1)=true:=by simp
  wp_walk using wpAny_loadPart' e
  exact⟨_,rfl,h⟩
def vK(l:Addr)(items:Array Value)(n:Nat)(c:Option Addr)(e:Array (Option Value))(u:Tok)(a:¬items.isEmpty=true):
  Meets (Builtin.«tuple.__mul__» ⟨[.ref l,.int 0 u],[]⟩) (λ_ R s=>s.heap.get? l=some {cls:=.type "tuple",dict:=c,data:=.seq items n,slots:=e}/\R (.ok (.ret (Value.ref s.heap.objs.size))) {s with heap:=s.heap.push {cls:=Value.type "tuple",data:=Data.seq #[]},toks:=s.toks}):=
 .of_wp λb w A R s h=>by
  obtain⟨j,g,d,i,m⟩:=s;obtain⟨f,h⟩:=h
  have q:=AutoSeq1.idx_int
  have p:¬(decide ((0:Int)< -2^63)||decide ((0:Int)>=2^63))=true:=by decide
  have o:¬(items.isEmpty||(0:Int)==1)=true:=by simpa using a
  have k:(decide ((0:Int)<=0)||items.isEmpty)=true:=by simp
  wp_walk using wpAny_loadPart' f
  exact⟨_,rfl,h⟩
section
variable{X:Cx}{a b:Expr}{pos:Pos}
def CQ(K:PySem.W.Frag):R2:=λx y H Q=>∃a k c,x=.ref a/\y=.int k/\fe K H a c/\c≠[]/\((k=1/\Q (.ref a) H)\/(k=0/\∀p,H p=none->Q (.ref p) (upd H p (.tup []))))
def B2:ip X (binaryOp .Mult) (CQ X.K):=by
 intro p s M H x y v u Q I r G h
 obtain⟨l,k,J,rfl,rfl,ha,hx,h⟩:=h
 cases r
 obtain⟨t,rfl⟩:=G
 obtain⟨c,A,C,_⟩:=I.tuple ha
 obtain⟨⟨w,f,j,g⟩,d,m,n,i⟩:=id C
 simp only at m i
 subst m i
 have e:¬c.toArray.isEmpty=true:=λz=>hx (A.nil_iff.mp (by simpa using z))
 refine wpAny_binaryOp_repeat_ref (T:="tuple") (U:="int") (by decide) ⟨_,d,rfl⟩ (λB=>typeIs_int B k t) gC F.fills_int_mul F.slot_int_rmul kX F.slot_int_index.lookup
  (call_meets F.slot_int_rmul (typeIs_int s k t) F.entry_int_rmul (F.args_int_rmul_2 _ _) (nP k t l c.toArray n f g) ⟨d,rfl,⟨_,d,rfl⟩,?_⟩)
 rcases h with⟨rfl,q⟩|⟨rfl,q⟩
 ·exact call_meets F.slot_tuple_mul ⟨_,d,rfl⟩ F.entry_tuple_mul (F.args_tuple_mul_2 _ _) (wK l c.toArray n f g t) ⟨d,.ref l,H,I,rfl,q⟩
 ·refine call_meets F.slot_tuple_mul ⟨_,d,rfl⟩ F.entry_tuple_mul (F.args_tuple_mul_2 _ _) (vK l c.toArray n f g t e) ⟨d,?_⟩
  refine⟨.ref s.heap.objs.size,_,I.laid (t':=s.toks) (o:=.tup []) (λb L q=>Qcq _ q) (Qmq _) ?_,rfl,q _ (I.hok.fresh (Qmq _))⟩
  exact⟨Nat.zero_le _,_,.nil,p8.new _ _⟩
def mf:pT:=λ_ x y=>match x,y with
 |.tup i,.int k=>if 0<=k/\k<2^63/\i≠[]/\i.length*k.toNat<=sizeLine then some (.tup (List.replicate k.toNat i).flatten) else none
 |_,_=>none
def Ca{M:Md}:iI M (λx y H Q=>C4 M.K x y H Q\/CQ M.K x y H Q) mf:=by
 intro o S H x y d u v Q h m l e q
 cases m with
 | tup i g=>
   cases l with
   | int k=>
     simp only[mf] at e
     split at e <;>cases e
     rename_i j
     have f:=λz=>j.2.2.1 (List.length_eq_zero_iff.mp (g.length.trans (List.length_eq_zero_iff.mpr z)))
     by_cases n:2<=k
     · exact .inl ⟨_,k,_,rfl,rfl,fe.of i,f,n,j.2.1,by rw[←g.length];exact j.2.2.2,λp c=>q _ _ (bB.laid c) (h.lay c) (.tup bx ((g.rep _).ext (bB.laid c)))⟩
     · refine .inr ⟨_,k,_,rfl,rfl,fe.of i,f,?_⟩
       rcases(by omega:k=1\/k=0) with rfl|rfl
       · refine .inl ⟨rfl,q _ _ bB.refl h ?_⟩
         rw[show(List.replicate (1:Int).toNat _).flatten=_ from List.append_nil _]
         exact .tup i g
       · exact .inr ⟨rfl,λp c=>q _ _ (bB.laid c) (h.lay c) (.tup bx .nil)⟩
   |_=>simp only[mf,reduceCtorEq] at e
 |_=>simp only[mf,reduceCtorEq] at e
def Ig{f g:aV}(c:PE X a (tD (md X) f))(d:PE X b (tD (md X) g)):PE X (.BinOp a .Mult b pos) (tD (md X) (aW mf f g)):=lg Ca (oU (Bo.or B2) c d)
end
end DL
namespace L2
open PySem PySem.Spec PyProof.Rows
def y9{X:Cx}:G8 X "list.count" (λx vs H Q=>∃a xs y,x=.ref a/\vs= [y]/\gc X.K H a xs/\dJ y=true/\xs.all dJ=true/\Q (.int ((xs.countP λz=>kb z y:Nat):Int)) H):=by
 intro j s M H x vs v L Q I o A h
 obtain⟨a,xs,y,rfl,rfl,hq,fy,fs,q⟩:=h
 cases o
 obtain⟨u,rfl,ru⟩:=A.one
 obtain⟨b,r,l,J⟩:=I.list hq
 obtain⟨⟨p,G,C,m⟩,n,e,i,c,g⟩:=l
 simp only at i c g
 subst i c g
 have d:∀{xs:List V} {b:List Value},bf xs b->xs.all dJ=true->b.countP (tq y)=xs.countP λz=>kb z y:=by
  intro xs b r
  induction r with
  |nil=>intro _;rfl
  | cons h t B=>
    intro f
    simp only[List.all_cons,QCq] at f
    rw[List.countP_cons,List.countP_cons,B f.2,nR h f.1]
 refine call_meets PySem.F.slot_list_count ⟨_,e,rfl⟩ PySem.F.entry_list_count (PySem.F.args_list_count_2 _ _)
  (SeqAt.list_countAt a b.toArray n none m u (tq y))
  ⟨e,λw k=>fu ru fy r fs w (by simpa using k),⟨.int _,H,I.tok _,⟨_,rfl⟩,?_⟩⟩
 rw[d r fs]
 exact q
end L2
namespace DL
open PySem PySem.Spec L2
section
variable{X:Cx}{e:Expr}
open Classical in
def B4(f:dU)(g:aV):aV:=λb S=>(f b S).bind λ(p,d)=>if p.2.isL=true then(g b d).bind λ(y,a)=>if p.2.stays a p.1 then(pQ y).bind λv=>(iy p.1).bind λc=>some (.int ((c.countP λz=>kb z v:Nat):Int),a) else none else none
def Hy{f:dU}{g:aV}{o:Expr}{c b:Pos}(K:PE X o (tQ (md X) f))(N:PE X e (tD (md X) g))(i:attributeBase o "count" X.env (eval o X.env)=eval o X.env:=by rfl) (k:((backTo b (starEach [e] X.env)).all (λx=> !x.1)&&(backToKw b (keywordEach [] X.env)).all (λx=>x.1.isSome)
   &&decide ([e].length+([]:List Keyword).length+(if ([]:List Keyword).isEmpty then 0 else 1)<30))=true:=by rfl)
  (h:(c.endLine==b.line)=true:=by rfl) (s:starEach [e] X.env= [(false,eval e X.env)]:=by rfl):PE X (.Call (.Attribute o "count" c) [e] [] b) (tD (md X) (B4 f g)):=
 jo (pI PySem.F.plainAttrs_list PySem.F.slot_list_count PySem.F.type_list_count y9 K (eM N kK s) i k h s) λσ H Q qq=>by
  obtain⟨I,C,S,d,S',ok,e,q⟩:=qq
  obtain⟨⟨⟨R,t⟩,r⟩,J,e⟩:=aq e
  dsimp only at e
  split at e
  ·rename_i A
   obtain⟨⟨y,G⟩,e2,e⟩:=aq e
   dsimp only at e
   split at e
   ·rename_i U
    obtain⟨v,z,e⟩:=aq e
    obtain⟨vs,Z,e⟩:=aq e
    obtain⟨rfl,rfl⟩:=bF e
    refine⟨I,C,S,R,t,r,ok,J,λp a Y H1 u m w P=>⟨.inl ⟨rfl,Y,w.sqL A⟩,p,C,r,[y],G,ok.to u m,by simp only[ar,ax,e2,Qbq],λa0 ws H2 B j l=> ?_⟩⟩
    obtain⟨n,W,L⟩:=w.to P B j U
    cases l with
    | cons l M=>
      cases M
      cases gN l z
      obtain⟨rfl,f1⟩:=iZ L Z
      exact⟨a,n,_,rfl,rfl,W.sqL A,iJ z,f1,q _ _ _ (u.trans B) j (.int _)⟩
   ·cases e
  ·cases e
def Ef{a:cN}{S:aC}{f:dU}{g:aV}{Q:D->aC->Prop}(h:E f a S λp b=>p.2.isL=true/\E g a b λy S2=>p.2.stays S2 p.1/\∃v vs,pQ y=some v/\iy p.1=some vs/\Q (.int ((vs.countP λz=>kb z v:Nat):Int)) S2):E (B4 f g) a S Q:=by
 obtain⟨p,b,c,k,y,S2,l,j,v,vs,i,d,q⟩:=h
 refine⟨_,S2,?_,q⟩
 unfold B4
 rw[c]
 simp only[Qbq]
 rw[Qhq k,l]
 simp only[Qbq]
 rw[Qhq j,i,d]
 rfl
end
end DL
namespace W28
open PySem PySem.Spec L2 DL
abbrev cX:=aW s_
abbrev dM(v:Nat)(k:Int):=aW s_ (av v) (cF (.int k))
abbrev gK(v:Nat)(k:Int):=ar (aW s_ (av v) (cF (.int k)))
abbrev dR(x:Str):=ar (cF (.str x))
abbrev bI(k:Int):=cF (.int k)
abbrev aG(k:Nat):=ar (av k)
abbrev nE(k:Int):=ar (cF (.int k))
def lK:cy:=
 (aF (aS 2 (bI 0))
 (aF (hG (bc (aW Ik (av 1) (jq (bX (av 0))))) (aS 2 (vg Cu (ar (cX (av 0) (av 1)) ax))) il)
 (aF (aS 3 (aW iR (aW mW (av 2) (aW iR (aW qY (bI 10) (bI 60)) (aW qY (bI 10) (bI 60)))) (vg intOfD (ar (aW HG (av 2) (aW qY (bI 10) (bI 18))) ax))))
 (CW (fg (aG 3 (ar (aW mW (aW bE (aW bE (av 2) (aW iR (bI 104729) (av 1))) (bI 7)) (bI 2305843009213693951)) (nE 0 ax))))))))
def jd:cT:=dX 4 lK
def jT:cy:=
 (aF (hG (bc (aW Gg (dM 0 0) (bI 0))) (aF (aS 2 (aW mW (dM 0 0) (av 1)))
 (aF (nQ (aW tx (dM 0 0) (av 1)) (EW (av 0) (bI 0)))
 (cH (av 2)))) il)
 (aF (GU (av 0) (bI 2) (bI 1))
 (aF (aS 3 (aW mW (aW bE (aW bE (aW iR (dM 0 1) (bI 69069)) (aW iR (bI 9973) (dM 0 2))) (bI 5)) (bI 2305843009213693921)))
 (aF (nQ (aW mW (aW iR (av 3) (aW bE (aW bE (aW mW (av 3) (bI 999983)) (aW iR (bI 2) (dM 0 2))) (bI 3))) (bI 2305843009213693907)) (EW (av 0) (bI 1)))
 (cH (aW mW (aW tx (dM 0 1) (bI 65537)) (av 1)))))))
def cq:cT:=dX 4 jT
def jJ:cy:=
 (cH (cX (av 1) (aB cq (aG 0 (ar (jq (bX (av 1))) ax)))))
def gR:cT:=dX 2 jJ
def ix:cy:=
 (aF (aS 2 (cX (iM (fg (dR "at once" (dR "when free" ax)))) (aB cq (aG 0 (nE 2 ax)))))
 (aF (aS 3 (aK (dR "plus" (ar (aK (dR "waits" (dR "a" ax))) (ar (aK (dR "plus" (ar (aK (dR "waits" (dR "b" ax))) (ar (aK (dR "waits" (dR "b" ax))) ax)))) ax)))))
 (aF (aS 4 (aK (dR "tell" (ar (aK (dR "plus" (aG 3 (dR "given" ax)))) ax))))
 (aF (aS 5 (iM (fg (ar (aK (dR "ask" (ar (aK (aG 4 ax)) ax))) (ar (aK (dR "calla" (ar (aK (ar (aK (dR "call" (dR "a" ax))) ax)) ax))) ax)))))
 (aF (yD (y3 (av 5) (pU (fg (ar (aK (dR "staya" (ar (aK (ar (aK (dR "wait" (dR "a" (nE 0 ax)))) ax)) ax))) (ar (aK (dR "stayb" (ar (aK (ar (aK (dR "wait" (dR "b" (dR "given" ax)))) ax)) ax))) ax))))))
 (aF (aS 6 (iM (cW [none,some 0] (ub (aW Ag (av 1) (bI 1))) (bO 0) dW (aB gR (aG 1 (ar (iM (fg (dR "staya" (dR "stayb" (dR "" ax))))) ax))))))
 (aF (aS 7 (iM (fg ax)))
 (aF (m_ (r8 (bX (av 6))) (bO 8) (aF (aS 9 (aK (ar (aK (dR "say" (nE 0 ax))) (ar (aK (dR "say" (nE 1 ax))) ax))))
 (aF (hG (bc (aW (fI true) (av 8) (cF (.str "")))) (aS 9 (aK (ar (aK (dR "do" (ar (cF .non) (dR "r" (aG 8 (ar (aB cq (aG 0 (nE 10 ax))) ax)))))) (ar (aK (dR "say" (nE 1 ax))) ax)))) il)
 (yD (Ak nN (av 7) (ar (aK (ar (aK ax) (aG 9 ax))) ax))))))
 (aF (aS 10 (aB cq (aG 0 (nE 8 ax))))
 (aF (aS 11 (aK (ar (aK (dR "do" (dR "x" (dR "r" (dR "ask" (aG 10 ax)))))) (ar (aK (dR "do" (ar (cF .non) (dR "r" (dR "calla" (nE 0 ax)))))) (ar (aK (dR "do" (dR "y" (dR "r" (dR "ask" (aG 10 ax)))))) ax)))))
 (aF (aS 11 (aW bE (av 11) (aK (ar (aK (dR "do" (ar (cF .non) (dR "r" (dR "calla" (nE 0 ax)))))) (ar (aK (dR "do" (dR "z" (dR "r" (dR "ask" (aG 10 ax)))))) ax)))))
 (aF (yD (Ak nN (av 7) (ar (aK (ar (aK (ar (aK (dR "x" (nE 9 ax))) (ar (aK (dR "y" (nE 9 ax))) (ar (aK (dR "z" (nE 9 ax))) ax)))) (aG 11 ax))) ax)))
 (aF (aS 12 (aK (dR "r" (aG 2 (ar (aK ax) (ar (aK (ar (aK (dR "a" (dR "row" ax))) (ar (aK (dR "b" (dR "turns" ax))) ax))) (ar (tupQ (fR (bX (av 5)))) ax)))))))
 (cH (aK (ar (aK (ar (aK (aG 12 ax)) (ar (aK ax) (ar (aK ax) (ar (tupQ (fR (bX (av 7)))) ax))))) (aG 6 (aG 10 ax))))))))))))))))))
def fJ:cT:=EX 13 ix
def jO:cy:=
 (cH (tupQ (pU (cW [none,none] (r8 (bX (av 0))) (ju (nG 2 (aI (bO 0) (aI (bO 1) df)))) dW (av 1)))))
def ed:cT:=dX 1 jO
def i6:cy:=
 (aF (nQ (av 0) (ju (nG 5 (aI (bO 1) (aI (bO 2) (aI (bO 3) (aI (bO 4) (aI (bO 5) df))))))))
 (cH (aK (ar (aB ed (aG 3 ax)) (ar (cF (.int (-1))) (ar (aK ax) (ar (aK ax) (ar (tupQ (pU (cW [none] (r8 (bX (av 4))) (bO 0) dW (aK ax)))) ax))))))))
def fM:cT:=dX 6 i6
def vt:cy:=
 (aF (nQ (av 0) (ju (nG 4 (aI (bO 1) (aI (bO 2) (aI (bO 3) (aI (bO 4) df)))))))
 (aF (aS 5 (aK (ar (cF (.int (-1))) (ar (cF (.int (-1))) (nE 0 (nE 0 (nE 0 ax)))))))
 (cH (aK (ar (tupQ (pU (cW [none] (r8 (bX (av 1))) (bO 0) dW (aB fM (aG 0 ax))))) (ar (tupQ (pU (cW [none,none] (r8 (bX (av 2))) (ju (nG 2 (aI (bO 0) (aI (bO 1) df)))) dW (aK (aG 1 (ar (aK ax) ax)))))) (ar (aB ed (aG 3 ax)) (ar (tupQ (pU (cW [none,none,some 5] (r8 (bX (av 4))) (ju (nG 2 (aI (bO 0) (aI (bO 1) df)))) dW (aK (ar (aB ed (aG 0 ax)) (ar (aK (aG 2 ax)) ax)))))) ax))))))))
def sC:cT:=dX 6 vt
def iL:cy:=
 (cH (cX (cX (cX (dM 0 3) (av 1)) (bI 1)) (sP (bI 1))))
def bM:cT:=dX 2 iL
def mO:cy:=
 (aF (BA 3 4 (gK 2 0 (gK 2 1 ax)))
 (aF (hG (bc (aW (fI false) (av 3) (cF (.int (-1))))) (cH (cX (cX (dM 0 3) (av 1)) (bI 1))) il)
 (cH (cX (cX (cX (cX (dM 0 0) (av 3)) (bI 4)) (av 4)) (bI 1)))))
def dz:cT:=dX 5 mO
def lE:cy:=
 (CW (cW [none] (r8 (bX (av 0))) (bO 0) dW (dM 0 0)))
def cR:cT:=dX 1 lE
def ml:cy:=
 (cH (EE (pU (eJ cR (aG 0 ax))) (av 1)))
def b_:cT:=dX 2 ml
def j7:cy:=
 (cH (aW bE (aW bE (pj (av 0) pS (o7 (av 1))) (aK (aG 2 ax))) (pj (av 0) (o7 (aW bE (av 1) (bI 1))) pS)))
def cp:cT:=dX 3 j7
def jW:cy:=
 (cH (aW bE (pj (av 0) pS (o7 (bI 3))) (aK (ar (aB cp (gK 0 3 (aG 1 (ar (aK (aG 2 (aG 3 ax))) ax)))) ax))))
def dt:cT:=dX 4 jW
def j0:cy:=
 (cH (aW bE (aK (ar (aB cp (gK 0 0 (aG 1 (aG 2 ax)))) ax)) (pj (av 0) (o7 (bI 1)) pS)))
def bQ:cT:=dX 3 j0
def gL:cy:=
 (aF (aS 5 (cX (aB bM (aG 1 (aG 2 ax))) (bI 0)))
 (aF (hG (bc (aW (fI true) (av 5) (cF (.int (-1))))) (aF (aS 6 (aB b_ (ar (cX (cX (dM 0 0) (av 5)) (bI 2)) (aG 3 ax))))
 (aF (aS 7 (aB cp (ar (cX (cX (dM 1 0) (av 5)) (bI 0)) (aG 6 (aG 4 ax)))))
 (cH (aB bQ (aG 1 (aG 5 (ar (aW bE (aK (aG 7 ax)) (pj (cX (dM 1 0) (av 5)) (o7 (bI 1)) pS)) ax))))))) il)
 (aF (hG (bc (zC false (av 3) (pU (eJ cR (gK 0 2 ax))))) (aF (aS 8 (aB cp (gK 1 2 (ar (aB b_ (gK 0 2 (aG 3 ax))) (aG 4 ax)))))
 (cH (aK (gK 1 0 (gK 1 1 (aG 8 (gK 1 3 ax))))))) il)
 (aF (nQ (cX (dM 1 3) (av 2)) (ju (nG 2 (aI (bO 7) (aI (bO 9) df)))))
 (aF (aS 6 (aB b_ (ar (cX (cX (dM 0 3) (av 2)) (bI 0)) (aG 3 ax))))
 (cH (aB dt (aG 1 (aG 2 (ar (aB cp (aG 7 (aG 6 (aG 4 ax)))) (aG 9 ax)))))))))))
def dm:cT:=dX 10 gL
def fX:cy:=
 (aF (hG (bc (aW (fI false) (av 0) (cF (.str "plus")))) (cH (vg minD (ar (aW bE (av 1) (av 2)) (ar (cF (.int (9))) ax)))) il)
 (aF (hG (bc (aW (fI false) (av 0) (cF (.str "minus")))) (cH (vg maxD (ar (aW Ag (av 1) (av 2)) (nE 0 ax)))) il)
 (aF (hG (bc (aW (fI false) (av 0) (cF (.str "less")))) (cH (sA (bc (aW Ik (av 1) (av 2))) (bI 1) (bI 0))) il)
 (aF (hG (bc (aW (fI false) (av 0) (cF (.str "same")))) (cH (sA (bc (aW (fI false) (av 1) (av 2))) (bI 1) (bI 0))) il)
 (cH (sA (tX (bc (aW (fI true) (av 1) (bI 0))) (bc (aW (fI true) (av 2) (bI 0)))) (bI 1) (bI 0)))))))
def et:cT:=dX 3 fX
def lR(self:cT):cy:=
 (aF (hG (jK (l6 "int" (av 0))) (cH (av 0)) il)
 (aF (hG (jK (l6 "str" (av 0))) (cH (F_ (av 1) (av 0))) il)
 (aF (hG (bc (aW (fI false) (dM 0 0) (cF (.str "waits")))) (cH (sA (bc (aW Gg (F_ (av 2) (dM 0 1)) (bI 0))) (bI 1) (bI 0))) il)
 (aF (aS 3 (aB self (gK 0 1 (aG 1 (aG 2 ax)))))
 (aF (hG (bc (aW (fI false) (dM 0 0) (cF (.str "not")))) (cH (sA (bc (aW (fI false) (av 3) (bI 0))) (bI 1) (bI 0))) il)
 (cH (aB et (gK 0 0 (aG 3 (ar (aB self (gK 0 2 (aG 1 (aG 2 ax)))) ax))))))))))
def d0:Nat->cT
 |0=>λ_ _=>none
 |n+1=>dX 4 (lR (d0 n))
def jf:cy:=
 (aF (aS 4 (aB bM (aG 1 (aG 2 ax))))
 (aF (aS 5 (dM 4 0))
 (aF (hG (bc (aW (fI false) (av 5) (cF (.int (-1))))) (aF (aS 6 (EM (pU (eJ cR (gK 0 2 ax))) (bX (dM 1 2))))
 (aF (yD (BP (av 6) (EM (pU (eJ cR (ar (cX (cX (dM 0 3) (av 2)) (bI 0)) ax))) (bX (cX (cX (dM 1 3) (av 2)) (bI 0))))))
 (cH (aB (d0 6) (aG 3 (aG 6 (ar Hn ax))))))) il)
 (aF (aS 6 (EM (pU (eJ cR (ar (cX (cX (dM 0 0) (av 5)) (bI 2)) ax))) (bX (cX (cX (dM 1 0) (av 5)) (bI 0)))))
 (aF (GV (av 6) (cF (.str "given")) (dM 4 3))
 (aF (FT 7 (mi [none,none] (z4 (pU (eJ cR (ar (cX (cX (dM 0 0) (av 5)) (bI 3)) ax))) (bX (cX (cX (dM 1 0) (av 5)) (bI 4)))) (ju (nG 2 (aI (bO 0) (aI (bO 1) df)))) dW (av 0) (jq (bX (av 1)))))
 (cH (aB (d0 6) (aG 3 (aG 6 (aG 7 ax)))))))))))
def cB:cT:=dX 8 jf
def sX:cy:=
 (cH (aB dm (aG 0 (aG 1 (aG 2 (gK 3 1 (ar (aB cB (aG 0 (aG 1 (aG 2 (gK 3 2 ax))))) ax)))))))
def ng:cT:=dX 4 sX
def d_:cy:=
 (aF (nQ (cX (dM 0 3) (av 1)) (ju (nG 2 (aI (bO 3) (aI (bO 4) df)))))
 (cH (aB dt (aG 0 (aG 1 (aG 3 (ar (aW bE (pj (av 4) pS (o7 (sP (bI 1)))) (aK (aG 2 ax))) ax)))))))
def cC:cT:=dX 5 d_
def su:cy:=
 (aF (aS 3 (aB bM (aG 0 (aG 1 ax))))
 (cH (aB cC (aG 0 (aG 1 (ar (aW bE (aW bE (pj (av 3) pS (o7 (bI 2))) (aK (aG 2 ax))) (pj (av 3) (o7 (bI 3)) pS)) ax))))))
def gV:cT:=dX 4 su
def jU:cy:=
 (aF (hG (bc (aW (fI false) (aB cB (aG 0 (aG 1 (aG 2 (gK 3 1 ax))))) (bI 0))) (cH (aB gV (aG 1 (aG 2 (gK 3 2 ax))))) il)
 (cH (av 1)))
def gU:cT:=dX 4 jU
def wD:cy:=
 (cH (aB gV (aG 1 (aG 2 (gK 3 1 ax)))))
def tm:cT:=dX 4 wD
def n_:cy:=
 (aF (nQ (cX (dM 0 0) (av 1)) (ju (nG 5 (aI (bO 3) (aI (bO 4) (aI (bO 5) (aI (bO 6) (aI (bO 7) df))))))))
 (aF (hG (bc (aW (fI false) (av 4) (cF (.int (-1))))) (cH (aB bQ (aG 0 (aG 1 (ar (aK (aG 3 (aG 2 (aG 5 (aG 6 (aG 7 ax)))))) ax))))) il)
 (cH (aB bQ (aG 0 (aG 1 (ar (aK (aG 3 (aG 4 (ar (aW bE (av 5) (aK (aG 2 ax))) (aG 6 (aG 7 ax)))))) ax)))))))
def iB:cT:=dX 8 n_
def vR:cy:=
 (aF (aS 4 (aB b_ (gK 0 0 (gK 3 2 ax))))
 (aF (aS 5 (aB b_ (ar (cX (cX (dM 0 0) (av 4)) (bI 4)) (gK 3 3 ax))))
 (aF (aS 6 (aK (aG 4 (aG 5 (nE 0 (ar (aB cB (aG 0 (aG 1 (aG 2 (gK 3 4 ax))))) (nE 0 ax)))))))
 (aF (nQ (cX (dM 1 3) (av 2)) (ju (nG 2 (aI (bO 7) (aI (bO 8) df)))))
 (cH (aB iB (ar (aB dt (aG 1 (aG 2 (aG 7 (ar (aW bE (av 8) (aK (aG 6 ax))) ax))))) (aG 4 (aG 2 ax)))))))))
def sZ:cT:=dX 9 vR
def oE:cy:=
 (aF (aS 4 (cX (aB bM (aG 1 (aG 2 ax))) (bI 0)))
 (cH (aK (aG 4 (ar (aB b_ (ar (cX (cX (dM 0 0) (av 4)) (bI 3)) (aG 3 ax))) ax)))))
def gy:cT:=dX 5 oE
def jZ:cy:=
 (aF (aS 4 (cX (dM 0 0) (av 1)))
 (cH (aB bQ (aG 0 (aG 1 (ar (aW bE (pj (av 4) pS (o7 (bI 4))) (aK (ar (aB cp (gK 4 4 (aG 2 (aG 3 ax)))) ax))) ax))))))
def dv:cT:=dX 5 jZ
def wb:cy:=
 (aF (nQ (cX (dM 0 0) (av 1)) (ju (nG 5 (aI (bO 2) (aI (bO 3) (aI (bO 4) (aI (bO 5) (aI (bO 6) df))))))))
 (aF (hG (jK (av 5)) (cH (aB bQ (aG 0 (aG 1 (ar (aK (aG 2 (gK 5 0 (aG 4 (ar (pj (av 5) (o7 (bI 1)) pS) (aG 6 ax)))))) ax))))) il)
 (aF (hG (jK (av 4)) (cH (aB bQ (aG 0 (aG 1 (ar (aK (aG 2 (gK 4 0 (ar (pj (av 4) (o7 (bI 1)) pS) (aG 5 (aG 6 ax)))))) ax))))) il)
 (cH (aB bQ (aG 0 (aG 1 (ar (aK (aG 2 (ar (cF (.int (-1))) (aG 4 (aG 5 (aG 6 ax)))))) ax))))))))
def mw:cT:=dX 7 wb
def oP:cy:=
 (aF (nQ (aB gy (aG 0 (aG 1 (aG 2 (gK 3 1 ax))))) (ju (nG 2 (aI (bO 4) (aI (bO 5) df)))))
 (aF (aS 6 (bI 0))
 (aF (hG (bc (aW (fI false) (cX (cX (cX (cX (dM 0 0) (av 4)) (bI 3)) (av 5)) (bI 1)) (cF (.str "turns")))) (aS 6 (aB cB (aG 0 (aG 1 (aG 2 (gK 3 2 ax)))))) il)
 (aF (aS 7 (cX (cX (cX (dM 1 0) (av 4)) (bI 4)) (av 5)))
 (aF (aS 8 (jq (pU (cW [none,none,some 6] (r8 (bX (av 7))) (ju (nG 2 (aI (bO 0) (aI (bO 1) df)))) (bc (aW G_ (av 0) (av 2))) (av 0)))))
 (aF (aS 9 (aB dv (aG 1 (aG 4 (aG 5 (ar (aW bE (aW bE (pj (av 7) pS (o7 (av 8))) (aK (ar (aK (aG 6 (aG 2 ax))) ax))) (pj (av 7) (o7 (av 8)) pS)) ax))))))
 (cH (aB mw (aG 9 (aG 4 ax))))))))))
def k_:cT:=dX 10 oP
def nX:cy:=
 (aF (nQ (aB gy (aG 0 (aG 1 (aG 2 (gK 3 1 ax))))) (ju (nG 2 (aI (bO 4) (aI (bO 5) df)))))
 (aF (aS 6 (cX (cX (cX (dM 1 0) (av 4)) (bI 4)) (av 5)))
 (aF (hG (vG (jK (av 6))) (cH (av 1)) il)
 (aF (aS 7 (aB dv (aG 1 (aG 4 (aG 5 (ar (pj (av 6) (o7 (bI 1)) pS) ax))))))
 (aF (hG (bc (aW (fI false) (cX (cX (dM 0 0) (av 4)) (bI 1)) (cF (.str "when free")))) (cH (av 7)) il)
 (aF (nQ (cX (dM 7 0) (av 4)) (ju (nG 5 (aI (bO 8) (aI (bO 9) (aI (bO 10) (aI (bO 11) (aI (bO 12) df))))))))
 (cH (aB bQ (aG 7 (aG 4 (ar (aK (aG 8 (ar (cX (dM 6 0) (bI 1)) (aG 10 (ar (aW bE (av 11) (aK (aG 2 ax))) (aG 12 ax)))))) ax)))))))))))
def kU:cT:=dX 13 nX
def rg:cy:=
 (aF (nQ (aB gy (aG 0 (aG 1 (aG 2 (gK 3 1 ax))))) (ju (nG 2 (aI (bO 4) (aI (bO 5) df)))))
 (cH (aB dv (aG 1 (aG 4 (aG 5 (ar (aK ax) ax)))))))
def nF:cT:=dX 6 rg
def pw:cy:=
 (aF (aS 4 (aB cB (aG 0 (aG 1 (aG 2 (gK 3 1 ax))))))
 (cH (aB cC (aG 1 (aG 2 (ar (aW bE (pj (aB bM (aG 1 (aG 2 ax))) pS (o7 (bI 4))) (aK (aG 4 ax))) ax))))))
def kq:cT:=dX 5 pw
def jM:cy:=
 (cH (aW bE (aK (gK 0 0 (ar (aB cp (gK 0 1 (aG 1 (aG 2 ax)))) ax))) (pj (av 0) (o7 (bI 2)) pS)))
def dj:cT:=dX 3 jM
def vF:cy:=
 (aF (aS 4 (aB b_ (gK 0 1 (aG 3 ax))))
 (aF (nQ (cX (dM 1 1) (av 4)) (ju (nG 2 (aI (bO 5) (aI (bO 6) df)))))
 (aF (hG (bc (aW Gg (av 5) (bI 0))) (cH (aB dj (aG 1 (aG 4 (ar (aK (ar (aW Ag (av 5) (bI 1)) (aG 6 ax))) ax))))) il)
 (cH (aB dj (aG 1 (aG 4 (ar (aK (aG 5 (ar (aW bE (av 6) (aK (aG 2 ax))) ax))) ax))))))))
def pF:cT:=dX 7 vF
def oZ:cy:=
 (cH (aB pF (aG 0 (aG 1 (aG 2 (gK 3 1 ax))))))
def kA:cT:=dX 4 oZ
def iG:cy:=
 (aF (aS 3 (aB b_ (gK 0 1 (aG 2 ax))))
 (aF (nQ (cX (dM 1 1) (av 3)) (ju (nG 2 (aI (bO 4) (aI (bO 5) df)))))
 (aF (hG (jK (av 5)) (cH (aB dj (aG 1 (aG 3 (ar (aK (aG 4 (ar (pj (av 5) (o7 (bI 1)) pS) ax))) ax))))) il)
 (cH (aB dj (aG 1 (aG 3 (ar (aK (ar (vg minD (ar (aW bE (av 4) (bI 1)) (ar (cF (.int (9))) ax))) (aG 5 ax))) ax))))))))
def eI:cT:=dX 6 iG
def pG:cy:=
 (cH (aB eI (aG 0 (aG 1 (gK 3 1 ax)))))
def lj:cT:=dX 4 pG
def nH:cy:=
 (cH (aB pF (aG 0 (ar (aB eI (aG 0 (aG 1 (gK 3 1 ax)))) (aG 2 (gK 3 2 ax))))))
def kR:cT:=dX 4 nH
def rY:cy:=
 (cH (av 1))
def nk:cT:=dX 4 rY
def jm:List (Str×Str):= [("put","by_put"),("unless","by_unless"),("go","by_go"),("do","by_do"),("wait","by_wait"),("call","by_call"),("all","by_all"),("tell","by_tell"),("take","by_take"),("give","by_give"),("pass","by_pass"),("say","by_say")]
def ph:List (Str×cT):= [("by_put",ng),("by_unless",gU),("by_go",tm),("by_do",sZ),("by_wait",k_),("by_call",kU),("by_all",nF),("by_tell",kq),("by_take",kA),("by_give",lj),("by_pass",kR),("by_say",nk)]
def qj:cy:=
 (aF (aS 4 (GY jm (dM 3 0)))
 (cH (pN 4 ph (aG 0 (aG 1 (aG 2 (aG 3 ax)))))))
def gD:cT:=dX 5 qj
def lU:cy:=
 (aF (nQ (cX (dM 1 3) (av 2)) (ju (nG 2 (aI (bO 3) (aI (bO 4) df)))))
 (aF (nQ (cX (av 4) (sP (bI 1))) (ju (nG 5 (aI (bO 5) (aI (bO 6) (aI (bO 7) (aI (bO 8) (aI (bO 9) df))))))))
 (aF (aS 10 (aB dt (ar (aB mw (aG 1 (aG 5 ax))) (aG 2 (aG 3 (ar (pj (av 4) pS (o7 (sP (bI 1)))) ax))))))
 (aF (aS 11 (cX (aB dz (aG 0 (aG 2 (ar (cX (av 4) (sP (bI 2))) ax)))) (aW Ag (cX (cX (av 4) (sP (bI 2))) (bI 2)) (bI 1))))
 (aF (hG (bc (aW (uN false) (dM 11 1) (cF .non))) (cH (av 10)) il)
 (cH (aB dm (aG 0 (aG 10 (aG 2 (gK 11 1 (aG 9 ax))))))))))))
def gf:cT:=dX 12 lU
def iO:cy:=
 (aF (aS 3 (aB bM (aG 1 (aG 2 ax))))
 (aF (aS 4 (dM 3 0))
 (aF (hG (tX (bc (aW (fI true) (av 4) (cF (.int (-1))))) (bc (aW (fI true) (cX (cX (dM 1 0) (av 4)) (bI 1)) (av 2)))) (cH (aK (ar (aB iB (aG 1 (aG 4 (aG 2 ax)))) (ar (cF .non) ax)))) il)
 (aF (aS 5 (aB dz (aG 0 (aG 2 (aG 3 ax)))))
 (aF (hG (bc (aW (fI false) (dM 3 2) (jq (bX (av 5))))) (cH (aK (ar (aB gf (aG 0 (aG 1 (aG 2 ax)))) (ar (cF .non) ax)))) il)
 (aF (aS 6 (cX (av 5) (dM 3 2)))
 (aF (aS 7 (cF .non))
 (aF (hG (bc (aW (fI false) (dM 6 0) (cF (.str "say")))) (aS 7 (aK (aG 2 (ar (aB cB (aG 0 (aG 1 (aG 2 (gK 6 1 ax))))) ax)))) il)
 (cH (aK (ar (aB gD (aG 0 (ar (aB gV (aG 1 (aG 2 (ar (aW bE (dM 3 2) (bI 1)) ax)))) (aG 2 (aG 6 ax))))) (aG 7 ax))))))))))))
def kN:cT:=dX 8 iO
def lA:cy:=
 (CW (cW [none,none] (r8 (bX (av 0))) (ju (nG 2 (aI (bO 0) (aI (bO 1) df)))) dW (av 1)))
def jh:cT:=dX 1 lA
def fw:cy:=
 (aF (aS 1 (iM (fg ax)))
 (aF (m_ (r8 (bX (dM 0 1))) (ju (nG 2 (aI (bO 2) (aI (bO 3) df)))) (yD (qI (av 1) (bX (av 3)))))
 (aF (m_ (r8 (bX (dM 0 0))) (ju (nG 5 (aI (bO 4) (aI (bO 5) (aI (bO 3) (aI (bO 6) (aI (bO 7) df))))))) (aF (yD (qI (av 1) (bX (aW bE (av 3) (av 6)))))
 (m_ (r8 (bX (av 7))) (bO 8) (yD (y3 (av 1) (pU (eJ jh (aG 8 ax))))))))
 (cH (av 1)))))
def cY:cT:=dX 9 fw
def fE:cy:=
 (aF (aS 3 (aB bM (aG 1 (aG 2 ax))))
 (cH (uo (aW (fI false) (dM 3 0) (cF (.int (-1)))) (aW (fI false) (dM 3 2) (jq (bX (aB dz (aG 0 (aG 2 (aG 3 ax))))))))))
def dI:cT:=dX 4 fE
def lD:cy:=
 (aF (aS 2 (iM (eJ cY (aG 1 ax))))
 (CW (cW [none,some 0,some 1,some 2] (ub (jq (bX (dM 1 3)))) (bO 0) (tX (bc (zC true (av 0) (bX (av 3)))) (vG (jK (aB dI (aG 1 (aG 2 (aG 0 ax))))))) (av 0))))
def jb:cT:=dX 3 lD
def sg:cy:=
 (aF (aS 2 (aB sC (aG 0 ax)))
 (aF (aS 3 (iM (fg ax)))
 (aF (m_ (qG (bX (av 1))) (ju (nG 2 (aI (bO 4) (aI (bO 5) df)))) (aF (hG (bc (zC true (av 5) (pU (eJ jb (aG 0 (aG 2 ax)))))) never il)
 (aF (nQ (aB kN (aG 0 (aG 2 (aG 5 ax)))) (ju (nG 2 (aI (bO 2) (aI (bO 6) df)))))
 (hG (bc (aW (uN true) (av 6) (cF .non))) (yD (Ak nN (av 3) (aG 6 ax))) il))))
 (cH (aK (aG 2 (ar (tupQ (fR (bX (av 3)))) ax)))))))
def nj:cT:=dX 7 sg
def fB(self:cT):cy:=
 (aF (hG (jK (l6 "tuple" (av 1))) (aF (hG (EO (vG (jK (l6 "tuple" (av 0)))) (bc (aW (fI true) (jq (bX (av 0))) (jq (bX (av 1)))))) (cH (cF (.bl false))) il)
 (cH (Bp (pU (cW [none,none] (z4 (bX (av 0)) (bX (av 1))) (ju (nG 2 (aI (bO 0) (aI (bO 1) df)))) dW (aB self (aG 0 (aG 1 ax)))))))) il)
 (aF (hG (EO (jK (l6 "str" (av 1))) (bc (aW (uN false) (av 1) (cF .non)))) (cH (uo (aW (fI false) (l6 "str" (av 0)) (l6 "str" (av 1))) (aW (fI false) (av 0) (av 1)))) il)
 (cH (uo (l6 "int" (av 0)) (uo (BO (l6 "bool" (av 0))) (aW (fI false) (av 0) (av 1)))))))
def dY:Nat->cT
 |0=>λ_ _=>none
 |n+1=>dX 2 (fB (dY n))
def fW:cy:=
 (aF (aS 2 (aK ax))
 (aF (m_ (qG (bX (av 1))) (ju (nG 2 (aI (bO 3) (aI (bO 4) df)))) (aS 2 (aW bE (av 2) (aW mf (aK (aG 3 ax)) (aW iR (bI 2) (vg intOfD (ar (aW (fI true) (av 4) (cF (.str ""))) ax)))))))
 (aF (aS 5 (jq (bX (av 1))))
 (aF (aS 2 (aW bE (av 2) (aW mf (aK (aG 5 ax)) (bI 3))))
 (aF (aS 6 (iM (cW [none,none] (qG (bX (av 1))) (ju (nG 2 (aI (bO 0) (aI (bO 1) df)))) (bc (aW (fI false) (av 1) (cF (.str "staya")))) (av 0))))
 (aF (m_ (ub (bI 2)) (bO 7) (aF (aS 2 (aW bE (av 2) (aK (aG 5 (aG 5 ax)))))
 (aF (hG (bc (nI (bX (av 6)))) (aF (aS 3 (Ak nO (av 6) (nE 0 ax)))
 (aS 2 (aW bE (av 2) (aW mf (aK (aG 3 ax)) (vg intOfD (ar (aW (fI false) (cX (cX (dM 0 0) (bI 0)) (bI 1)) (cF (.str "at once"))) ax)))))) il)
 (aS 2 (aW bE (av 2) (aW mf (aK (aG 5 ax)) (bI 4)))))))
 (cH (av 2))))))))
def eh:cT:=dX 8 fW
def l8:cy:=
 (aF (aS 2 (iM (fg ax)))
 (aF (m_ (ub (bI 3)) (bO 3) (aF (aS 4 (vg intOfD (ar (aW Gg (B4 (bX (av 0)) (cF (.str "staya"))) (av 3)) ax)))
 (aF (aS 5 (aW iR (bI 2) (vg intOfD (ar (zC false (cF (.str "stayb")) (bX (av 0))) ax))))
 (yD (Ak nN (av 2) (ar (vg minD (nE 9 (ar (aW bE (aW bE (av 4) (av 5)) (av 1)) ax))) ax))))))
 (cH (tupQ (fR (bX (av 2)))))))
def i_:cT:=dX 6 l8
def EI:cy:=
 (aF (m_ (ub (vg maxD (nE 1 (ar (vg minD (ar (jq (bX (av 0))) (nE 8 ax))) ax)))) (bO 1) (aF (aS 2 (iM (eJ jd (aG 0 (aG 1 ax)))))
 (aF (nQ (aB fJ (aG 2 (ar (aW bE (bI 3) (aB cq (aG 2 (nE 2 ax)))) ax))) (ju (nG 3 (aI (bO 3) (aI (bO 4) (aI (bO 5) df))))))
 (aF (aS 6 (cX (aB nj (aG 3 (ar (aB eh (aG 3 (aG 4 ax))) ax))) (bI 0)))
 (hG (vG (jK (aB (dY 10) (ar (cX (cX (dM 6 3) (jq (bX (av 4)))) (bI 0)) (ar (aB i_ (aG 4 (aG 5 ax))) ax))))) (cH (cF (.bl false))) il)))))
 (cH (cF (.bl true))))
def BJ:cT:=dX 7 EI
def top(i:Nat):Stmt:=PySem.Challenge.pw_calledroom_k26_who_waits_told.main.body.getD i (.Pass ⟨0,0,0,0⟩)
abbrev ke:Stmt:=top 56
abbrev iY:Stmt:=top 57
abbrev iq:Stmt:=top 58
abbrev gQ:Stmt:=top 60
abbrev i8:Stmt:=top 10
abbrev gS:Stmt:=top 12
abbrev qW:Stmt:=top 11
abbrev gZ:Stmt:=top 13
abbrev g5:Stmt:=top 14
abbrev kg:Stmt:=top 23
abbrev jN:Stmt:=top 25
abbrev iQ:Stmt:=top 15
abbrev i3:Stmt:=top 18
abbrev iT:Stmt:=top 16
abbrev iC:Stmt:=top 27
abbrev fF:Stmt:=top 6
abbrev kc:Stmt:=top 5
abbrev jI:Stmt:=top 26
abbrev oJ:Stmt:=top 31
abbrev dH:Stmt:=top 19
abbrev nL:Stmt:=top 20
abbrev i7:Stmt:=top 32
abbrev rT:Stmt:=top 33
abbrev l_:Stmt:=top 28
abbrev sG:Stmt:=top 34
abbrev lG:Stmt:=top 35
abbrev iP:Stmt:=top 36
abbrev si:Stmt:=top 29
abbrev lL:Stmt:=top 37
abbrev lY:Stmt:=top 38
abbrev nY:Stmt:=top 39
abbrev lJ:Stmt:=top 40
abbrev iK:Stmt:=top 17
abbrev r_:Stmt:=top 42
abbrev lF:Stmt:=top 41
abbrev g7:Stmt:=top 44
abbrev mr:Stmt:=top 43
abbrev mj:Stmt:=top 45
abbrev oD:Stmt:=top 46
abbrev j_:Stmt:=top 48
abbrev ka:Stmt:=top 30
abbrev me:Stmt:=top 54
abbrev j9:Stmt:=top 21
abbrev eN:Stmt:=top 51
abbrev eP:Stmt:=top 52
abbrev jV:Stmt:=top 50
abbrev oO:Stmt:=top 53
abbrev iW:Stmt:=top 59
abbrev fj:Stmt:=top 61
abbrev jR:Stmt:=top 62
abbrev kJ:Stmt:=top 63
end W28
namespace W28
open PySem PySem.Spec L2 DL PyProof.Rows
abbrev vp:List Str:= ["_law_found","_law_due_here"]
abbrev Cy:List Str:= ["_law_pot_here","_law_hands"]
abbrev Co:List Str:= ["_law_pot_here","_law_many"]
abbrev A9:List Str:= ["_law_pot_here","_law_some"]
abbrev xq:List Str:= ["_law_script","_law_k"]
abbrev zG:List Str:= ["_law_script"]
abbrev xr:List Str:= ["_law_ways","_law_given"]
abbrev xN:List Str:= ["_law_world_here","_law_ways"]
abbrev uI:List Str:= ["form","first","second"]
abbrev u5:List Str:= ["line"]
abbrev uT:List Str:= ["parts","at","part"]
abbrev tR:List Str:= ["roll","name"]
abbrev uO:List Str:= ["roll"]
abbrev tP:List Str:= ["room"]
abbrev uD:List Str:= ["scene","at","room"]
abbrev u6:List Str:= ["scene","at","turnstile"]
abbrev xc:List Str:= ["scene","hand","frame"]
abbrev xO:List Str:= ["scene","hand","row"]
abbrev uY:List Str:= ["scene","hand","values","frames"]
abbrev uC:List Str:= ["scene","hand"]
abbrev x8:List Str:= ["scene","room","bell","line"]
abbrev xj:List Str:= ["scene","room","hand"]
abbrev xg:List Str:= ["scene","room"]
abbrev xA:List Str:= ["scene"]
abbrev uR:List Str:= ["things"]
abbrev qP:List Str:= ["tree","things","waiting"]
abbrev xl:List Str:= ["world","hand","frame"]
abbrev xJ:List Str:= ["world","scene","hand","name"]
abbrev a_:List Str:= ["world","scene","hand","row"]
abbrev xZ:List Str:= ["world","scene","hand","tree"]
abbrev xC:List Str:= ["world","scene","hand","word","value"]
abbrev xU:List Str:= ["world","scene","hand","word"]
abbrev hZ:List Str:= ["world","scene","hand"]
abbrev xE:List Str:= ["world","scene","name"]
abbrev wY:List Str:= ["world","scene"]
abbrev w9:List Str:= ["world","weaving"]
abbrev xT:List Str:= ["world"]
section
variable(P:Program)(w:World)(K:PySem.W.Frag)(mg:Str->Option Value)(base:Heap)
abbrev wG:Prop:=eB P w K mg base 1 "_law_pot" xq jd
abbrev iE:Prop:=eB P w K mg base 1 "_law_take" Co cq
abbrev uQ:Prop:=eB P w K mg base 2 "_law_pick" A9 gR
abbrev rO:Prop:=eB P w K mg base 3 "_law_world" Cy fJ
abbrev mE:Prop:=eB P w K mg base 1 "values_of" uR ed
abbrev sV:Prop:=eB P w K mg base 2 "begun_room" tP fM
abbrev Ct:Prop:=eB P w K mg base 3 "begun" xT sC
abbrev cI:Prop:=eB P w K mg base 1 "last_frame" uC bM
abbrev hV:Prop:=eB P w K mg base 1 "program_of" xl dz
abbrev kd:Prop:=eB P w K mg base 1 "names_of" uO cR
abbrev ft:Prop:=eB P w K mg base 2 "place_of" tR b_
abbrev eF:Prop:=eB P w K mg base 1 "with_part" uT cp
abbrev fO:Prop:=eB P w K mg base 2 "with_hand" uY dt
abbrev eC:Prop:=eB P w K mg base 2 "with_room" uD bQ
abbrev mI:Prop:=eB P w K mg base 3 "put_thing" xC dm
abbrev nW:Prop:=eB P w K mg base 1 "value_of_two" uI et
abbrev wU:Prop:=eB P w K mg base 8 "value_of" qP (d0 6)
abbrev dZ:Prop:=eB P w K mg base 9 "reckoned" xZ cB
abbrev fN:Prop:=eB P w K mg base 3 "with_last_frame" xc cC
abbrev ox:Prop:=eB P w K mg base 4 "at_row" xO gV
abbrev qN:Prop:=eB P w K mg base 3 "come_in" xj iB
abbrev lH:Prop:=eB P w K mg base 3 "bell_of" xU gy
abbrev iu:Prop:=eB P w K mg base 3 "with_line" x8 dv
abbrev xR:Prop:=eB P w K mg base 3 "leave" xg mw
abbrev mR:Prop:=eB P w K mg base 2 "with_pass" u6 dj
abbrev wZ:Prop:=eB P w K mg base 3 "taken" xJ pF
abbrev kF:Prop:=eB P w K mg base 3 "given_back" xE eI
abbrev vD:Prop:=eB P w K mg base 11 "row_done" a_ gD
abbrev v5:Prop:=eB P w K mg base 4 "end_deed" hZ gf
abbrev yY:Prop:=eB P w K mg base 12 "step_of" hZ kN
abbrev vh:Prop:=eB P w K mg base 1 "hands_at" u5 jh
abbrev mY:Prop:=eB P w K mg base 2 "hands_in_rows" xA cY
abbrev mZ:Prop:=eB P w K mg base 2 "is_behind_all" hZ dI
abbrev vX:Prop:=eB P w K mg base 3 "may_step" wY jb
abbrev z9:Prop:=eB P w K mg base 13 "walked" w9 nj
abbrev tN:Prop:=eB P w K mg base 11 "_law_same" vp (dY 10)
abbrev pH:Prop:=eB P w K mg base 1 "_law_weaving" xN eh
abbrev vP:Prop:=eB P w K mg base 1 "_law_due" xr i_
end
def Hm{X:Cx}{a:Expr}{pos:Pos}{f:dU}{p:Pos}(d:Gl X "len")(b:X.mg "len"=none)(c:PE X a (tQ (md X) f))(e:starEach [a] X.env= [(false,eval a X.env)]):PE X (.Call (.Name "len" p) [a] [] pos) (tD (md X) (jq f)):=Gk d b c e
def eA{X:Cx}{pos:Pos}{N:List Str}{js:List (Option Nat)}{a:Scope}{c:List (Str×Addr)}{h b d:Expr}{e:List Expr}{i:qg}{g:jt}{t:gM}{f:aV}(S:aR X N js a c)(k:X.calm=true)(hi:PI X h b (tI (md X) i))(l:∀C s H fp,PG (aD X N a c C s H fp) h (tG (md (aD X N a c C s H fp)) g))(m:∀C s H fp,jH (aD X N a c C s H fp) e (tB (md (aD X N a c C s H fp)) t))(he:∀C s H fp,PE (aD X N a c C s H fp) d (tD (md (aD X N a c C s H fp)) f))(j:∀x,foldedSetIterable b X.env x=pure x:=by intro _;rfl):PE X (.ListComp d [⟨h,b,e,0⟩] a pos) (tL (md X) (cW js i g t f)):=D6 S k hi l m he j
def xi{X:Cx}{pos:Pos}{N:List Str}{js:List (Option Nat)}{a:Scope}{j:List (Str×Addr)}{k b e c:Expr}{h:List Expr}{i:qg}{g:jt}{t:gM}{f:aV}{n:Nat}{d:Pos}(S:aR X N js a j)(p:X.calm=true)(hi:PI X k b (tI (md X) i))(r:∀C s H fp,PG (aD X N a j C s H fp) k (tG (md (aD X N a j C s H fp)) g))(u:∀C s H fp,jH (aD X N a j C s H fp) h (tB (md (aD X N a j C s H fp)) t))(he:∀C s H fp,PE (aD X N a j C s H fp) e (tD (md (aD X N a j C s H fp)) f))(l:PG X c (kS n))(o:∀x,foldedSetIterable b X.env x=pure x:=by intro _;rfl)(m:swapsWithSole [c] (.ListComp e [⟨k,b,h,0⟩] a pos) d.line X.env=pure true:=by rfl)(q:(assignEach [c] X.env).map (·.2)= [assign c X.env]:=by rfl):PS X (.Assign [c] (.ListComp e [⟨k,b,h,0⟩] a pos) d) (tS (md X) (aS n (iM (cW js i g t f)))):=Ds S p hi r u he l o m q
def Ay{X:Cx}{pos:Pos}{N:List Str}{js:List (Option Nat)}{a:Scope}{d:List (Str×Addr)}{h b j l c:Expr}{f:List Expr}{i:qg}{g:jt}{t:gM}{o p:aV}{n:Nat}{e:Pos}(S:aR X N js a d)(u:X.calm=true)(hi:PI X h b (tI (md X) i))(w:∀C s H fp,PG (aD X N a d C s H fp) h (tG (md (aD X N a d C s H fp)) g))(y:∀C s H fp,jH (aD X N a d C s H fp) f (tB (md (aD X N a d C s H fp)) t))(z:∀C s H fp,PE (aD X N a d C s H fp) j (tD (md (aD X N a d C s H fp)) o))(r:∀C s H fp,PE (aD X N a d C s H fp) l (tD (md (aD X N a d C s H fp)) p))(k:PG X c (kS n))(q:∀x,foldedSetIterable b X.env x=pure x:=by intro _;rfl)(m:swapsWithSole [c] (.DictComp j l [⟨h,b,f,0⟩] a pos) e.line X.env=pure true:=by rfl)(v:(assignEach [c] X.env).map (·.2)= [assign c X.env]:=by rfl):PS X (.Assign [c] (.DictComp j l [⟨h,b,f,0⟩] a pos) e) (tS (md X) (FT n (mi js i g t o p))):=BE S u hi w y z r k q m v
local macro_rules|`(tactic|ac_rfl)=>do
 let g (l:List (String×Nat)):Lean.MacroM (Array (Lean.TSyntax `Lean.Parser.Tactic.tacticSeq)):=l.toArray.mapM λ(s,k)=>do
  let ws:=((s.splitOn " ").map λn=>Lean.mkIdent n.toName).toArray
  let h←`(?_)
  let e:=Lean.Syntax.mkApp ⟨ws[0]!.raw⟩ ((ws.toList.tail!.map λw=>⟨w.raw⟩).toArray++Array.replicate k h)
  `(tacticSeq|refine $e)
 let a←g [("JT",5),("v_",5),("eM",3),("kK",0),("mT",0),("pq",3),("vC",2),("JJ",1),("GO",3),("Jx",0),("AF",1),("JU",5),("J1",1),("IZ",2),("Iw",3),("F0",0),("IW",4),("Hq",0),("Jm",5),("GR",3),("Hd",0),("Hl",1),("J2",1),("FM Fd E5",3),("Hm",4),("Jp",1),("ID",0),("Jt",2),("FP",1),("Jc",1),("Im",2),("Ju",6),("IV",0),("JG",2),("FM JI Js",3),("IR",1),("JH Fd E5",3),("Iu",4),("GL",5),("IJ",3),("H_",1),("JC",2),("Gj",6),("IM",1),("Jf",7),("I0",1),("IG",2),("Ig",2),("JK",2),("FM Iz Ja",3),("JY",5),("ES",10),("Hi",4),("JV",0),("FM Jy IA",3),("HQ",2),("Ji",3),("E7",6),("HL",4),("JD",6),("FM HJ HY",3),("EY",6),("G2",3),("JH Jz Jl",3),("Iy",4),("GM",6),("JS",3),("Gr",6),("Ip",0),("Hk",5),("FM IQ JE",3),("G5",0),("FM GS G9",3),("Jj",5),("IB",1),("JH JI Js",3),("G4",2),("GF",6),("JH Iz Ja",3),("Hy",6),("JX",3),("Ao",1),("IT",1),("IC",1),("IE",2),("Ii",1),("I_",1)]
 let b←g [("A_",1),("PassesOwn.never",0),("CZ",0),("GQ",0),("Bl.abs",1),("Bl.all",1),("Bl.bool",1),("Bl.dict",1),("Bl.enum",1),("Bl.int",1),("Bl.isi",1),("Bl.len",1),("Bl.max",1),("Bl.min",1),("Bl.range",1),("Bl.str",1),("Bl.tuple",1),("Bl.zip",1),("vC",2),("Ao",1)]
 let c←([("F4 zm EZ Bl.int",0),("Hg pk EV Bl.min",1),("HA pk EU Bl.max",1),("HI pk Fs Bl.abs",0),("str",2),("int",2),("tuple",2),("bool",2)]:List (String×Nat)).toArray.mapM λ(s,k)=>do
  let ws:=((s.splitOn " ").map λn=>Lean.mkIdent n.toName).toArray
  if k=2 then
   `(tacticSeq|refine B1 (v:=.ty $(Lean.quote s)) rfl ($(Lean.mkIdent (.str (.str .anonymous "Bl") s)) (by assumption)) $(Lean.mkIdent (.str `PyProof.Rows ("boot_" ++s))) rfl)
  else
   let e←if k=1 then `($(ws[2]!) rfl) else pure ⟨ws[2]!.raw⟩
   `(tacticSeq|((with_reducible refine Iq $(ws[0]!) ?_);refine $(ws[1]!) $e rfl ($(ws[3]!) (by assumption)) (by rfl) ?_))
 `(tactic|repeat (first
 |exact rfl
 |exact Or.inl rfl
 |(with_reducible first $[| $a]*)
 |(with_reducible first|refine PW.pt (w_and ?_ ?_)|refine PW.pt (w_or ?_ ?_))
 |refine HK (by assumption) (by assumption) ?_
 |((with_reducible refine Gq ?_ ?_ ?_ ?_ ?_ ?hsz ?_);(case hsz=>exact rfl))
 |refine Ie (by assumption) (by assumption) ?_
 |refine hJ (rX (v:=.int (-1)) rfl (by assumption) ⟨_,rfl⟩) λ_ _=>.int (-1)
 |refine hJ (rX (v:=.int (9)) rfl (by assumption) ⟨_,rfl⟩) λ_ _=>.int (9)
 |assumption
 |exact Or.inr rfl
 |exact Or.inr (Or.inl rfl)
 |exact Or.inr (Or.inr rfl)
 |decide
 |omega
 |(intro _ _;rfl)
 |(intro _;rfl)
 |(intro _ _ _;rfl)
 |exact⟨rfl,rfl,rfl,rfl,rfl,rfl,rfl⟩
 |exact λ_ _=>.int _
 |(first $[| $c]*)
 |(first $[| $b]*)))
section
variable{P:Program}{w:World}{K:PySem.W.Frag}{mg:Str->Option Value}{base:Heap}{f:Addr}{fd:FuncData}
def mD:aE ["_law_script","_law_k","_law_cell","_law_digits"] xq (aA ke):=eO
def u7(F:dD K "_law_pot" "_law_pot" ke f fd)(B:Bl mg):aY P w K mg base de 1 f fd xq (dB ⟨K,mg⟩ 2 jd):=by
 have c:=mD.nd
 refine aX F mD λb A a s H E d=> ?_
 delta lK
 ac_rfl
def lq:aE ["_law_pot_here","_law_many","_law_digit","_law_mixed"] Co (aA iY):=eO
def rZ(F:dD K "_law_take" "_law_take" iY f fd)(B:Bl mg):aY P w K mg base de 1 f fd Co (dB ⟨K,mg⟩ 2 cq):=by
 have c:=lq.nd
 refine aX F lq λb A a s H E d=> ?_
 delta jT
 ac_rfl
def rB:aE A9 A9 (aA iq):=eO
def sJ(F:dD K "_law_pick" "_law_pick" iq f fd)(B:Bl mg)(c:iE P w K mg base):aY P w K mg base de 2 f fd A9 (dB ⟨K,mg⟩ 2 gR):=by
 refine aX F rB λb A a s H E d=> ?_
 delta jJ
 ac_rfl
def jF:aE ["_law_pot_here","_law_hands","_law_manner","_law_told","_law_asked","_law_deeds","_law_ways","_law_made","_law_way","_law_rows","_law_given","_law_row","_law_room"] Cy (aA gQ):=eO
def p0(F:dD K "_law_world" "_law_world" gQ f fd)(B:Bl mg)(e:iE P w K mg base)(c:uQ P w K mg base):aY P w K mg base de 3 f fd Cy (dB ⟨K,mg⟩ 2 fJ):=by
 have d:=jF.nd
 refine Em F jF λb A a s H E g=> ?_
 delta ix
 ac_rfl
 refine xi (n:=6) (N:= ["_law_own","_law_pot_here"]) (js:= [none,some 0]) (aR.gen rfl rfl rfl rfl rfl rfl) rfl ?_ (λ_ _ _ _=> ?_) (λ_ _ _ _=> ?_) (λ_ _ _ _=> ?_) ?_
 ac_rfl
def sy:aE uR uR (aA i8):=eO
def rq(F:dD K "values_of" "values_of" i8 f fd)(B:Bl mg):aY P w K mg base de 1 f fd uR (dB ⟨K,mg⟩ 1 ed):=by
 refine aX F sy λb A a s H E c=> ?_
 delta jO
 ac_rfl
 refine eA (N:= ["word","value"]) (js:= [none,none]) (aR.gen rfl rfl rfl rfl rfl rfl) rfl ?_ (λ_ _ _ _=> ?_) (λ_ _ _ _=> ?_) (λ_ _ _ _=> ?_)
 ac_rfl
def jA:aE ["room","name","manner","things","bells","deeds"] tP (aA gS):=eO
def qi(F:dD K "begun_room" "begun_room" gS f fd)(B:Bl mg)(g:mE P w K mg base){b:Tok}(d:mg "NOBODY"=some (.int (-1) b)):aY P w K mg base de 2 f fd tP (dB ⟨K,mg⟩ 1 fM):=by
 have e:=jA.nd
 refine aX F jA λc A a s H E h=> ?_
 delta i6
 ac_rfl
 refine eA (N:= ["bell"]) (js:= [none]) (aR.gen rfl rfl rfl rfl rfl rfl) rfl ?_ (λ_ _ _ _=> ?_) (λ_ _ _ _=> ?_) (λ_ _ _ _=> ?_)
 ac_rfl
def uP:aE ["world","rooms","passes","shared","hands","own"] xT (aA qW):=eO
def zO(F:dD K "begun" "begun" qW f fd)(B:Bl mg)(h:mE P w K mg base)(d:sV P w K mg base){c:Tok}(e:mg "OWN"=some (.int (-1) c)):aY P w K mg base de 3 f fd xT (dB ⟨K,mg⟩ 1 sC):=by
 have g:=uP.nd
 refine aX F uP λb A a s H E i=> ?_
 delta vt
 ac_rfl
 refine eA (N:=tP) (js:= [none]) (aR.gen rfl rfl rfl rfl rfl rfl) rfl ?_ (λ_ _ _ _=> ?_) (λ_ _ _ _=> ?_) (λ_ _ _ _=> ?_)
 ac_rfl
 refine eA (N:= ["name","value"]) (js:= [none,none]) (aR.gen rfl rfl rfl rfl rfl rfl) rfl ?_ (λ_ _ _ _=> ?_) (λ_ _ _ _=> ?_) (λ_ _ _ _=> ?_)
 ac_rfl
 refine eA (N:= ["things","program","own"]) (js:= [none,none,some 5]) (aR.gen rfl rfl rfl rfl rfl rfl) rfl ?_ (λ_ _ _ _=> ?_) (λ_ _ _ _=> ?_) (λ_ _ _ _=> ?_)
 ac_rfl
end
section
variable{P:Program}{w:World}{K:PySem.W.Frag}{mg:Str->Option Value}{base:Heap}{f:Addr}{fd:FuncData}
def qe:aE uC uC (aA gZ):=eO
def pX(F:dD K "last_frame" "last_frame" gZ f fd)(B:Bl mg):aY P w K mg base de 1 f fd uC (dB ⟨K,mg⟩ 2 bM):=by
 refine aX F qe λb A a s H E c=> ?_
 delta iL
 ac_rfl
def jy:aE ["world","hand","frame","room","deed"] xl (aA g5):=eO
def qc(F:dD K "program_of" "program_of" g5 f fd)(B:Bl mg){e:Tok}(b:mg "OWN"=some (.int (-1) e)):aY P w K mg base de 1 f fd xl (dB ⟨K,mg⟩ 3 dz):=by
 have c:=jy.nd
 refine aX F jy λd A a s H E g=> ?_
 exact(vC (Fg (EJ (i:=3) (j:=4) rfl c rfl rfl (by decide) rfl rfl (eM (pq (v_ 2) mT) (eM (pq (v_ 2) mT) kK)) rfl))
  (vC (Iw (FM Fd E5 (v_ 3) (hJ (rX (v:=.int (-1)) rfl b ⟨_,rfl⟩) λ_ _=>.int (-1)) (A_ _)) (Ao (AF (pq (pq (pq (v_ 0) mT) (v_ 1)) mT))) F0)
  (Ao (AF (pq (pq (pq (pq (pq (v_ 0) mT) (v_ 3)) mT) (v_ 4)) mT)))))
def uH:aE uO uO (aA kg):=eO
def uV(F:dD K "names_of" "names_of" kg f fd)(B:Bl mg):aY P w K mg base de 1 f fd uO (dB ⟨K,mg⟩ 1 cR):=by
 refine aX F uH λb A a s H E c=> ?_
 delta lE
 ac_rfl
 refine eA (N:= ["row"]) (js:= [none]) (aR.gen rfl rfl rfl rfl rfl rfl) rfl ?_ (λ_ _ _ _=> ?_) (λ_ _ _ _=> ?_) (λ_ _ _ _=> ?_)
 ac_rfl
def tY:aE tR tR (aA jN):=eO
def uA(F:dD K "place_of" "place_of" jN f fd)(B:Bl mg)(c:kd P w K mg base):aY P w K mg base de 2 f fd tR (dB ⟨K,mg⟩ 2 b_):=by
 refine aX F tY λb A a s H E d=> ?_
 delta ml
 ac_rfl
def rL:aE uT uT (aA iQ):=eO
def rS(F:dD K "with_part" "with_part" iQ f fd)(B:Bl mg):aY P w K mg base de 1 f fd uT (dB ⟨K,mg⟩ 3 cp):=by
 refine aX F rL λb A a s H E c=> ?_
 delta j7
 ac_rfl
def sk:aE uY uY (aA i3):=eO
def rQ(F:dD K "with_hand" "with_hand" i3 f fd)(B:Bl mg)(c:eF P w K mg base):aY P w K mg base de 2 f fd uY (dB ⟨K,mg⟩ 4 dt):=by
 refine aX F sk λb A a s H E d=> ?_
 delta jW
 ac_rfl
def rK:aE uD uD (aA iT):=eO
def sr(F:dD K "with_room" "with_room" iT f fd)(B:Bl mg)(c:eF P w K mg base):aY P w K mg base de 2 f fd uD (dB ⟨K,mg⟩ 3 bQ):=by
 refine aX F rK λb A a s H E d=> ?_
 delta j0
 ac_rfl
def km:aE ["world","scene","hand","word","value","room","place","values","shared","frames"] xC (aA iC):=eO
def se(F:dD K "put_thing" "put_thing" iC f fd)(B:Bl mg)(j:cI P w K mg base)(l:ft P w K mg base)(h:eF P w K mg base)(m:eC P w K mg base)(k:kd P w K mg base)(i:fO P w K mg base){c:Tok}(e:mg "OWN"=some (.int (-1) c)):aY P w K mg base de 3 f fd xC (dB ⟨K,mg⟩ 5 dm):=by
 have g:=km.nd
 refine aX F km λb A a s H E d=> ?_
 delta gL
 ac_rfl
def m8:aE uI uI (aA fF):=eO
def m4(F:dD K "value_of_two" "value_of_two" fF f fd)(B:Bl mg){b:Tok}(d:mg "HIGHEST"=some (.int (9) b)):aY P w K mg base de 1 f fd uI (dB ⟨K,mg⟩ 3 et):=by
 refine aX F m8 λc A a s H E e=> ?_
 delta fX
 ac_rfl
def mG:aE ["tree","things","waiting","first"] qP (aA kc):=eO
theorem my(F:dD K "value_of" "value_of" kc f fd)(B:Bl mg)(e:nW P w K mg base)(b:Binds K fd qP [])(c:PySem.W.keepIn K (.ref f)=true)(m:mg "value_of"=some (.ref f)):∀n,aY P w K mg base de (2+n) f fd qP (dB ⟨K,mg⟩ 3 (d0 n))
 |0=>xu
 | n+1=>by
   have i:eB P w K mg base (2+n) "value_of" qP (d0 n):=⟨f,fd,my F B e b c m n,b,c,m⟩
   have j:=mG.nd
   refine aX (k:=2+n) F mG λg A a s H E d=> ?_
   have h:=CV d
   delta lR
   ac_rfl
def mN:aE ["world","scene","hand","tree","frame","room","things","waiting"] xZ (aA jI):=eO
def ud(F:dD K "reckoned" "reckoned" jI f fd)(B:Bl mg)(j:cI P w K mg base)(k:kd P w K mg base)(h:wU P w K mg base){e:Tok}(g:mg "OWN"=some (.int (-1) e)):aY P w K mg base de 9 f fd xZ (dB ⟨K,mg⟩ 4 cB):=by
 have i:=mN.nd
 refine aX F mN λb A a s H E c=> ?_
 have d:=CV c
 delta jf
 ac_rfl
 refine Ay (n:=7) (N:= ["bell","line"]) (js:= [none,none]) (aR.gen rfl rfl rfl rfl rfl rfl) rfl ?_ (λ_ _ _ _=> ?_) (λ_ _ _ _=> ?_) (λ_ _ _ _=> ?_) (λ_ _ _ _=> ?_) ?_
 ac_rfl
end
section
variable{P:Program}{w:World}{K:PySem.W.Frag}{mg:Str->Option Value}{base:Heap}{f:Addr}{fd:FuncData}
def yt:aE a_ a_ (aA oJ):=eO
def yo(F:dD K "by_put" "by_put" oJ f fd)(B:Bl mg)(e:mI P w K mg base)(c:dZ P w K mg base):aY P w K mg base de 10 f fd a_ (dB ⟨K,mg⟩ 4 ng):=by
 refine aX F yt λb A a s H E d=> ?_
 delta sX
 ac_rfl
def fG:aE ["scene","hand","frame","values","frames"] xc (aA dH):=eO
def jS(F:dD K "with_last_frame" "with_last_frame" dH f fd)(B:Bl mg)(d:fO P w K mg base):aY P w K mg base de 3 f fd xc (dB ⟨K,mg⟩ 3 cC):=by
 have c:=fG.nd
 refine aX F fG λb A a s H E e=> ?_
 delta d_
 ac_rfl
def ql:aE ["scene","hand","row","frame"] xO (aA nL):=eO
def yh(F:dD K "at_row" "at_row" nL f fd)(B:Bl mg)(d:cI P w K mg base)(g:fN P w K mg base):aY P w K mg base de 4 f fd xO (dB ⟨K,mg⟩ 3 gV):=by
 have c:=ql.nd
 refine aX F ql λb A a s H E e=> ?_
 delta su
 ac_rfl
def sf:aE a_ a_ (aA i7):=eO
def sj(F:dD K "by_unless" "by_unless" i7 f fd)(B:Bl mg)(d:dZ P w K mg base)(c:ox P w K mg base):aY P w K mg base de 10 f fd a_ (dB ⟨K,mg⟩ 4 gU):=by
 refine aX F sf λb A a s H E e=> ?_
 delta jU
 ac_rfl
def Bb:aE a_ a_ (aA rT):=eO
def Be(F:dD K "by_go" "by_go" rT f fd)(B:Bl mg)(c:ox P w K mg base):aY P w K mg base de 5 f fd a_ (dB ⟨K,mg⟩ 4 tm):=by
 refine aX F Bb λb A a s H E d=> ?_
 delta wD
 ac_rfl
def pL:aE ["scene","room","hand","values","within","row","late","bells"] xj (aA l_):=eO
def wu(F:dD K "come_in" "come_in" l_ f fd)(B:Bl mg)(h:eC P w K mg base){b:Tok}(d:mg "NOBODY"=some (.int (-1) b)):aY P w K mg base de 3 f fd xj (dB ⟨K,mg⟩ 3 iB):=by
 have e:=pL.nd
 refine aX F pL λc A a s H E g=> ?_
 delta n_
 ac_rfl
def tW:aE ["world","scene","hand","row","room","deed","frame","values","frames"] a_ (aA sG):=eO
def Ah(F:dD K "by_do" "by_do" sG f fd)(B:Bl mg)(i:ft P w K mg base)(g:dZ P w K mg base)(h:qN P w K mg base)(e:fO P w K mg base):aY P w K mg base de 10 f fd a_ (dB ⟨K,mg⟩ 4 sZ):=by
 have d:=tW.nd
 refine aX F tW λb A a s H E c=> ?_
 delta vR
 ac_rfl
def nJ:aE ["world","scene","hand","word","room"] xU (aA lG):=eO
def vA(F:dD K "bell_of" "bell_of" lG f fd)(B:Bl mg)(e:cI P w K mg base)(g:ft P w K mg base):aY P w K mg base de 3 f fd xU (dB ⟨K,mg⟩ 4 gy):=by
 have d:=nJ.nd
 refine aX F nJ λb A a s H E c=> ?_
 delta oE
 ac_rfl
def lu:aE ["scene","room","bell","line","state"] x8 (aA iP):=eO
def sM(F:dD K "with_line" "with_line" iP f fd)(B:Bl mg)(g:eC P w K mg base)(d:eF P w K mg base):aY P w K mg base de 3 f fd x8 (dB ⟨K,mg⟩ 4 dv):=by
 have c:=lu.nd
 refine aX F lu λb A a s H E e=> ?_
 delta jZ
 ac_rfl
def tH:aE ["scene","room","values","within","row","late","bells"] xg (aA si):=eO
def Ax(F:dD K "leave" "leave" si f fd)(B:Bl mg)(h:eC P w K mg base){b:Tok}(d:mg "NOBODY"=some (.int (-1) b)):aY P w K mg base de 3 f fd xg (dB ⟨K,mg⟩ 2 mw):=by
 have e:=tH.nd
 refine aX F tH λc A a s H E g=> ?_
 delta wb
 ac_rfl
def pz:aE ["world","scene","hand","row","room","bell","turn","line","ahead","waiting"] a_ (aA lL):=eO
def wM(F:dD K "by_wait" "by_wait" lL f fd)(B:Bl mg)(d:lH P w K mg base)(g:dZ P w K mg base)(c:iu P w K mg base)(i:xR P w K mg base):aY P w K mg base de 10 f fd a_ (dB ⟨K,mg⟩ 4 k_):=by
 have e:=pz.nd
 refine aX F pz λb A a s H E h=> ?_
 delta oP
 ac_rfl
 refine eA (N:= ["other","waiter","turn"]) (js:= [none,none,some 6]) (aR.gen rfl rfl rfl rfl rfl rfl) rfl ?_ (λ_ _ _ _=> ?_) (λ_ _ _ _=> ?_) (λ_ _ _ _=> ?_)
 ac_rfl
end
section
variable{P:Program}{w:World}{K:PySem.W.Frag}{mg:Str->Option Value}{base:Heap}{f:Addr}{fd:FuncData}
def pA:aE ["world","scene","hand","row","room","bell","line","called","values","within","queue","late","bells"] a_ (aA lY):=eO
def wQ(F:dD K "by_call" "by_call" lY f fd)(B:Bl mg)(d:lH P w K mg base)(c:iu P w K mg base)(h:eC P w K mg base):aY P w K mg base de 4 f fd a_ (dB ⟨K,mg⟩ 4 kU):=by
 have e:=pA.nd
 refine aX F pA λb A a s H E g=> ?_
 delta nX
 ac_rfl
def qz:aE ["world","scene","hand","row","room","bell"] a_ (aA nY):=eO
def yR(F:dD K "by_all" "by_all" nY f fd)(B:Bl mg)(d:lH P w K mg base)(c:iu P w K mg base):aY P w K mg base de 4 f fd a_ (dB ⟨K,mg⟩ 4 nF):=by
 have e:=qz.nd
 refine aX F qz λb A a s H E g=> ?_
 delta rg
 ac_rfl
def pK:aE ["world","scene","hand","row","told"] a_ (aA lJ):=eO
def wo(F:dD K "by_tell" "by_tell" lJ f fd)(B:Bl mg)(e:dZ P w K mg base)(h:fN P w K mg base)(d:cI P w K mg base):aY P w K mg base de 10 f fd a_ (dB ⟨K,mg⟩ 4 kq):=by
 have c:=pK.nd
 refine aX F pK λb A a s H E g=> ?_
 delta pw
 ac_rfl
def sO:aE u6 u6 (aA iK):=eO
def rE(F:dD K "with_pass" "with_pass" iK f fd)(B:Bl mg)(c:eF P w K mg base):aY P w K mg base de 2 f fd u6 (dB ⟨K,mg⟩ 3 dj):=by
 refine aX F sO λb A a s H E d=> ?_
 delta jM
 ac_rfl
def uG:aE ["world","scene","hand","name","place","value","row"] xJ (aA r_):=eO
def zE(F:dD K "taken" "taken" r_ f fd)(B:Bl mg)(g:ft P w K mg base)(e:mR P w K mg base):aY P w K mg base de 3 f fd xJ (dB ⟨K,mg⟩ 4 pF):=by
 have d:=uG.nd
 refine aX F uG λb A a s H E c=> ?_
 delta vF
 ac_rfl
def vT:aE a_ a_ (aA lF):=eO
def vN(F:dD K "by_take" "by_take" lF f fd)(B:Bl mg)(c:wZ P w K mg base):aY P w K mg base de 4 f fd a_ (dB ⟨K,mg⟩ 4 kA):=by
 refine aX F vT λb A a s H E d=> ?_
 delta oZ
 ac_rfl
def jD:aE ["world","scene","name","place","value","row"] xE (aA g7):=eO
def pV(F:dD K "given_back" "given_back" g7 f fd)(B:Bl mg)(i:ft P w K mg base)(h:mR P w K mg base){b:Tok}(d:mg "HIGHEST"=some (.int (9) b)):aY P w K mg base de 3 f fd xE (dB ⟨K,mg⟩ 3 eI):=by
 have g:=jD.nd
 refine aX F jD λc A a s H E e=> ?_
 delta iG
 ac_rfl
def vJ:aE a_ a_ (aA mr):=eO
def wa(F:dD K "by_give" "by_give" mr f fd)(B:Bl mg)(c:kF P w K mg base):aY P w K mg base de 4 f fd a_ (dB ⟨K,mg⟩ 4 lj):=by
 refine aX F vJ λb A a s H E d=> ?_
 delta pG
 ac_rfl
def v8:aE a_ a_ (aA mj):=eO
def vB(F:dD K "by_pass" "by_pass" mj f fd)(B:Bl mg)(c:wZ P w K mg base)(d:kF P w K mg base):aY P w K mg base de 4 f fd a_ (dB ⟨K,mg⟩ 4 kR):=by
 refine aX F v8 λb A a s H E e=> ?_
 delta nH
 ac_rfl
def yw:aE a_ a_ (aA oD):=eO
def yP(F:dD K "by_say" "by_say" oD f fd)(B:Bl mg):aY P w K mg base de 1 f fd a_ (dB ⟨K,mg⟩ 4 nk):=by
 refine aX F yw λb A a s H E c=> ?_
 delta rY
 ac_rfl
def mJ:aE ["world","scene","hand","row","deed"] a_ (aA j_):=eO
def um(F:dD K "row_done" "row_done" j_ f fd)(B:Bl mg)(c:∀x F,ph.lookup x=some F->eB P w K mg base 10 x a_ F)(d:xb P w K mg "DONE_BY" jm):aY P w K mg base de 11 f fd a_ (dB ⟨K,mg⟩ 4 gD):=by
 have b:=mJ.nd
 refine aX F mJ λe A a s H E g=> ?_
 exact(vC (Gq 4 b (BI d rfl (pq (v_ 3) mT) (λ_ _=>rfl)))
  (Ao (AF (Bt c (g.mono (by decide)) rfl (by first|exact Or.inl rfl|exact Or.inr (Or.inl rfl)) (eM (v_ 0) (eM (v_ 1) (eM (v_ 2) (eM (v_ 3) kK)))) (jg (jg (jg (jg wC))))))))
def mB:aE ["world","scene","hand","values","frames","room","deed","row","given","told","outside","came_by"] hZ (aA ka):=eO
def tT(F:dD K "end_deed" "end_deed" ka f fd)(B:Bl mg)(g:fO P w K mg base)(i:xR P w K mg base)(c:hV P w K mg base)(h:mI P w K mg base):aY P w K mg base de 4 f fd hZ (dB ⟨K,mg⟩ 3 gf):=by
 have e:=mB.nd
 refine aX F mB λb A a s H E d=> ?_
 delta lU
 ac_rfl
end
section
variable{P:Program}{w:World}{K:PySem.W.Frag}{mg:Str->Option Value}{base:Heap}{f:Addr}{fd:FuncData}
def oo:aE ["world","scene","hand","frame","room","program","row","event"] hZ (aA me):=eO
def wF(F:dD K "step_of" "step_of" me f fd)(B:Bl mg)(m:cI P w K mg base)(n:qN P w K mg base)(d:hV P w K mg base)(k:v5 P w K mg base)(j:dZ P w K mg base)(h:vD P w K mg base)(e:ox P w K mg base){c:Tok}(l:mg "OWN"=some (.int (-1) c)):aY P w K mg base de 12 f fd hZ (dB ⟨K,mg⟩ 3 kN):=by
 have i:=oo.nd
 refine aX F oo λb A a s H E g=> ?_
 delta iO
 ac_rfl
def t8:aE u5 u5 (aA j9):=eO
def uc(F:dD K "hands_at" "hands_at" j9 f fd)(B:Bl mg):aY P w K mg base de 1 f fd u5 (dB ⟨K,mg⟩ 1 jh):=by
 refine aX F t8 λb A a s H E c=> ?_
 delta lA
 ac_rfl
 refine eA (N:= ["turn","hand"]) (js:= [none,none]) (aR.gen rfl rfl rfl rfl rfl rfl) rfl ?_ (λ_ _ _ _=> ?_) (λ_ _ _ _=> ?_) (λ_ _ _ _=> ?_)
 ac_rfl
def gg:aE ["scene","hands","value","row","values","within","late","bells","line"] xA (aA eN):=eO
def lB(F:dD K "hands_in_rows" "hands_in_rows" eN f fd)(B:Bl mg)(e:vh P w K mg base):aY P w K mg base de 2 f fd xA (dB ⟨K,mg⟩ 1 cY):=by
 have c:=gg.nd
 refine aX F gg λb A a s H E d=> ?_
 delta fw
 ac_rfl
def gI:aE ["world","scene","hand","frame"] hZ (aA eP):=eO
def lI(F:dD K "is_behind_all" "is_behind_all" eP f fd)(B:Bl mg)(h:cI P w K mg base)(d:hV P w K mg base){c:Tok}(e:mg "OWN"=some (.int (-1) c)):aY P w K mg base de 2 f fd hZ (dB ⟨K,mg⟩ 3 dI):=by
 have g:=gI.nd
 refine aX F gI λb A a s H E i=> ?_
 delta fE
 ac_rfl
def mC:aE ["world","scene","held_up"] wY (aA jV):=eO
def u4(F:dD K "may_step" "may_step" jV f fd)(B:Bl mg)(g:mY P w K mg base)(c:mZ P w K mg base):aY P w K mg base de 3 f fd wY (dB ⟨K,mg⟩ 2 jb):=by
 have e:=mC.nd
 refine aX F mC λb A a s H E d=> ?_
 delta lD
 ac_rfl
 refine eA (N:= ["hand","world","scene","held_up"]) (js:= [none,some 0,some 1,some 2]) (aR.gen rfl rfl rfl rfl rfl rfl) rfl ?_ (λ_ _ _ _=> ?_) (λ_ _ _ _=> ?_) (λ_ _ _ _=> ?_)
 ac_rfl
def qE:aE ["world","weaving","scene","events","place","hand","event"] w9 (aA oO):=eO
def ym(F:dD K "walked" "walked" oO f fd)(B:Bl mg)(d:Ct P w K mg base)(h:vX P w K mg base)(e:yY P w K mg base):aY P w K mg base de 13 f fd w9 (dB ⟨K,mg⟩ 2 nj):=by
 have c:=qE.nd
 refine aX F qE λb A a s H E g=> ?_
 delta sg
 ac_rfl
def rG:aE vp vp (aA iW):=eO
theorem kB(F:dD K "_law_same" "_law_same" iW f fd)(B:Bl mg)(b:Binds K fd vp [])(c:PySem.W.keepIn K (.ref f)=true)(m:mg "_law_same"=some (.ref f)):∀n,aY P w K mg base de (1+n) f fd vp (dB ⟨K,mg⟩ 2 (dY n))
 |0=>xu
 | n+1=>by
   have e:eB P w K mg base (1+n) "_law_same" vp (dY n):=⟨f,fd,kB F B b c m n,b,c,m⟩
   refine aX (k:=1+n) F rG λd A a s H E g=> ?_
   delta fB
   ac_rfl
   refine eA (N:= ["_law_one","_law_other"]) (js:= [none,none]) (aR.gen rfl rfl rfl rfl rfl rfl) rfl ?_ (λ_ _ _ _=> ?_) (λ_ _ _ _=> ?_) (λ_ _ _ _=> ?_)
   ac_rfl
def h_:aE ["_law_world_here","_law_ways","_law_found","_law_own","_law_way","_law_last","_law_left","_law_turn"] xN (aA fj):=eO
def mV(F:dD K "_law_weaving" "_law_weaving" fj f fd)(B:Bl mg):aY P w K mg base de 1 f fd xN (dB ⟨K,mg⟩ 2 eh):=by
 have e:=h_.nd
 refine aX F h_ λb A a s H E c=> ?_
 have d:=c.units0
 delta fW
 ac_rfl
 refine xi (n:=6) (N:= ["_law_own","_law_way"]) (js:= [none,none]) (aR.gen rfl rfl rfl rfl rfl rfl) rfl ?_ (λ_ _ _ _=> ?_) (λ_ _ _ _=> ?_) (λ_ _ _ _=> ?_) ?_
 ac_rfl
end
section
variable{P:Program}{w:World}{K:PySem.W.Frag}{mg:Str->Option Value}{base:Heap}{f:Addr}{fd:FuncData}
def mP:aE ["_law_ways","_law_given","_law_found","_law_called","_law_one","_law_other"] xr (aA jR):=eO
def uW(F:dD K "_law_due" "_law_due" jR f fd)(B:Bl mg):aY P w K mg base de 1 f fd xr (dB ⟨K,mg⟩ 2 i_):=by
 have c:=mP.nd
 refine aX F mP λb A a s H E d=> ?_
 delta l8
 ac_rfl
def AM:aE ["_law_script","_law_k","_law_pot_here","_law_world_here","_law_ways","_law_given","_law_scene"] zG (aA kJ):=eO
def DC(F:dD K "law" "law" kJ f fd)(B:Bl mg)(k:wG P w K mg base)(l:rO P w K mg base)(h:iE P w K mg base)(i:z9 P w K mg base)(j:pH P w K mg base)(c:tN P w K mg base)(d:vP P w K mg base):aY P w K mg base de 14 f fd zG (dB ⟨K,mg⟩ 1 BJ):=by
 have e:=AM.nd
 refine aX F AM λb A a s H E g=> ?_
 delta EI
 ac_rfl
end
def all_mk{l:PySem.W.OpenLaw}{w:World}{K:PySem.W.Frag}{h:Heap}{mg:Str->Option Value}{fa f1 f2 f3 f4 f5 f6 f7 f8 f9 b6 q6 h3 k7 n3 n4 a4 o5 g0 a1 h1 o1 a2 i i5 a0 l1 h7 q2 N n u H k4 c1 J m2 C I j c6 q7 r2 e9 p1 h9 e1 o4 e7 l5 r4 c:Addr}(X:K.In h)(G:h.Ns mainGlobals mg)(n5:mg "law"=some (.ref fa))
  (d1:aU K "_law_pot" ke f1)
  (d2:aU K "_law_take" iY f2)
  (d3:aU K "_law_pick" iq f3)
  (d4:aU K "_law_world" gQ f4)
  (d5:aU K "values_of" i8 f5)
  (d6:aU K "begun_room" gS f6)
  (d7:aU K "begun" qW f7)
  (d8:aU K "last_frame" gZ f8)
  (d9:aU K "program_of" g5 f9)
  (a8:aU K "names_of" kg b6)
  (g4:aU K "place_of" jN q6)
  (k5:aU K "with_part" iQ h3)
  (q3:aU K "with_hand" i3 k7)
  (b0:aU K "with_room" iT n3)
  (h5:aU K "put_thing" iC n4)
  (h0:aU K "value_of_two" fF a4)
  (h2:aU K "value_of" kc o5)
  (l3:aU K "reckoned" jI g0)
  (c3:aU K "by_put" oJ a1)
  (e2:aU K "with_last_frame" dH h1)
  (k3:aU K "at_row" nL o1)
  (a5:aU K "by_unless" i7 a2)
  (e4:aU K "by_go" rT i)
  (j1:aU K "come_in" l_ i5)
  (k2:aU K "by_do" sG a0)
  (a3:aU K "bell_of" lG l1)
  (n8:aU K "with_line" iP h7)
  (k6:aU K "leave" si q2)
  (i2:aU K "by_wait" lL N)
  (n9:aU K "by_call" lY n)
  (b5:aU K "by_all" nY u)
  (q4:aU K "by_tell" lJ H)
  (h6:aU K "with_pass" iK k4)
  (n6:aU K "taken" r_ c1)
  (r5:aU K "by_take" lF J)
  (e6:aU K "given_back" g7 m2)
  (b4:aU K "by_give" mr C)
  (j4:aU K "by_pass" mj I)
  (n2:aU K "by_say" oD j)
  (m0:aU K "row_done" j_ c6)
  (i1:aU K "end_deed" ka q7)
  (r0:aU K "step_of" me r2)
  (g3:aU K "hands_at" j9 e9)
  (q1:aU K "hands_in_rows" eN p1)
  (e8:aU K "is_behind_all" eP h9)
  (e3:aU K "may_step" jV e1)
  (g2:aU K "walked" oO o4)
  (c0:aU K "_law_same" iW e7)
  (p4:aU K "_law_weaving" fj l5)
  (l4:aU K "_law_due" jR r4)
  {oc kV dc pm cd ct:Value} {od an:Option Addr} {sl:Array (Option Value)} (b1:PySem.W.nsIn K mainGlobals "law"=some (some (.ref c))) (n1:K.lookup c=some ⟨oc,od,.func (PySem.W.fnOf "law" "law" (eR kJ) (dg kJ) (aA kJ) .none kV dc pm an cd ct),sl⟩) (q5:PySem.W.codeIn K cd "law"=true) (c5:PySem.W.keepIn K (.ref c)=true)
  {ff:Tok} (Ac:PySem.W.nsIn K mainGlobals "NOBODY"=some (some (.int (-1) ff)))
  {gF:Tok} (FX:PySem.W.nsIn K mainGlobals "OWN"=some (some (.int (-1) gF)))
  {gw:Tok} (zc:PySem.W.nsIn K mainGlobals "HIGHEST"=some (some (.int (9) gw)))
  {qD vw:Nat} {sD rA sU sQ sT rH sH sL qV qX p7 p5:Tok} (yT:PySem.W.nsIn K mainGlobals "DONE_BY"=some (some (.ref qD))) (vH:K.lookup qD=some ⟨.type "dict",none,.dict (List.toArray [⟨PyData.keyHash w.params "put",.str "put" sD,.ref a1⟩,⟨PyData.keyHash w.params "unless",.str "unless" rA,.ref a2⟩,⟨PyData.keyHash w.params "go",.str "go" sU,.ref i⟩,⟨PyData.keyHash w.params "do",.str "do" sQ,.ref a0⟩,⟨PyData.keyHash w.params "wait",.str "wait" sT,.ref N⟩,⟨PyData.keyHash w.params "call",.str "call" rH,.ref n⟩,⟨PyData.keyHash w.params "all",.str "all" sH,.ref u⟩,⟨PyData.keyHash w.params "tell",.str "tell" sL,.ref H⟩,⟨PyData.keyHash w.params "take",.str "take" qV,.ref J⟩,⟨PyData.keyHash w.params "give",.str "give" qX,.ref C⟩,⟨PyData.keyHash w.params "pass",.str "pass" p7,.ref I⟩,⟨PyData.keyHash w.params "say",.str "say" p5,.ref j⟩]) vw,#[]⟩)
  (F5:PySem.W.nsIn K mainGlobals "len"=some none) (BR:PySem.W.nsIn K mainGlobals "tuple"=some none) (Dz:PySem.W.nsIn K mainGlobals "list"=some none) (Dj:PySem.W.nsIn K mainGlobals "dict"=some none) (E3:PySem.W.nsIn K mainGlobals "set"=some none) (Fv:PySem.W.nsIn K mainGlobals "int"=some none) (FH:PySem.W.nsIn K mainGlobals "str"=some none) (EC:PySem.W.nsIn K mainGlobals "bool"=some none) (Fc:PySem.W.nsIn K mainGlobals "all"=some none) (FJ:PySem.W.nsIn K mainGlobals "any"=some none) (Cv:PySem.W.nsIn K mainGlobals "range"=some none) (FU:PySem.W.nsIn K mainGlobals "zip"=some none) (A0:PySem.W.nsIn K mainGlobals "sorted"=some none) (sm:PySem.W.nsIn K mainGlobals "isinstance"=some none) (F2:PySem.W.nsIn K mainGlobals "min"=some none) (FI:PySem.W.nsIn K mainGlobals "max"=some none) (GC:PySem.W.nsIn K mainGlobals "abs"=some none) (uf:PySem.W.nsIn K mainGlobals "enumerate"=some none)
  (T:∀ns:List Int,ns.length<=63->∃S',BJ [.ref 0] [.frz (ns.map D.int)]=some (.d (.bl true),S')):
  ∃fd:FuncData,(∀(s:Shared) (v:Value),BindsTo s fd ⟨[v],[]⟩ [("_law_script",v)])/\∀base:Heap,K.In base->base.Ns mainGlobals mg->aY l.prog w K mg base de 14 fa fd zG tJ:=by
 have e:=n5.symm.trans (PySem.W.mg_of X G b1)
 cases e
 have q8:=v9 (st:=kJ) n1 q5 c5
 have O1:=d1.ok1 (ps:=xq) X G
 have O2:=d2.ok1 (ps:=Co) X G
 have O3:=d3.ok1 (ps:=A9) X G
 have O4:=d4.ok1 (ps:=Cy) X G
 have O5:=d5.ok1 (ps:=uR) X G
 have O6:=d6.ok1 (ps:=tP) X G
 have O7:=d7.ok1 (ps:=xT) X G
 have O8:=d8.ok1 (ps:=uC) X G
 have O9:=d9.ok1 (ps:=xl) X G
 have n0:=a8.ok1 (ps:=uO) X G
 have a6:=g4.ok1 (ps:=tR) X G
 have c4:=k5.ok1 (ps:=uT) X G
 have l2:=q3.ok1 (ps:=uY) X G
 have o3:=b0.ok1 (ps:=uD) X G
 have e5:=h5.ok1 (ps:=xC) X G
 have p2:=h0.ok1 (ps:=uI) X G
 have n7:=h2.ok1 (ps:=qP) X G
 have f0:=l3.ok1 (ps:=xZ) X G
 have r:=c3.ok1 (ps:=a_) X G
 have c2:=e2.ok1 (ps:=xc) X G
 have h4:=k3.ok1 (ps:=xO) X G
 have P:=a5.ok1 (ps:=a_) X G
 have L:=e4.ok1 (ps:=a_) X G
 have a9:=j1.ok1 (ps:=xj) X G
 have M:=k2.ok1 (ps:=a_) X G
 have o2:=a3.ok1 (ps:=xU) X G
 have b2:=n8.ok1 (ps:=x8) X G
 have h8:=k6.ok1 (ps:=xg) X G
 have y:=i2.ok1 (ps:=a_) X G
 have z:=n9.ok1 (ps:=a_) X G
 have q:=b5.ok1 (ps:=a_) X G
 have o:=q4.ok1 (ps:=a_) X G
 have b3:=h6.ok1 (ps:=u6) X G
 have r1:=n6.ok1 (ps:=xJ) X G
 have t:=r5.ok1 (ps:=a_) X G
 have o0:=e6.ok1 (ps:=xE) X G
 have S:=b4.ok1 (ps:=a_) X G
 have R:=j4.ok1 (ps:=a_) X G
 have Y:=n2.ok1 (ps:=a_) X G
 have l0:=m0.ok1 (ps:=a_) X G
 have e0:=i1.ok1 (ps:=hZ) X G
 have m1:=r0.ok1 (ps:=hZ) X G
 have p3:=g3.ok1 (ps:=u5) X G
 have q9:=q1.ok1 (ps:=xA) X G
 have j5:=e8.ok1 (ps:=hZ) X G
 have b8:=e3.ok1 (ps:=wY) X G
 have r3:=g2.ok1 (ps:=w9) X G
 have k1:=c0.ok1 (ps:=vp) X G
 have g1:=p4.ok1 (ps:=xN) X G
 have b7:=l4.ok1 (ps:=xr) X G
 have gx:=PySem.W.mg_of X G Ac
 have f:=PySem.W.mg_of X G FX
 have ja:=PySem.W.mg_of X G zc
 have l9:xb l.prog w K mg "DONE_BY" jm:=z_ (PySem.W.mg_of X G yT) vH (.cons r.m (.cons P.m (.cons L.m (.cons M.m (.cons y.m (.cons z.m (.cons q.m (.cons o.m (.cons t.m (.cons S.m (.cons R.m (.cons Y.m .nil)))))))))))) (by decide +kernel)
 have B:Bl mg:=⟨QFq X G F5,QFq X G BR,QFq X G Dz,QFq X G Dj,QFq X G E3,QFq X G Fv,QFq X G FH,QFq X G EC,QFq X G Fc,QFq X G FJ,QFq X G Cv,QFq X G FU,QFq X G A0,QFq X G sm,QFq X G F2,QFq X G FI,QFq X G GC,QFq X G uf⟩
 refine⟨PySem.W.fnOf "law" "law" (eR kJ) (dg kJ) (aA kJ) .none kV dc pm an cd ct,λs v=>.of_eq rfl,λbase _ _=> ?_⟩
 have Z:Pk l.prog w base:=⟨⟩
 have oI:=O1.cal Z λ_ F _ _ _=>u7 F B
 have dA:=O2.cal Z λ_ F _ _ _=>rZ F B
 have mz:=O3.cal Z λ_ F _ _ _=>sJ F B dA
 have kQ:=O4.cal Z λ_ F _ _ _=>p0 F B dA mz
 have fU:=O5.cal Z λ_ F _ _ _=>rq F B
 have kH:=O6.cal Z λ_ F _ _ _=>qi F B fU gx
 have w4:=O7.cal Z λ_ F _ _ _=>zO F B fU kH f
 have a:=O8.cal Z λ_ F _ _ _=>pX F B
 have c8:=O9.cal Z λ_ F _ _ _=>qc F B f
 have ef:=n0.cal Z λ_ F _ _ _=>uV F B
 have U:=a6.cal Z λ_ F _ _ _=>uA F B ef
 have Q:=c4.cal Z λ_ F _ _ _=>rS F B
 have cG:=l2.cal Z λ_ F _ _ _=>rQ F B Q
 have A:=o3.cal Z λ_ F _ _ _=>sr F B Q
 have fS:=e5.cal Z λ_ F _ _ _=>se F B a U Q A ef cG f
 have fm:=p2.cal Z λ_ F _ _ _=>m4 F B ja
 have jP:=n7.cal Z λ_ F b k m=>my F B fm b k m 6
 have g:=f0.cal Z λ_ F _ _ _=>ud F B a ef jP f
 have Au:=r.cal Z λ_ F _ _ _=>yo F B fS g
 have cV:=c2.cal Z λ_ F _ _ _=>jS F B cG
 have gH:=h4.cal Z λ_ F _ _ _=>yh F B a cV
 have tZ:=P.cal Z λ_ F _ _ _=>sj F B g gH
 have Cq:=L.cal Z λ_ F _ _ _=>Be F B gH
 have ji:=a9.cal Z λ_ F _ _ _=>wu F B A gx
 have Cb:=M.cal Z λ_ F _ _ _=>Ah F B U g ji cG
 have eZ:=o2.cal Z λ_ F _ _ _=>vA F B a U
 have dy:=b2.cal Z λ_ F _ _ _=>sM F B A Q
 have ny:=h8.cal Z λ_ F _ _ _=>Ax F B A gx
 have zi:=y.cal Z λ_ F _ _ _=>wM F B eZ g dy ny
 have yX:=z.cal Z λ_ F _ _ _=>wQ F B eZ dy A
 have Ad:=q.cal Z λ_ F _ _ _=>yR F B eZ dy
 have yK:=o.cal Z λ_ F _ _ _=>wo F B g cV a
 have fT:=b3.cal Z λ_ F _ _ _=>rE F B Q
 have nu:=r1.cal Z λ_ F _ _ _=>zE F B U fT
 have zh:=t.cal Z λ_ F _ _ _=>vN F B nu
 have eU:=o0.cal Z λ_ F _ _ _=>pV F B U fT ja
 have yi:=S.cal Z λ_ F _ _ _=>wa F B eU
 have yd:=R.cal Z λ_ F _ _ _=>vB F B nu eU
 have Ab:=Y.cal Z λ_ F _ _ _=>yP F B
 have pJ:∀x F,ph.lookup x=some F->eB l.prog w K mg base 10 x a_ F:=by
  refine A7 λp hp=> ?_
  simp only[ph,Qsq,QXq,or_false] at hp
  rcases hp with rfl|rfl|rfl|rfl|rfl|rfl|rfl|rfl|rfl|rfl|rfl|rfl
  ·exact Au.mono (by decide)
  ·exact tZ.mono (by decide)
  ·exact Cq.mono (by decide)
  ·exact Cb.mono (by decide)
  ·exact zi.mono (by decide)
  ·exact yX.mono (by decide)
  ·exact Ad.mono (by decide)
  ·exact yK.mono (by decide)
  ·exact zh.mono (by decide)
  ·exact yi.mono (by decide)
  ·exact yd.mono (by decide)
  ·exact Ab.mono (by decide)
 have oV:=l0.cal Z λ_ F _ _ _=>um F B pJ l9
 have nK:=e0.cal Z λ_ F _ _ _=>tT F B cG ny c8 fS
 have qJ:=m1.cal Z λ_ F _ _ _=>wF F B a ji c8 nK g oV gH f
 have pd:=p3.cal Z λ_ F _ _ _=>uc F B
 have ia:=q9.cal Z λ_ F _ _ _=>lB F B pd
 have ig:=j5.cal Z λ_ F _ _ _=>lI F B a c8 f
 have pO:=b8.cal Z λ_ F _ _ _=>u4 F B ia ig
 have t6:=r3.cal Z λ_ F _ _ _=>ym F B w4 pO qJ
 have iS:=k1.cal Z λ_ F b k m=>kB F B b k m 10
 have iU:=g1.cal Z λ_ F _ _ _=>mV F B
 have oa:=b7.cal Z λ_ F _ _ _=>uW F B
 exact Bz (DC q8 B oI kQ dA t6 iU iS oa) T
end W28
namespace DL
open PySem PySem.Spec L2
def rF{a:cN}{S:aC}{Q:Bool->aC->Prop}(q:Q true S):E dW a S Q:=⟨_,_,rfl,q⟩
section
variable{S:aC}
def Je{i j:Int}{Q:D->Prop}(q:Q (.int (i+j))):Op (bE S (.int i) (.int j)) Q:=⟨_,rfl,q⟩
def bK{i j:List D}{Q:D->Prop}(h:i.length+j.length<=sizeLine)(q:Q (.tup (i++j))):Op (bE S (.tup i) (.tup j)) Q:=⟨_,by simp only[bE];rw[Qhq h],q⟩
def HW{k:Int->Int->D}{i j:Int}{Q:D->Prop}(q:Q (k i j)):Op (intD (λ_ _=>True) k S (.int i) (.int j)) Q:=⟨_,by simp only[intD,if_true],q⟩
def ow{i j:Int}{Q:D->Prop}(h:0<j)(q:Q (.int (i%j))):Op (mW S (.int i) (.int j)) Q:=⟨_,by simp only[mW,intD];rw[Qhq h],q⟩
def AV{i j:Int}{Q:D->Prop}(h:AI i j)(q:Q (.int (i/j))):Op (tx S (.int i) (.int j)) Q:=⟨_,by simp only[tx,intD];rw[Qhq h],q⟩
def mM{i j:Int}{Q:D->Prop}(h:CK i j)(q:Q (.int (i*j))):Op (iR S (.int i) (.int j)) Q:=⟨_,by simp only[iR,intD];rw[Qhq h.ok],q⟩
def au{ds:List D}{i:Int}{d:D}{Q:D->Prop}(h:lM ds i=some d)(q:Q d):Op (s_ S (.tup ds) (.int i)) Q:=⟨_,h,q⟩
def k9{k:Nat}{ds:List D}{i:Int}{d:D}{Q:D->Prop}(a:S[k]?=some (.lst ds))(h:lM ds i=some d)(q:Q d):Op (s_ S (.ref k) (.int i)) Q:=⟨_,by simp only[s_,a];exact h,q⟩
def fD{ds:List D}{Q:List D×Tag->Prop}(q:Q (ds,.tu)):Op (oT S (.tup ds)) Q:=⟨_,rfl,q⟩
def dF{k:Nat}{ds:List D}{Q:List D×Tag->Prop}(a:S[k]?=some (.lst ds))(q:Q (ds,.st k)):Op (oT S (.ref k)) Q:=⟨_,by simp only[oT,a],q⟩
def Ha{α:Type}{o:Option α}{d:α}{Q:α->Prop}(h:o=some d)(q:Q d):Op o Q:=⟨d,h,q⟩
end
def bu{b:Bool}{p q:Prop}(a:b=true->p)(c:b=false->q):if b=true then p else q:=by
 cases b with
 |true=>exact a rfl
 |false=>exact c rfl
end DL
local macro_rules|`(tactic|symm)=>do
 let mut a:Array (Lean.TSyntax `Lean.Parser.Tactic.tacticSeq):= #[]
 for s in (["bZ","hU","oy","HH","FR","JN","AD","cD","IL","D_","Hr","Ic","Jq","Jk","GJ","II","JZ","Fw","Ij","JA","Hz","E1","G1","Hs","GW","sI","Gy","Dg","DN","Aq","Jd","rF","aQ","JP","xf","vj","Je","HW","fD"]:List String) do a:=a.push (←`(tacticSeq|refine $(Lean.mkIdent (.str (.str .anonymous "DL") s)) ?_))
 `(tactic|repeat(first|(with_reducible first $[| $a]*)|((with_reducible refine DL.da (d := ?_) ?_ ?_); rotate_left; rfl)|dsimp only))
local macro_rules|`(tactic|apply $e)=>`(tactic|(refine $e;symm))
namespace W28
open PySem PySem.Spec L2 DL
def lT(a b c:Int):O:=.lst [.int a,.int b,.int c]
def zj{S:aC}{k:Nat}{a b p m:Int}{Q:Res->aC->Prop}(e:S[k]?=some (lT a b p))(g:0<m)(t:m<1000000)
  (h:∀(d l n q:Int),0<=d->d<m->Q (.d (.int d)) (S.set k (lT l n q))):Fn cq [.ref k,.int m] S Q:=by
 have r:k<S.length:=(gQs.mp e).1
 have j:∀(o:O),(S.set k o).take S.length=S.set k o:=λo=>by rw[List.take_of_length_le];simp
 refine bD ?_
 unfold jT
 symm
 refine k9 e rfl ?_
 symm
 refine bu (λc=> ?_) (λc=> ?_)
 ·symm
  refine k9 e rfl ?_
  symm
  refine ow g ?_
  symm
  refine k9 e rfl ?_
  symm
  refine AV ⟨g,by omega⟩ ?_
  symm
  refine⟨_,_,_,_,rfl,rfl,e,rfl,?_⟩
  symm
  refine eW (qv (by rfl)) (j _) (λ_ z=>by cases z) rfl ?_
  exact h _ _ _ _ (Int.emod_nonneg _ (by omega)) (Int.emod_lt_of_pos _ g)
 ·symm
  refine⟨_,_,_,_,rfl,rfl,e,by decide,rfl,?_⟩
  symm
  refine⟨_,_,_,rfl,e,rfl,?_⟩
  have i:∀o:O,(S.set k o)[k]?=some o:=λo=>by rw[Qyq r]
  symm
  refine k9 (i _) rfl ?_
  symm
  refine mM (.inr ⟨by decide,by decide⟩) ?_
  symm
  refine k9 (i _) rfl ?_
  refine mM (.inl ⟨by decide,by decide⟩) ?_
  symm
  refine ow (by decide) ?_
  generalize f:(b*69069+9973*_+5)%2305843009213693921=mx
  have s:0<=mx:=by rw[←f];exact Int.emod_nonneg _ (by decide)
  have u:mx<2305843009213693921:=by rw[←f];exact Int.emod_lt_of_pos _ (by decide)
  symm
  refine ow (by decide) ?_
  symm
  refine k9 (i _) rfl ?_
  refine mM (.inl ⟨by decide,by decide⟩) ?_
  symm
  refine mM (.inl ⟨by omega,by omega⟩) ?_
  symm
  refine ow (by decide) ?_
  symm
  refine⟨_,_,_,_,rfl,rfl,i _,rfl,?_⟩
  symm
  refine k9 (by rw[List.set_set];exact i _) rfl ?_
  symm
  refine AV ⟨by decide,by decide⟩ ?_
  symm
  refine ow g ?_
  symm
  rw[List.set_set]
  refine eW (qv (by rfl)) (j _) (λ_ z=>by cases z) rfl ?_
  exact h _ _ _ _ (Int.emod_nonneg _ (by omega)) (Int.emod_lt_of_pos _ g)
structure Ex(k:Nat)(S S':aC):Prop where
 len:S.length<=S'.length
 keep:∀(j:Nat) (o:O),j≠k->S[j]?=some o->S'[j]?=some o
 pot:∃a b c,S'[k]?=some (lT a b c)
def Ex.refl{k:Nat}{S:aC}{a b c:Int}(h:S[k]?=some (lT a b c)):Ex k S S:=⟨Qmq _,λ_ _ _ h=>h,_,_,_,h⟩
def Ex.trans{k:Nat}{S a S2:aC}(x:Ex k S a)(y:Ex k a S2):Ex k S S2:=⟨QAq x.len y.len,λj o n h=>y.keep j o n (x.keep j o n h),y.pot⟩
def Ex.set{k:Nat}{S d:aC}{a b c:Int}(x:Ex k S d):Ex k S (d.set k (lT a b c)):=by
 obtain⟨_,_,_,h⟩:=x.pot
 refine⟨by simpa using x.len,λj o n h=> ?_,a,b,c,Qyq (gQs.mp h).1⟩
 rw[QKq (Ne.symm n)]
 exact x.keep j o n h
def Ex.app{k:Nat}{S d G:aC}(x:Ex k S d):Ex k S (d++G):=by
 obtain⟨a,b,c,h⟩:=x.pot
 refine⟨by rw[lQa];have:=x.len;omega,λj o n h=> ?_,a,b,c,?_⟩
 ·have:=x.keep j o n h
  rw[QHq (gQs.mp this).1]
  exact this
 ·rw[QHq (gQs.mp h).1]
  exact h
def Ex.put{k r:Nat}{S d:aC}{o:O}(x:Ex k S d)(i:S.length<=r)(g:k<S.length):Ex k S (d.set r o):=by
 obtain⟨a,b,c,h⟩:=x.pot
 refine⟨by simpa using x.len,λj e n h=> ?_,a,b,c,?_⟩
 ·have f:=(gQs.mp h).1
  rw[QKq (by omega)]
  exact x.keep j e n h
 ·rw[QKq (by omega)]
  exact h
def Ex.lt{k:Nat}{S d:aC}(x:Ex k S d):k<d.length:=by
 obtain⟨a,b,c,h⟩:=x.pot
 exact(gQs.mp h).1
def gW{S G:aC}{j:Nat}{o:O}(h:S[j]?=some o):(S++G)[j]?=some o:=by
 rw[QHq (gQs.mp h).1]
 exact h
def bq{S:aC}{o:O}:(S++ [o])[S.length]?=some o:=by simp
def q0{S:aC}{k j:Nat}{o o':O}(n:j≠k)(h:S[j]?=some o):(S.set k o')[j]?=some o:=by
 rw[QKq (Ne.symm n)]
 exact h
def qU{S:aC}{j:Nat}{o o':O}(h:S[j]?=some o):(S.set j o')[j]?=some o':=Qyq (gQs.mp h).1
def Ex.clean{k:Nat}{S f:aC}(x:Ex k S f)(l:k<S.length):kT S f/\∃a b c,f.take S.length=S.set k (lT a b c):=by
 obtain⟨a,b,c,h⟩:=x.pot
 have g:∀j,j<S.length->f[j]?=(S.set k (lT a b c))[j]? :=λj d=>by
  by_cases e:j=k
  ·subst e
   rw[h,Qyq d]
  ·rw[QKq (Ne.symm e),x.keep j _ e (gQe d),gQe d]
 refine⟨⟨x.len,λj o d e=> ?_⟩,a,b,c,?_⟩
 ·by_cases i:j=k
  ·subst i
   rw[h] at e
   cases e
   exact .inr rfl
  ·rw[x.keep j _ i (gQe d)] at e
   rw[gQe d]
   exact .inl e
 ·apply List.ext_getElem?
  intro j
  by_cases d:j<S.length
  ·rw[List.getElem?_take_of_lt d]
   exact g j d
  ·rw[List.getElem?_eq_none (by rw[Qxq];omega),List.getElem?_eq_none (by simp;omega)]
def Gi{k:Nat}{S e:aC}{d:D}{Q:Res->aC->Prop}(x:Ex k S e)(i:k<S.length)(hd:∀k,d≠.ref k)(g:bJ S.length d=true)(q:∀a b c,Q (.d d) (S.set k (lT a b c))):Op (settle S d e) λp=>Q p.1 p.2:=by
 obtain⟨f,a,b,c,h⟩:=x.clean i
 exact eW f h hd g (q a b c)
def kE{S g:aC}{k:Nat}{m:Int}{Q:Res->aC->Prop}(x:Ex k g S)(j:0<m)(i:m<1000000)
  (h:∀(d:Nat) (e:aC),(d:Int)<m->Ex k g e->Ex k S e->e.length=S.length->Q (.d (.int d)) e):Fn cq [.ref k,.int m] S Q:=by
 obtain⟨a,b,c,f⟩:=x.pot
 refine zj f j i λd p q r o l=> ?_
 obtain⟨n,rfl⟩:∃n:Nat,d=n:=⟨d.toNat,by omega⟩
 exact h n _ l x.set (Ex.refl f).set (by simp)
def aL{α:Type}{xs:List α}{j:Nat}{x:α}(h:xs[j]?=some x):lM xs (j:Int)=some x:=by
 have a:=(gQs.mp h).1
 unfold lM yC
 rw[Qhq (by omega),Qhq (by omega)]
 simpa using h
def B5{S n:aC}{k i:Nat}{xs:List D}{Q:Res->aC->Prop}(x:Ex k n S)(hi:i≠k)(m:S[i]?=some (.lst xs))(t:0<xs.length)(s:xs.length<1000)(p:∀d∈xs,(∀k,d≠.ref k)/\bJ 0 d=true)
  (e:∀d∈xs,bJ S.length d=true)
  (h:∀(d:D) (g:aC),d∈xs->Ex k n g->Ex k S g->g.length=S.length->Q (.d d) g):Fn gR [.ref k,.ref i] S Q:=by
 have y:Ex k S S:=by obtain⟨a,b,c,r⟩:=x.pot;exact Ex.refl r
 refine bD ?_
 unfold jJ
 symm
 apply dF m ?_
 refine kE y (by show(0:Int)<xs.length;omega) (by show(xs.length:Int)<1000000;omega) λd g o l u q=> ?_
 dsimp only
 have f:d<xs.length:=by have:(d:Int)<(xs.length:Int):=o;omega
 refine k9 (l.keep _ _ hi m) (aL (gQe f)) ?_
 have j:=List.getElem_mem f
 refine Gi l x.lt (p _ j).1 (e _ j) λa b c=> ?_
 exact h _ _ j x.set y.set (by simp)
end W28
namespace DL
open PySem PySem.Spec L2
mutual
theorem oA{m:Nat}:∀{d:D},bJ 0 d=true->bJ m d=true
 |.non,_=>rfl
 |.bl _,_=>rfl
 |.int _,_=>rfl
 |.str _,_=>rfl
 |.tup ds,h=>by simp only[bJ] at h⊢;exact gu h
 |.ref k,h=>by simp[bJ] at h
 |.fn _,_=>rfl
theorem gu{m:Nat}:∀{ds:List D},bz 0 ds=true->bz m ds=true
 | [],_=>rfl
 | d::ds,h=>by
   simp only[bz,QCq] at h⊢
   exact⟨oA h.1,gu h.2⟩
end
theorem sS{m:Nat}:∀{ds:List D},(∀d∈ds,bJ m d=true)->bz m ds=true
 | [],_=>rfl
 | d::ds,h=>by
   simp only[bz,QCq]
   exact⟨h d (QBq ..),sS λe a=>h e (Qpq _ a)⟩
def bo{α:Type}{m:Nat}{f:α->D}{l:List α}(h:∀a∈l,bJ m (f a)=true):bz m (l.map f)=true:=sS λd b=>by
 obtain⟨a,c,rfl⟩:=Qkq.mp b
 exact h a c
end DL
namespace W28
open PySem PySem.Spec L2 DL
def FN{n j:Nat}(h:j<n)(a:n<1000):seqIndex? (j:Int) n=some j:=(rp (by unfold yC;rw[Qhq (by omega),Qhq (by omega)];simp)).1
end W28
namespace DL
open PySem PySem.Spec L2
def ic{S:aC}{i j:Int}{Q:D->Prop}(q:Q (.bl (decide (i=j)))):Op (fI false S (.int i) (.int j)) Q:=⟨_,by simp[fI,pQ,tM],q⟩
def eQ{S:aC}{i j:Str}{Q:D->Prop}(q:Q (.bl (decide (i=j)))):Op (fI false S (.str i) (.str j)) Q:=⟨_,by simp[fI,pQ,tM],q⟩
def dE{b:cN}{S:aC}{n:Nat}{g:m5}{ds:List D}{Q:cN->aC->Prop}(c:ds.length=n)(h:GK g ds b S Q):Tg (ju (nG n g)) (.tup ds) b S Q:=by
 obtain⟨a,d,e,q⟩:=h
 exact⟨a,d,by show nG n g ds b S=_;unfold nG;rw[Qhq c];exact e,q⟩
def a7{a:cN}{S:aC}{Q:cN->aC->Prop}(q:Q a S):GK df [] a S Q:=⟨_,_,rfl,q⟩
def ay{c:cN}{S:aC}{f:jt}{g:m5}{d:D}{ds:List D}{Q:cN->aC->Prop}(h:Tg f d c S λa e=>GK g ds a e Q):GK (aI f g) (d::ds) c S Q:=by
 obtain⟨a,e,j,b,i,k,q⟩:=h
 exact⟨b,i,by show(f d c S).bind _=_;rw[j];exact k,q⟩
end DL
namespace W28
open PySem PySem.Spec L2 DL
def ops:List Str:= ["plus","minus","less","same","both"]
inductive Tr where
 |num (n:Nat)|word (x:Str)|waits (b:Str)|no (t:Tr)|two (o:Str) (a b:Tr)
def Tr.d:Tr->D
 |.num n=>.int n
 |.word x=>.str x
 |.waits b=>.tup [.str "waits",.str b]
 |.no t=>.tup [.str "not",t.d]
 |.two o a b=>.tup [.str o,a.d,b.d]
def Tr.Ok(ws bs:List Str):Tr->Prop
 |.num n=>n<=9
 |.word x=>x∈ws
 |.waits b=>b∈bs
 |.no t=>t.Ok ws bs
 |.two o a b=>o∈ops/\a.Ok ws bs/\b.Ok ws bs
def Tr.dep:Tr->Nat
 |.num _=>1
 |.word _=>1
 |.waits _=>1
 |.no t=>t.dep+1
 |.two _ a b=>max a.dep b.dep+1
theorem Tr.low:∀t:Tr,bJ 0 t.d=true
 |.num _=>rfl
 |.word _=>rfl
 |.waits _=>rfl
 |.no t=>by simp only[Tr.d,bJ,bz];rw[t.low];rfl
 |.two _ a b=>by simp only[Tr.d,bJ,bz];rw[a.low,b.low];rfl
inductive Rw where
 |put (x:Str) (t:Tr)|unl (t:Tr) (n:Nat)|go (n:Nat)|do_ (g:Option Str) (r d:Str) (t:Tr)|wait (b:Str) (t:Tr)|call (b:Str)|all (b:Str)|tell (t:Tr)
 |take (p:Str)|give (p:Str)|pass (p q:Str)|say (t:Tr)
def ED:Option Str->D
 |none=>.non
 |some x=>.str x
def Rw.d:Rw->D
 |.put x t=>.tup [.str "put",.str x,t.d]
 |.unl t n=>.tup [.str "unless",t.d,.int n]
 |.go n=>.tup [.str "go",.int n]
 |.do_ g r d t=>.tup [.str "do",ED g,.str r,.str d,t.d]
 |.wait b t=>.tup [.str "wait",.str b,t.d]
 |.call b=>.tup [.str "call",.str b]
 |.all b=>.tup [.str "all",.str b]
 |.tell t=>.tup [.str "tell",t.d]
 |.take p=>.tup [.str "take",.str p]
 |.give p=>.tup [.str "give",.str p]
 |.pass p q=>.tup [.str "pass",.str p,.str q]
 |.say t=>.tup [.str "say",t.d]
structure Sc where
 own:Bool
 ws:List Str
 ps:List Str
 bs:List Str
 gs:List (Str×Str)
 ts:List Str
def EH(a:Sc)(t:Tr):Prop:=t.Ok a.ws a.bs/\t.dep<=4
def Rw.Ok(a:Sc)(n:Nat):Rw->Prop
 |.put x t=>x∈a.ps/\EH a t
 |.unl t m=>EH a t/\m<=n
 |.go m=>m<=n
 |.do_ g r d t=>(∀x,g=some x->x∈a.ps)/\(r,d)∈a.gs/\EH a t
 |.wait b t=>a.own=false/\b∈a.bs/\EH a t
 |.call b=>a.own=false/\b∈a.bs
 |.all b=>a.own=false/\b∈a.bs
 |.tell t=>a.own=false/\EH a t
 |.take p=>a.own=true/\p∈a.ts
 |.give p=>a.own=true/\p∈a.ts
 |.pass p q=>a.own=true/\p∈a.ts/\q∈a.ts
 |.say t=>a.own=true/\EH a t
theorem Rw.low(r:Rw):bJ 0 r.d=true:=by
 cases r with
 |do_ g r d t=>cases g <;>simp only[Rw.d,bJ,bz,ED,t.low,Bool.and_true,Bool.true_and]
 |_=>simp only[Rw.d,bJ,bz,Tr.low,Bool.and_true,Bool.true_and]
def De(b:Sc)(a:List Rw):Prop:=∀r∈a,r.Ok b a.length
end W28
namespace DL
open PySem PySem.Spec L2
def CN{c:cN}{S:aC}{f:aV}{g:dU}{Q:D->aC->Prop}(h:E f c S λx b=>∃k a,x=.ref k/\b[k]?=some (.lst a)/\E g c b λp S2=>∃ds,S2[k]?=some (.lst ds)/\(p.2.isM=true/\ds.length+p.1.length<=sizeLine)/\Q .non (S2.set k (.lst (ds++p.1)))):E (y3 f g) c S Q:=by
 obtain⟨x,b,d,k,a,rfl,h1,p,S2,e2,ds,h2,h3,q⟩:=h
 exact⟨_,_,by unfold y3;rw[d];simp only[Qbq,e2,h1,h2];rw[Qhq h3],q⟩
def sR{b:cN}{S:aC}{f g:aV}{Q:D->aC->Prop}(h:E f b S λd a=>∃k,d=.bl k/\if k=true then E g b a Q else Q (.bl false) a):E (uo f g) b S Q:=by
 obtain⟨d,a,c,k,rfl,q⟩:=h
 cases k with
 |true=>obtain⟨j,e,i,q⟩:=(q:E g b a Q);exact⟨j,e,by unfold uo;rw[c];exact i,q⟩
 |false=>exact⟨_,a,by unfold uo;rw[c];rfl,q⟩
def vo{ds:List D}{y:D}{Q:List D×D->Prop}(h:ds.length<sizeLine)(q:Q (ds++ [y],.non)):Op (nN ds [y]) Q:=⟨_,by simp only[nN];rw[Qhq h],q⟩
end DL
namespace W28
open PySem PySem.Spec L2 DL
def ir:List Str:= ["given"]
end W28
namespace DL
open PySem PySem.Spec L2
def He{a b:cN}{d:D}(h:a.set 0 none=b.set 0 none):a.set 0 (some d)=b.set 0 (some d):=by
 have:=congrArg (λc:cN=>c.set 0 (some d)) h
 simpa using this
def DA{i:cN}{S:aC}{js:List (Option Nat)}{f:dU}{e:aV}{Q:List D->aC->Prop}(F:D->D)(h:E f i S λp c=>p.2.stays c p.1/\p.1.length<=1000/\(∀d∈p.1,E e ((k8 js i).set 0 (some d)) c λy S2=>y=F d/\S2=c)/\Q (p.1.map F) c):
  E (cW js (r8 f) (bO 0) dW e) i S Q:=by
 refine og (vj (h.mono λp c m=> ?_))
 obtain⟨l,u,s,q⟩:=m
 refine⟨λn b g a=>g=c/\a=(p.1.take n).map F/\b.set 0 none=(k8 js i).set 0 none,⟨rfl,rfl,rfl⟩,λn b g a h=>by rw[h.1];exact l,λn d b g a j h=> ?_,λb g a h=> ?_⟩
 ·obtain⟨rfl,rfl,h3⟩:=h
  refine aQ (rF ?_)
  rw[Qhq rfl,He h3]
  refine(s d (mQg j)).mono λy S2 o=> ?_
  obtain⟨k,r⟩:=o
  subst k r
  have t:=(gQs.mp j).1
  refine⟨?_,rfl,?_,by simp⟩
  ·rw[lQm,Qxq]
   exact aH (by omega)
  ·rw[QYq,j]
   simp
 ·obtain⟨rfl,rfl,_⟩:=h
  rw[QEq]
  exact q
end DL
namespace W28
open PySem PySem.Spec L2 DL
def uL(p:Str×Nat):D:=.tup [.str p.1,.int p.2]
def ER(p:Str×Str):D:=.tup [.str p.1,.str p.2]
def fP(p:Str×List Rw):D:=.tup [.str p.1,.tup (p.2.map Rw.d)]
structure Rm where
 name:Str
 ah:Str
 ao:List (Str×Nat)
 aa:List (Str×Str)
 ae:List (Str×List Rw)
def Rm.d(r:Rm):D:=.tup [.str r.name,.str r.ah,.tup (r.ao.map uL),.tup (r.aa.map ER),.tup (r.ae.map fP)]
structure Fj(gs:List (Str×Str))(r:Rm):Prop where
 mn:r.ah="at once" \/r.ah="when free"
 tv:∀p∈r.ao,p.2<=9
 l1:r.ao.length<=6
 l2:r.aa.length<=6
 l3:r.ae.length<=6
 bv:∀p∈r.aa,p.2="row" \/p.2="turns"
 pr:∀p∈r.ae,De ⟨false,r.ao.map (·.1)++ir,r.ao.map (·.1),r.aa.map (·.1),gs,[]⟩ p.2/\p.2.length<=12
end W28
namespace DL
open PySem PySem.Spec L2
end DL
namespace W28
open PySem PySem.Spec L2 DL
end W28
namespace DL
open PySem PySem.Spec L2
end DL
namespace W28
open PySem PySem.Spec L2 DL
def dG(a:List Rm):List (Str×Str):=a.flatMap λr=>r.ae.map λp=>(r.name,p.1)
def fA(p:List (Str×Nat)×List Rw):D:=.tup [.tup (p.1.map uL),.tup (p.2.map Rw.d)]
structure cz where
 aj:List Rm
 ai:List (Str×Nat)
 ak:List (Str×Nat)
 af:List (List (Str×Nat)×List Rw)
def cz.d(w:cz):D:=.tup [.tup (w.aj.map Rm.d),.tup (w.ai.map uL),.tup (w.ak.map uL),.tup (w.af.map fA)]
structure EF(gs:List (Str×Str))(ak ai:List Str)(h:List (Str×Nat)×List Rw):Prop where
 tv:∀p∈h.1,p.2<=9
 l1:h.1.length<=6
 l2:h.2.length<=9
 l0:0<h.2.length
 pr:De ⟨true,h.1.map (·.1)++ak,h.1.map (·.1)++ak,[],gs,ai⟩ h.2
structure cU(w:cz):Prop where
 nd:(w.aj.map (·.name)).Nodup
 l1:w.aj.length<=3
 l2:w.ai.length<=6
 l3:w.ak.length<=6
 l4:w.af.length<=4
 l0:0<w.af.length
 pv:∀p∈w.ai,p.2<=9
 sv:∀p∈w.ak,p.2<=9
 rm:∀r∈w.aj,Fj (dG w.aj) r
 hd:∀h∈w.af,EF (dG w.aj) (w.ak.map (·.1)) (w.ai.map (·.1)) h
end W28
namespace DL
open PySem PySem.Spec L2
def Df{l:cN}{S:aC}{js:List (Option Nat)}{f:dU}{g:jt}{i:aV}{Q:List D->aC->Prop}(P:cN->Prop)(F:D->D)(u:P (k8 js l)) (h:E f l S λp e=>p.2.stays e p.1/\p.1.length<=1000∧
   (∀d∈p.1,∀a,P a->Tg g d a e λb S2=>S2=e/\P b/\E i b e λy m=>y=F d/\m=e)/\Q (p.1.map F) e):E (cW js (r8 f) g dW i) l S Q:=by
 refine og (vj (h.mono λp e s=> ?_))
 obtain⟨r,A,x,q⟩:=s
 refine⟨λn a j c=>j=e/\c=(p.1.take n).map F/\P a,⟨rfl,rfl,u⟩,λn a j c h=>by rw[h.1];exact r,λn d a j c k h=> ?_,λa j c h=> ?_⟩
 ·obtain⟨rfl,rfl,h3⟩:=h
  obtain⟨b,S2,o,rfl,h4,h5⟩:=x d (mQg k) a h3
  refine⟨b,S2,o,rF ?_⟩
  rw[Qhq rfl]
  refine h5.mono λy m v=> ?_
  obtain⟨w,t⟩:=v
  subst w t
  have z:=(gQs.mp k).1
  refine⟨?_,rfl,?_,h4⟩
  ·rw[lQm,Qxq]
   exact aH (by omega)
  ·rw[QYq,k]
   simp
 ·obtain⟨rfl,rfl,_⟩:=h
  rw[QEq]
  exact q
def oz{α:Type}{o:cN}{S:aC}{js:List (Option Nat)}{f:dU}{g:jt}{k:aV}{Q:List D->aC->Prop}(P:cN->Prop)(enc G:α->D)(z:P (k8 js o)) (h:E f o S λp i=>∃xs:List α,p.1=xs.map enc/\p.2.stays i p.1/\xs.length<=1000∧
   (∀x∈xs,∀a,P a->Tg g (enc x) a i λb S2=>S2=i/\P b/\E k b i λy s=>y=G x/\s=i)/\Q (xs.map G) i):E (cW js (r8 f) g dW k) o S Q:=by
 refine og (vj (h.mono λp i v=> ?_))
 obtain⟨xs,r,u,H,C,q⟩:=v
 refine⟨λn a m c=>m=i/\c=(xs.take n).map G/\P a,⟨rfl,rfl,z⟩,λn a m c h=>by rw[h.1];exact u,λn d a m c l h=> ?_,λa m c h=> ?_⟩
 ·obtain⟨rfl,rfl,h3⟩:=h
  have l:p.1[n]?=some d:=l
  rw[r,gQm] at l
  obtain⟨x,j,rfl⟩:=oQm.mp l
  obtain⟨b,S2,t,rfl,h4,h5⟩:=C x (mQg j) a h3
  refine⟨b,S2,t,rF ?_⟩
  rw[Qhq rfl]
  refine h5.mono λy s A=> ?_
  obtain⟨B,w⟩:=A
  subst B w
  have F:=(gQs.mp j).1
  refine⟨?_,rfl,?_,h4⟩
  ·rw[lQm,Qxq]
   exact aH (by omega)
  ·rw[QYq,j]
   simp
 ·obtain⟨rfl,rfl,_⟩:=h
  have e:p.1.length=xs.length:=by rw[r,lQm]
  show Q ((xs.take p.1.length).map G) _
  rw[e,QEq]
  exact q
def bH{S:aC}{d:D}{Q:Res->aC->Prop}(hd:∀k,d≠.ref k)(a:bJ 0 d=true)(q:Q (.d d) S):Op (settle S d S) λp=>Q p.1 p.2:=eW nU (QEq) hd (oA a) q
def zA{S:aC}{ds:List D}{Q:Res->aC->Prop}(a:bz 0 ds=true)(q:Q (.l ds) S):Op (dQ S ds S) λp=>Q p.1 p.2:=nM nU (QEq) (gu a) q
end DL
namespace W28
open PySem PySem.Spec L2 DL
structure bC where
 room:Int
 deed:Int
 row:Int
 given:Int
 told:Int
structure du where
 vals:List Int
 within:Int
 row:List Int
 ag:List Int
 aa:List (List (Int×Int))
structure aM where
 aj:List du
 ai:List (Int×List Int)
 ak:List Int
 af:List (List Int×List bC)
def cc(l:List Int):D:=.tup (l.map D.int)
def bC.d(f:bC):D:=.tup [.int f.room,.int f.deed,.int f.row,.int f.given,.int f.told]
def pairD(p:Int×Int):D:=.tup [.int p.1,.int p.2]
def c_(l:List (Int×Int)):D:=.tup (l.map pairD)
def du.d(r:du):D:=.tup [cc r.vals,.int r.within,cc r.row,cc r.ag,.tup (r.aa.map c_)]
def xk(p:Int×List Int):D:=.tup [.int p.1,cc p.2]
def xK(h:List Int×List bC):D:=.tup [cc h.1,.tup (h.2.map bC.d)]
def aM.d(s:aM):D:=.tup [.tup (s.aj.map du.d),.tup (s.ai.map xk),cc s.ak,.tup (s.af.map xK)]
def iV(l:List Int):bJ 0 (cc l)=true:=by simp only[cc,bJ];exact bo λ_ _=>rfl
def o9(l:List (Int×Int)):bJ 0 (c_ l)=true:=by simp only[c_,bJ];exact bo λ_ _=>rfl
def du.low(r:du):bJ 0 r.d=true:=by
 simp only[du.d,bJ,bz,iV,Bool.and_true,Bool.true_and]
 exact bo λl _=>o9 l
def vy(p:Int×List Int):bJ 0 (xk p)=true:=by simp only[xk,bJ,bz,iV,Bool.and_true]
def wR(h:List Int×List bC):bJ 0 (xK h)=true:=by
 simp only[xK,bJ,bz,iV,Bool.and_true,Bool.true_and]
 exact bo λ_ _=>rfl
def aM.low(s:aM):bJ 0 s.d=true:=by
 simp only[aM.d,bJ,bz,iV,Bool.and_true,Bool.true_and,QCq]
 exact⟨bo λr _=>r.low,bo λp _=>vy p,bo λh _=>wR h⟩
def dh(ts:List (Str×Nat)):List Int:=ts.map λp=>(p.2:Int)
def c7(r:Rm):du:=⟨dh r.ao,-1,[],[],r.aa.map λ_=> []⟩
def yJ:bC:=⟨-1,-1,0,0,0⟩
def cv(w:cz):aM:=⟨w.aj.map c7,w.ai.map λp=>((p.2:Int),[]),dh w.ak,w.af.map λh=>(dh h.1,[yJ])⟩
section
variable{S:aC}{Q:Res->aC->Prop}
def gY{ts:List (Str×Nat)}(l:ts.length<=1000)(h:Q (.d (cc (dh ts))) S):Fn ed [.tup (ts.map uL)] S Q:=by
 refine bD ?_
 unfold jO
 symm
 apply Df (λc=>∃a b,c= [a,b]) (λd=>match d with|.tup [_,v]=>v|d=>d) ⟨none,none,rfl⟩ ?_
 refine⟨trivial,by simpa using l,λd g c f=> ?_,?_⟩
 ·obtain⟨p,_,rfl⟩:=Qkq.mp g
  obtain⟨a,b,rfl⟩:=f
  refine dE rfl (ay (aQ (ay (aQ (a7 ?_)))))
  apply⟨rfl,⟨_,_,rfl⟩,?_⟩
  exact⟨rfl,rfl⟩
 ·have e:(ts.map uL).map (λd=>match d with|.tup [_,v]=>v|d=>d)=(dh ts).map D.int:=by
   simp only[dh,QPq]
   rfl
  rw[e]
  exact bH (d:=cc (dh ts)) (λk z=>(nomatch z)) (iV _) h
def qh{r:Rm}(a:r.ao.length<=6)(b:r.aa.length<=6)(h:Q (.d (c7 r).d) S):Fn fM [r.d] S Q:=by
 refine bD ?_
 unfold i6
 symm
 apply dE rfl (ay (aQ (ay (aQ (ay (aQ (ay (aQ (ay (aQ (a7 ?_)))))))))))
 apply gY (by omega) ?_
 apply⟨by decide,?_⟩
 apply⟨by decide,?_⟩
 apply DA (λ_=>.tup []) ?_
 refine⟨trivial,by simp;omega,λd c=> ?_,?_⟩
 ·symm
  exact⟨by decide,rfl,rfl⟩
 ·symm
  refine⟨by show 5<=_;decide,?_⟩
  have e:D.tup ((r.aa.map ER).map λ_=>D.tup [])=D.tup ((c7 r).aa.map c_):=by
   simp only[c7,QPq]
   rfl
  rw[e]
  exact bH (d:=(c7 r).d) (λk z=>(nomatch z)) (du.low _) h
def Ar{w:cz}(o:cU w)(h:Q (.d (cv w).d) S):Fn sC [w.d] S Q:=by
 refine bD ?_
 unfold vt
 symm
 apply dE rfl (ay (aQ (ay (aQ (ay (aQ (ay (aQ (a7 ?_)))))))))
 apply⟨by decide,?_⟩
 have l:=o.l1
 have n:=o.l2
 have m:=o.l3
 have q:=o.l4
 apply oz (α:=Rm) (λc=>∃a,c= [a]) Rm.d (λr=>(c7 r).d) ⟨none,rfl⟩ ?_
 refine⟨w.aj,rfl,trivial,by omega,λr f c e=> ?_,?_⟩
 ·obtain⟨a,rfl⟩:=e
  apply aQ ⟨rfl,⟨_,rfl⟩,?_⟩
  exact qh (o.rm r f).l1 (o.rm r f).l2 ⟨rfl,rfl⟩
 symm
 apply oz (α:=Str×Nat) (λc=>∃a b,c= [a,b]) uL (λp=>xk ((p.2:Int),[])) ⟨none,none,rfl⟩ ?_
 refine⟨w.ai,rfl,trivial,by omega,λr f c e=> ?_,?_⟩
 ·obtain⟨a,b,rfl⟩:=e
  refine dE rfl (ay (aQ (ay (aQ (a7 ?_)))))
  apply⟨rfl,⟨_,_,rfl⟩,?_⟩
  apply⟨by decide,?_⟩
  exact⟨by show 2<=_;decide,rfl,rfl⟩
 symm
 apply gY (by omega) ?_
 apply oz (α:=List (Str×Nat)×List Rw) (λc=>∃a b,c= [a,b,some yJ.d]) fA (λh=>xK (dh h.1,[yJ])) ⟨none,none,rfl⟩ ?_
 refine⟨w.af,rfl,trivial,by omega,λr f c e=> ?_,?_⟩
 ·obtain⟨a,b,rfl⟩:=e
  refine dE rfl (ay (aQ (ay (aQ (a7 ?_)))))
  apply⟨rfl,⟨_,_,rfl⟩,?_⟩
  refine gY (by have:=(o.hd r f).l1;omega) ?_
  symm
  refine⟨by show 1<=_;decide,?_⟩
  symm
  exact⟨by show 2<=_;decide,rfl,rfl⟩
 symm
 refine⟨by show 4<=_;decide,?_⟩
 have g:w.aj.map (λr=>(c7 r).d)=(cv w).aj.map du.d:=by simp only[cv,QPq];rfl
 have j:w.ai.map (λp=>xk ((p.2:Int),[]))=(cv w).ai.map xk:=by simp only[cv,QPq];rfl
 have i:w.af.map (λh=>xK (dh h.1,[yJ]))=(cv w).af.map xK:=by simp only[cv,QPq];rfl
 rw[g,j,i]
 exact bH (d:=(cv w).d) (λk z=>(nomatch z)) (aM.low _) h
end
end W28
namespace DL
open PySem PySem.Spec L2
section
variable{Γ:cN}{S:aC}
def qQ{f:aV}{Q:D->aC->Prop}(h:E f Γ S λd a=>∃i,d=.int i/\Q (.int (-i)) a):E (sP f) Γ S Q:=by
 obtain⟨d,a,b,i,rfl,q⟩:=h
 exact⟨_,a,by unfold sP;rw[b];rfl,q⟩
def bV{Q:Option Int->aC->Prop}(q:Q none S):E pS Γ S Q:=⟨_,_,rfl,q⟩
def bW{f:aV}{Q:Option Int->aC->Prop}(h:E f Γ S λd a=>∃i,d=.int i/\Q (some i) a):E (o7 f) Γ S Q:=by
 obtain⟨d,a,b,i,rfl,q⟩:=h
 exact⟨_,a,by unfold o7;rw[b];rfl,q⟩
def ik{f:aV}{lo hi:EN}{Q:D->aC->Prop}(h:E f Γ S λd b=>E lo Γ b λl S2=>E hi Γ S2 λu a=>∃ds,d=.tup ds/\Q (.tup (hX ds l u)) a):E (pj f lo hi) Γ S Q:=by
 obtain⟨d,b,e,l,S2,g,u,a,c,ds,rfl,q⟩:=h
 exact⟨_,a,by unfold pj;rw[e];simp only[Qbq];rw[g];simp only[Qbq];rw[c];rfl,q⟩
def E6{i j:Nat}{f:fh}{Q:Out->Prop}(h:E f Γ S λds c=>∃a b,ds= [a,b]/\Q (.nx ((Γ.set i (some a)).set j (some b)) c)):T (BA i j f) Γ S Q:=by
 obtain⟨ds,c,d,a,b,rfl,q⟩:=h
 exact⟨_,by unfold BA;rw[d];rfl,q⟩
end
def zp{α:Type}{xs:List α}{i:Nat}(h:i<=xs.length):hX xs none (some (i:Int))=xs.take i:=by
 unfold hX
 rw[HT.oX,HT.wX,Nat.min_eq_left h]
 simp
def gE{α:Type}{xs:List α}{i:Nat}(h:i<=xs.length):hX xs (some (i:Int)) none=xs.drop i:=by
 unfold hX
 rw[HT.oX,HT.wX,Nat.min_eq_left h]
 rw[List.take_of_length_le]
 simp
def ve{α:Type}{xs:List α}(h:0<xs.length):hX xs none (some (-1))=xs.dropLast:=by
 unfold hX
 rw[HT.oX]
 show(xs.drop 0).take (HT.dk xs.length xs.length (some (-1))-0)=_
 rw[show HT.dk xs.length xs.length (some (-1))=xs.length-1 by simp only[HT.dk];rw[Qhq (by omega)];omega]
 simp[List.dropLast_eq_take]
def vb{α:Type}{xs:List α}{x:α}(h:xs.getLast? =some x):lM xs (-1)=some x:=by
 have c:0<xs.length:=by
  cases xs with
  |nil=>cases h
  |cons a b=>simp
 unfold lM yC
 rw[Quq (by omega),Qhq (by omega)]
 rw[List.getLast?_eq_getElem?] at h
 simp only[Qbq]
 rw[show((-1:Int)+(xs.length:Int)).toNat=xs.length-1 by omega]
 exact h
end DL
namespace W28
open PySem PySem.Spec L2 DL
section
variable{S:aC}{Q:Res->aC->Prop}
def bj{s:aM}{h:Nat}{vs:List Int}{fs:List bC}{f:bC}(a:s.af[h]?=some (vs,fs))(b:fs.getLast? =some f)(q:Q (.d f.d) S):Fn bM [s.d,.int h] S Q:=by
 refine bD ?_
 unfold iL
 symm
 apply au rfl ?_
 refine au (d:=xK (vs,fs)) (aL (by rw[gQm,a];rfl)) ?_
 symm
 refine au rfl ?_
 apply qQ ?_
 refine⟨1,rfl,?_⟩
 refine au (d:=f.d) (vb (by rw[QfQ,b];rfl)) ?_
 exact bH (λk z=>(nomatch z)) rfl q
def progOf(w:cz)(h:Nat)(f:bC):Option (List Rw):=
 if f.room= -1 then(w.af[h]?).map (·.2) else if 0<=f.room/\0<=f.deed then(w.aj[f.room.toNat]?).bind λr=>(r.ae[f.deed.toNat]?).map (·.2) else none
def jk{α:Type}{xs:List α}{i:Int}{x:α}(a:0<=i)(h:xs[i.toNat]?=some x):lM xs i=some x:=by
 obtain⟨n,rfl⟩:∃n:Nat,i=n:=⟨i.toNat,by omega⟩
 exact aL (by simpa using h)
def tK(a:List Rw):bJ 0 (.tup (a.map Rw.d))=true:=by simp only[bJ];exact bo λr _=>r.low
def eg{w:cz}{h:Nat}{f:bC}{pr:List Rw}(a:progOf w h f=some pr)(q:Q (.d (.tup (pr.map Rw.d))) S):Fn dz [w.d,.int h,f.d] S Q:=by
 refine bD ?_
 unfold mO
 apply bZ (E6 ?_)
 apply au rfl ?_
 apply au rfl ?_
 apply⟨_,_,rfl,?_⟩
 refine ic ?_
 dsimp only
 unfold progOf at a
 by_cases c:f.room= -1
 ·rw[Qhq c] at a
  obtain⟨i,b,rfl⟩:=oQm.mp a
  rw[Qeq c,Qhq rfl]
  symm
  apply au rfl ?_
  refine au (d:=fA i) (aL (by rw[gQm,b];rfl)) ?_
  symm
  refine au rfl ?_
  exact bH (λk z=>(nomatch z)) (tK _) q
 ·rw[Quq c] at a
  split at a
  ·rename_i e
   obtain⟨r,b,a⟩:=aq a
   obtain⟨j,g,rfl⟩:=oQm.mp a
   rw[Qdq c,Quq (by decide)]
   symm
   apply au rfl ?_
   refine au (d:=r.d) (jk e.1 (by rw[gQm,b];rfl)) ?_
   symm
   apply au rfl ?_
   refine au (d:=fP j) (jk e.2 (by rw[gQm,g];rfl)) ?_
   symm
   refine au rfl ?_
   exact bH (λk z=>(nomatch z)) (tK _) q
  ·cases a
def cK{xs:List D}{i:Nat}{d:D}(hi:i<xs.length)(m:xs.length<=900)(f:bz 0 xs=true)(j:bJ 0 d=true)(q:Q (.d (.tup (xs.set i d))) S):Fn cp [.tup xs,.int i,d] S Q:=by
 refine bD ?_
 unfold j7
 symm
 apply ik ?_
 apply bV (bW ?_)
 apply⟨_,rfl,_,rfl,?_⟩
 refine⟨by show 1<=_;decide,?_⟩
 rw[zp (by omega)]
 refine bK (by simp only[Qxq,Qnq,QGq];exact nQl (aH (by omega))) ?_
 apply ik ?_
 apply bW ?_
 refine⟨_,rfl,bV ⟨_,rfl,?_⟩⟩
 rw[show((i:Int)+1)=((i+1:Nat):Int) by omega,gE (by omega)]
 refine bK (by simp only[lQa,Qxq,List.length_drop,Qnq,QGq];exact nQl (aH (by omega))) ?_
 have e:xs.take i++ [d]++xs.drop (i+1)=xs.set i d:=by
  rw[List.set_eq_take_append_cons_drop,Qhq hi]
  simp
 rw[e]
 refine bH (λk z=>(nomatch z)) ?_ q
 simp only[bJ]
 refine sS λz b=> ?_
 rcases QTq b with b|rfl
 ·have c:∀l:List D,bz 0 l=true->∀z∈l,bJ 0 z=true:=by
   intro l
   induction l with
   |nil=>intro _ z b;cases b
   | cons a l g=>
     intro h z b
     simp only[bz,QCq] at h
     rcases Qsq.mp b with rfl|b
     · exact h.1
     · exact g h.2 z b
  exact c xs f z b
 ·exact j
end
section
variable{S:aC}{Q:Res->aC->Prop}
def map_set{α b:Type}(f:α->b)(l:List α)(i:Nat)(a:α):(l.set i a).map f=(l.map f).set i (f a):=by
 rw[List.map_set]
def aJ(s:aM):∀k,s.d≠.ref k:=λk z=>(nomatch z)
def cf{s:aM}{i:Nat}{r:du}(hi:i<s.aj.length)(a:s.aj.length<=900)(q:Q (.d ({s with aj:=s.aj.set i r}:aM).d) S):Fn bQ [s.d,.int i,r.d] S Q:=by
 refine bD ?_
 unfold j0
 symm
 apply au rfl ?_
 apply cK (by simpa using hi) (by simpa using a) (bo λr _=>r.low) r.low ?_
 refine⟨by show 1<=_;decide,?_⟩
 apply ik ?_
 apply bW ?_
 refine⟨_,rfl,bV ⟨_,rfl,?_⟩⟩
 refine bK (by show 4<=_;decide) ?_
 refine bH (d:=({s with aj:=s.aj.set i r}:aM).d) (aJ _) (aM.low _) q|>λz=> ?_
 rw[←map_set]
 exact z
def eV{s:aM}{i:Nat}{p:Int×List Int}(hi:i<s.ai.length)(a:s.ai.length<=900)(q:Q (.d ({s with ai:=s.ai.set i p}:aM).d) S):Fn dj [s.d,.int i,xk p] S Q:=by
 refine bD ?_
 unfold jM
 symm
 apply au rfl ?_
 apply au rfl ?_
 apply cK (by simpa using hi) (by simpa using a) (bo λr _=>vy r) (vy p) ?_
 refine⟨by show 2<=_;decide,?_⟩
 apply ik ?_
 apply bW ?_
 refine⟨_,rfl,bV ⟨_,rfl,?_⟩⟩
 refine bK (by show 4<=_;decide) ?_
 refine bH (d:=({s with ai:=s.ai.set i p}:aM).d) (aJ _) (aM.low _) q|>λz=> ?_
 rw[←map_set]
 exact z
def eS{s:aM}{i:Nat}{vs:List Int}{fs:List bC}(hi:i<s.af.length)(a:s.af.length<=900)(q:Q (.d ({s with af:=s.af.set i (vs,fs)}:aM).d) S):Fn dt [s.d,.int i,cc vs,.tup (fs.map bC.d)] S Q:=by
 refine bD ?_
 unfold jW
 apply oy (D_ (ik ?_))
 apply bV (bW ?_)
 apply⟨_,rfl,_,rfl,?_⟩
 apply au rfl ?_
 refine⟨by show 2<=_;decide,?_⟩
 symm
 apply cK (d:=xK (vs,fs)) (by simpa using hi) (by simpa using a) (bo λr _=>wR r) (wR (vs,fs)) ?_
 refine⟨by show 1<=_;decide,?_⟩
 refine bK (by show 4<=_;decide) ?_
 refine bH (d:=({s with af:=s.af.set i (vs,fs)}:aM).d) (aJ _) (aM.low _) q|>λz=> ?_
 rw[←map_set]
 exact z
def fo{s:aM}{h:Nat}{vs:List Int}{fs:List bC}{f:bC}(a:s.af[h]?=some (vs,fs))(b:0<fs.length)(g:fs.length<=900)(c:s.af.length<=900)(q:Q (.d ({s with af:=s.af.set h (vs,fs.dropLast++ [f])}:aM).d) S):Fn cC [s.d,.int h,f.d] S Q:=by
 refine bD ?_
 unfold d_
 symm
 apply au rfl ?_
 refine au (d:=xK (vs,fs)) (aL (by rw[gQm,a];rfl)) ?_
 apply dE rfl (ay (aQ (ay (aQ (a7 ?_)))))
 apply ik ?_
 apply bV (bW (qQ ?_))
 apply⟨1,rfl,_,rfl,_,rfl,?_⟩
 refine⟨by show 1<=_;decide,?_⟩
 rw[ve (by simpa using b)]
 refine bK (by simp only[List.length_dropLast,lQm,Qnq,QGq];exact nQl (aH (by omega))) ?_
 symm
 have e:(fs.map bC.d).dropLast++ [f.d]=(fs.dropLast++ [f]).map bC.d:=by rw[Qzq,List.map_dropLast];rfl
 rw[e]
 refine eS (gQs.mp a).1 c ?_
 exact bH (aJ _) (aM.low _) q
def lO{s:aM}{h:Nat}{vs:List Int}{fs:List bC}{f:bC}{n:Int}(c:s.af[h]?=some (vs,fs))(e:fs.getLast? =some f)(j:fs.length<=900)(g:s.af.length<=900)(q:Q (.d ({s with af:=s.af.set h (vs,fs.dropLast++ [{f with row:=n}])}:aM).d) S):Fn gV [s.d,.int h,.int n] S Q:=by
 refine bD ?_
 unfold su
 symm
 apply bj c e ?_
 apply ik ?_
 apply bV (bW ?_)
 apply⟨_,rfl,_,rfl,?_⟩
 refine⟨by show 1<=_;decide,?_⟩
 refine bK (by show 3<=_;decide) ?_
 apply ik ?_
 apply bW ?_
 refine⟨_,rfl,bV ⟨_,rfl,?_⟩⟩
 refine bK (by show 5<=_;decide) ?_
 symm
 have i:0<fs.length:=by
  cases fs with
  |nil=>cases e
  |cons a b=>simp
 refine fo (f:={f with row:=n}) c i j g ?_
 exact bH (aJ _) (aM.low _) q
def gG(r:du)(h:Int):du:=if r.within= -1 then{r with within:=h} else{r with row:=r.row++ [h]}
def bR(r:du):du:=match r.ag,r.row with
 |a::l,_=>{r with within:=a,ag:=l}
 | [],a::l=>{r with within:=a,row:=l}
 | [],[]=>{r with within:= -1}
def oM{s:aM}{i:Nat}{h:Int}{r:du}(a:s.aj[i]?=some r)(b:s.aj.length<=900)(lr:r.row.length<=900)(q:Q (.d ({s with aj:=s.aj.set i (gG r h)}:aM).d) S):Fn iB [s.d,.int i,.int h] S Q:=by
 have f:=(gQs.mp a).1
 refine bD ?_
 unfold n_
 symm
 apply au rfl ?_
 refine au (d:=r.d) (aL (by rw[gQm,a];rfl)) ?_
 apply dE rfl (ay (aQ (ay (aQ (ay (aQ (ay (aQ (ay (aQ (a7 ?_)))))))))))
 refine ic ?_
 dsimp only
 unfold gG at q
 by_cases c:r.within= -1
 ·rw[Qhq c] at q
  rw[Qeq c,Qhq rfl]
  symm
  refine⟨by show 5<=_;decide,?_⟩
  symm
  refine cf (r:={r with within:=h}) f b ?_
  exact bH (aJ _) (aM.low _) q
 ·rw[Quq c] at q
  rw[Qdq c,Quq (by decide)]
  symm
  refine⟨by show 1<=_;decide,?_⟩
  refine bK (by simp only[lQm,Qnq,QGq];exact nQl (aH (by omega))) ?_
  symm
  refine⟨by show 5<=_;decide,?_⟩
  symm
  have e:D.tup (r.row.map D.int++ [D.int h])=cc (r.row++ [h]):=by simp[cc]
  rw[e]
  refine cf (r:={r with row:=r.row++ [h]}) f b ?_
  exact bH (aJ _) (aM.low _) q
end
section
variable{S:aC}{Q:Res->aC->Prop}
def zF{α:Type}{a:α}{l:List α}:lM (a::l) 0=some a:=aL (j:=0) rfl
def rh{S:aC}{ds:List D}{Q:Bool->Prop}(q:Q (!ds.isEmpty)):Op (wN S (.tup ds)) Q:=⟨_,rfl,q⟩
def tw{s:aM}{i:Nat}{r:du}(m:s.aj[i]?=some r)(j:s.aj.length<=900)(q:Q (.d ({s with aj:=s.aj.set i (bR r)}:aM).d) S):Fn mw [s.d,.int i] S Q:=by
 have k:=(gQs.mp m).1
 refine bD ?_
 unfold wb
 symm
 apply au rfl ?_
 refine au (d:=r.d) (aL (by rw[gQm,m];rfl)) ?_
 refine dE rfl (ay (aQ (ay (aQ (ay (aQ (ay (aQ (ay (aQ (a7 ?_)))))))))))
 obtain⟨b,g,f,n,h⟩:=r
 symm
 refine rh ?_
 cases n with
 | cons a l=>
   apply bu (λ_=> ?_) (λc=>by cases c)
   apply au (d:=.int a) zF ?_
   apply ik ?_
   apply bW ?_
   apply⟨_,rfl,bV ⟨_,rfl,?_⟩⟩
   refine⟨by show 5<=_;decide,?_⟩
   symm
   have e:D.tup (hX ((a::l).map D.int) (some 1) none)=cc l:=by
     rw[show(some (1:Int))=some ((1:Nat):Int) from rfl,gE (by simp)]
     rfl
   rw[e]
   refine cf (r:=⟨b,a,f,l,h⟩) k j ?_
   exact bH (aJ _) (aM.low _) q
 | nil=>
   refine bu (λc=>by cases c) (λ_=> ?_)
   apply cD ?_
   refine rh ?_
   cases f with
   | cons a l=>
     apply bu (λ_=> ?_) (λc=>by cases c)
     apply au (d:=.int a) zF ?_
     apply ik ?_
     apply bW ?_
     apply⟨_,rfl,bV ⟨_,rfl,?_⟩⟩
     refine⟨by show 5<=_;decide,?_⟩
     symm
     have e:D.tup (hX ((a::l).map D.int) (some 1) none)=cc l:=by
       rw[show(some (1:Int))=some ((1:Nat):Int) from rfl,gE (by simp)]
       rfl
     rw[e]
     refine cf (r:=⟨b,a,l,[],h⟩) k j ?_
     exact bH (aJ _) (aM.low _) q
   | nil=>
     refine bu (λc=>by cases c) (λ_=> ?_)
     apply cD ?_
     refine⟨by show 5<=_;decide,?_⟩
     symm
     refine cf (r:=⟨b,-1,[],[],h⟩) k j ?_
     exact bH (aJ _) (aM.low _) q
def dw{α:Type}{enc:α->D}{nm:α->Str}{xs:List α}(he:∀a,∃r,enc a=.tup (.str (nm a)::r))(d:xs.length<=1000)(q:Q (.l ((xs.map nm).map D.str)) S):Fn cR [.tup (xs.map enc)] S Q:=by
 refine bD ?_
 unfold lE
 symm
 apply oz (α:=α) (λb=>∃a,b= [a]) enc (λa=>.str (nm a)) ⟨none,rfl⟩ ?_
 refine⟨xs,rfl,trivial,d,λr f b c=> ?_,?_⟩
 ·obtain⟨a,rfl⟩:=c
  refine aQ ⟨rfl,⟨_,rfl⟩,?_⟩
  obtain⟨g,e⟩:=he r
  rw[e]
  symm
  exact au zF ⟨rfl,rfl⟩
 ·have e:xs.map (λa=>D.str (nm a))=(xs.map nm).map D.str:=by rw[QPq];rfl
  rw[e]
  exact zA (bo λ_ _=>rfl) q
theorem fq:∀a:List Str,iy (a.map D.str)=some (a.map V.str)
 | []=>rfl
 |s::a=>by simp only[QDq,iy,pQ,Qbq];rw[fq a];rfl
theorem rP{x:Str}:∀{ns:List Str},x∈ns->∃j,kO (.str x) (ns.map V.str)=some j/\ns[j]?=some x
 | [],h=>by cases h
 | n::ns,h=>by
   by_cases c:n=x
   · subst c
     exact⟨0,by simp[kO,kb],rfl⟩
   · obtain⟨j,a,b⟩:=rP (ns:=ns) ((Qsq.mp h).resolve_left (Ne.symm c))
     exact⟨j+1,by simp only[QDq,kO];rw[a];simp[kb,c],by simpa using b⟩
end
end W28
namespace DL
open PySem PySem.Spec L2
section
variable{Γ:cN}{S:aC}
def u3{T:String}{f:aV}{Q:D->aC->Prop}(h:E f Γ S λd a=>Op (CF a T d) λk=>Q (.bl k) a):E (l6 T f) Γ S Q:=by
 obtain⟨d,a,b,k,c,q⟩:=h
 exact⟨_,a,by unfold l6;rw[b];simp only[Qbq];rw[c];rfl,q⟩
def vQ{b:Bool}{Q:Bool->Prop}(q:Q b):Op (wN S (.bl b)) Q:=⟨_,rfl,q⟩
def Gh{f g:aV}{Q:D->aC->Prop}(h:E f Γ S λx b=>E g Γ b λy S2=>∃k a z v,x=.ref k/\y=.str z/\S2[k]?=some (.dct a)/\pM a (.inr z)=some v/\Q v S2):E (F_ f g) Γ S Q:=by
 obtain⟨x,b,c,y,S2,d,k,a,z,v,rfl,rfl,h1,h2,q⟩:=h
 exact⟨v,S2,by unfold F_;rw[c];simp only[Qbq];rw[d];simp only[Qbq,h1,p9,h2],q⟩
def jB{i j:Int}{Q:D->Prop}(q:Q (.bl (!decide (i=j)))):Op (fI true S (.int i) (.int j)) Q:=⟨_,by simp[fI,pQ,tM],q⟩
def xw{i j:Int}{Q:D->Prop}(q:Q (.int (if j<i then j else i))):Op (minD [.int i,.int j]) Q:=⟨_,rfl,q⟩
def CM{i j:Int}{Q:D->Prop}(q:Q (.int (if j>i then j else i))):Op (maxD [.int i,.int j]) Q:=⟨_,rfl,q⟩
end
end DL
namespace W28
open PySem PySem.Spec L2 DL
def Dp(o:Str)(a b:Int):Int:=
 if o="plus" then(if 9<a+b then 9 else a+b) else if o="minus" then(if 0>a-b then 0 else a-b) else if o="less" then(if a<b then 1 else 0)
 else if o="same" then(if a=b then 1 else 0) else(if a≠0/\b≠0 then 1 else 0)
def qy(th wt:Str->Int):Tr->Int
 |.num n=>n
 |.word x=>th x
 |.waits b=>if 0<wt b then 1 else 0
 |.no t=>if qy th wt t=0 then 1 else 0
 |.two o a b=>Dp o (qy th wt a) (qy th wt b)
def yO{o:Str}{a b:Int}(d:0<=a/\a<=9)(c:0<=b/\b<=9):0<=Dp o a b/\Dp o a b<=9:=by
 unfold Dp
 repeat' split
 all_goals omega
theorem jn{th wt:Str->Int}{ws bs:List Str}(h:∀x∈ws,0<=th x/\th x<=9):∀{t:Tr},t.Ok ws bs->0<=qy th wt t/\qy th wt t<=9
 |.num n,ho=>by have:n<=9:=ho;simp only[qy];omega
 |.word x,ho=>h x ho
 |.waits b,_=>by simp only[qy];split <;>omega
 |.no t,_=>by simp only[qy];split <;>omega
 |.two o a b,ho=>yO (jn h ho.2.1) (jn h ho.2.2)
section
variable{S:aC}{Q:Res->aC->Prop}
def cA{S:aC}{i:Int}{Q:Res->aC->Prop}(q:Q (.d (.int i)) S):Op (settle S (.int i) S) λp=>Q p.1 p.2:=bH (λk z=>(nomatch z)) rfl q
def m9{o:Str}{a b:Int}(q:Q (.d (.int (Dp o a b))) S):Fn et [.str o,.int a,.int b] S Q:=by
 refine bD ?_
 unfold fX
 unfold Dp at q
 symm
 refine eQ ?_
 dsimp only
 by_cases f:o="plus"
 ·rw[Qhq f] at q
  rw[Qeq f,Qhq rfl]
  symm
  refine xw ?_
  exact cA q
 rw[Quq f] at q
 rw[Qdq f,Quq (by decide)]
 apply cD ?_
 refine eQ ?_
 dsimp only
 by_cases h:o="minus"
 ·rw[Qhq h] at q
  rw[Qeq h,Qhq rfl]
  symm
  refine CM ?_
  exact cA q
 rw[Quq h] at q
 rw[Qdq h,Quq (by decide)]
 apply cD ?_
 refine eQ ?_
 dsimp only
 by_cases i:o="less"
 ·rw[Qhq i] at q
  rw[Qeq i,Qhq rfl]
  symm
  by_cases c:a<b
  ·rw[Qhq c] at q
   rw[Qeq c,Qhq rfl]
   symm
   exact cA q
  ·rw[Quq c] at q
   rw[Qdq c,Quq (by decide)]
   symm
   exact cA q
 rw[Quq i] at q
 rw[Qdq i,Quq (by decide)]
 apply cD ?_
 refine eQ ?_
 dsimp only
 by_cases e:o="same"
 ·rw[Qhq e] at q
  rw[Qeq e,Qhq rfl]
  symm
  refine ic ?_
  dsimp only
  by_cases c:a=b
  ·rw[Qhq c] at q
   rw[Qeq c,Qhq rfl]
   symm
   exact cA q
  ·rw[Quq c] at q
   rw[Qdq c,Quq (by decide)]
   symm
   exact cA q
 rw[Quq e] at q
 rw[Qdq e,Quq (by decide)]
 apply cD ?_
 refine jB ?_
 dsimp only
 by_cases g:a=0
 ·rw[Quq (λz=>z.1 g)] at q
  rw[Qeq g]
  show if (false=true) then _ else _
  rw[Quq (by decide)]
  show if (false=true) then _ else _
  rw[Quq (by decide)]
  symm
  exact cA q
 ·rw[Qdq g]
  show if (true=true) then _ else _
  rw[Qhq rfl]
  symm
  refine jB ?_
  dsimp only
  by_cases j:b=0
  ·rw[Quq (λz=>z.2 j)] at q
   rw[Qeq j]
   show if (false=true) then _ else _
   rw[Quq (by decide)]
   symm
   exact cA q
  ·rw[Qhq ⟨g,j⟩] at q
   rw[Qdq j]
   show if (true=true) then _ else _
   rw[Qhq rfl]
   symm
   exact cA q
end
def cJ{c:cN}{S:aC}{T:String}{f:aV}{d:D}{b:Bool}{Q:Bool->aC->Prop}(h:E f c S λx a=>x=d/\a=S)(hd:CF S T d=some b)(q:Q b S):E (jK (l6 T f)) c S Q:=by
 refine Gy (u3 (h.mono λx a i=> ?_))
 obtain⟨e,g⟩:=i
 subst e g
 exact⟨b,hd,vQ q⟩
def BX{o:Str}(h:o∈ops):o≠"waits" /\o≠"not":=by
 simp only[ops,Qsq,QXq,or_false] at h
 rcases h with rfl|rfl|rfl|rfl|rfl <;>exact⟨by decide +kernel,by decide +kernel⟩
theorem eD{th wt:Str->Int}{ws bs:List Str}{i j:Nat}{e kws:List (Key×D)}{S:aC}(hi:S[i]?=some (.dct e))(h:S[j]?=some (.dct kws))(g:∀x∈ws,pM e (.inr x)=some (.int (th x)))(f:∀b∈bs,pM kws (.inr b)=some (.int (wt b))):
  ∀(n:Nat) (t:Tr) {Q:Res->aC->Prop},t.Ok ws bs->t.dep<=n->Q (.d (.int (qy th wt t))) S->Fn (d0 n) [t.d,.ref i,.ref j] S Q
 |0,t,Q,_,hd,_=>by cases t <;>simp[Tr.dep] at hd
 | n+1,t,Q,ho,hd,q=>by
   refine bD ?_
   unfold lR
   cases t with
   | num v=>
     refine bZ (hU (cJ (d:=.int v) (da rfl ⟨rfl,rfl⟩) rfl ?_))
     apply bu (λ_=> ?_) (λc=>by cases c)
     exact cA q
   | word x=>
     refine bZ (hU (cJ (d:=.str x) (da rfl ⟨rfl,rfl⟩) rfl ?_))
     refine bu (λc=>by cases c) (λ_=>cD ?_)
     refine bZ (hU (cJ (d:=.str x) (da rfl ⟨rfl,rfl⟩) rfl ?_))
     refine bu (λ_=> ?_) (λc=>by cases c)
     apply oy (Gh ?_)
     refine⟨_,_,_,_,rfl,rfl,hi,g x ho,?_⟩
     exact cA q
   | waits b=>
     refine bZ (hU (cJ (d:=.tup [.str "waits",.str b]) (da rfl ⟨rfl,rfl⟩) rfl ?_))
     refine bu (λc=>by cases c) (λ_=>cD ?_)
     refine bZ (hU (cJ (d:=.tup [.str "waits",.str b]) (da rfl ⟨rfl,rfl⟩) rfl ?_))
     apply bu (λc=>by cases c) (λ_=>cD ?_)
     apply au rfl ?_
     refine eQ ?_
     dsimp only
     rw[Qeq rfl,Qhq rfl]
     symm
     apply Gh ?_
     refine au rfl ?_
     apply⟨_,_,_,_,rfl,rfl,h,f b ho,?_⟩
     simp only[qy] at q
     by_cases c:0<wt b
     · rw[Qhq c] at q
       rw[Qeq c,Qhq rfl]
       symm
       exact cA q
     · rw[Quq c] at q
       rw[Qdq c,Quq (by decide)]
       symm
       exact cA q
   | no t=>
     have k:t.dep<=n:=by simp only[Tr.dep] at hd;omega
     refine bZ (hU (cJ (d:=.tup [.str "not",t.d]) (da rfl ⟨rfl,rfl⟩) rfl ?_))
     refine bu (λc=>by cases c) (λ_=>cD ?_)
     refine bZ (hU (cJ (d:=.tup [.str "not",t.d]) (da rfl ⟨rfl,rfl⟩) rfl ?_))
     apply bu (λc=>by cases c) (λ_=>cD ?_)
     apply au rfl ?_
     refine eQ ?_
     dsimp only
     rw[Qdq (show¬(("not":Str)="waits") by decide +kernel),Quq (by decide)]
     apply cD ?_
     apply au rfl ?_
     apply eD hi h g f n t ho k ?_
     apply au rfl ?_
     refine eQ ?_
     dsimp only
     rw[Qeq rfl,Qhq rfl]
     symm
     refine ic ?_
     dsimp only
     simp only[qy] at q
     by_cases c:qy th wt t=0
     · rw[Qhq c] at q
       rw[Qeq c,Qhq rfl]
       symm
       exact cA q
     · rw[Quq c] at q
       rw[Qdq c,Quq (by decide)]
       symm
       exact cA q
   | two o a b=>
     have l:a.dep<=n:=by simp only[Tr.dep] at hd;omega
     have m:b.dep<=n:=by simp only[Tr.dep] at hd;omega
     obtain⟨r,p⟩:=BX ho.1
     refine bZ (hU (cJ (d:=.tup [.str o,a.d,b.d]) (da rfl ⟨rfl,rfl⟩) rfl ?_))
     refine bu (λc=>by cases c) (λ_=>cD ?_)
     refine bZ (hU (cJ (d:=.tup [.str o,a.d,b.d]) (da rfl ⟨rfl,rfl⟩) rfl ?_))
     apply bu (λc=>by cases c) (λ_=>cD ?_)
     apply au rfl ?_
     refine eQ ?_
     dsimp only
     rw[Qdq r,Quq (by decide)]
     apply cD ?_
     apply au rfl ?_
     apply eD hi h g f n a ho.2.1 l ?_
     apply au rfl ?_
     refine eQ ?_
     dsimp only
     rw[Qdq p,Quq (by decide)]
     apply cD ?_
     apply au rfl ?_
     apply au rfl ?_
     apply eD hi h g f n b ho.2.2 m ?_
     refine m9 ?_
     exact cA q
end W28
namespace DL
open PySem PySem.Spec L2
def qt{l:List (Key×D)}{k:Key}(h:k∈l.map (·.1)):∃d,pM l k=some d/\(k,d)∈l:=by
 unfold pM
 cases e:l.find? λf=>decide (f.1=k) with
 | none=>
   obtain⟨p,a,rfl⟩:=Qkq.mp h
   have:=List.find?_eq_none.mp e p a
   simp at this
 | some p=>
   have b:=List.find?_some e
   have g:=List.mem_of_find?_eq_some e
   have c:p.1=k:=by simpa using b
   exact⟨p.2,rfl,by rw[←c];exact g⟩
def uw{l:List (Key×D)}{k:Key}{v:D}{p:Key×D}(h:p∈putD l k v):p∈l\/p=(k,v):=by
 unfold putD at h
 split at h
 ·obtain⟨q,a,e⟩:=Qkq.mp h
  split at e
  ·rename_i c
   rw[←e,c]
   exact .inr rfl
  ·rw[←e]
   exact .inl a
 ·rcases mQa.mp h with h|h
  ·exact .inl h
  ·exact .inr (Qfq.mp h)
def jj{l:List (Key×D)}{k x:Key}{v:D}(h:x=k\/x∈l.map (·.1)):x∈(putD l k v).map (·.1):=by
 unfold putD
 split
 ·rename_i c
  have a:∀p∈l,(if p.1=k then(p.1,v) else p).1=p.1:=λp _=>by split <;>rfl
  have e:(l.map λp=>if p.1=k then(p.1,v) else p).map (·.1)=l.map (·.1):=by
   rw[QPq]
   exact List.map_congr_left a
  rw[e]
  rcases h with rfl|h
  ·obtain⟨p,d,b⟩:=List.any_eq_true.mp c
   exact Qkq.mpr ⟨p,d,by simpa using b⟩
  ·exact h
 ·rw[Qzq]
  rcases h with rfl|h
  ·exact Qoq _ (by simp)
  ·exact List.mem_append_left _ h
theorem jX:∀{more l:List (Key×D)} {p:Key×D},p∈bS l more->p∈l\/p∈more
 | [],l,p,h=>.inl h
 | q::more,l,p,h=>by
   rcases jX (more:=more) (l:=putD l q.1 q.2) h with h|h
   · rcases uw h with h|rfl
     · exact .inl h
     · exact .inr (QBq ..)
   · exact .inr (Qpq _ h)
theorem eE:∀{more l:List (Key×D)} {x:Key},x∈l.map (·.1)\/x∈more.map (·.1)->x∈(bS l more).map (·.1)
 | [],l,x,h=>h.elim id λz=>by cases z
 | q::more,l,x,h=>by
   refine eE (more:=more) (l:=putD l q.1 q.2) ?_
   rcases h with h|h
   · exact .inl (jj (.inr h))
   · rcases Qsq.mp h with rfl|h
     · exact .inl (jj (.inl rfl))
     · exact .inr h
theorem om:∀a:List Str,u0 (a.map D.str)=some (a.map Sum.inr)
 | []=>rfl
 |s::a=>by simp only[QDq,u0,p9,Qbq];rw[om a];rfl
section
variable{Γ:cN}{S:aC}
def Il{Q:D->aC->Prop}(q:Q (.ref S.length) (S++ [.dct []])):E Hn Γ S Q:=⟨_,_,rfl,q⟩
def El{f g:dU}{Q:D->aC->Prop}(h:E f Γ S λp b=>E g Γ b λr S2=>∃a:List Str,p.1=a.map D.str/\(p.2.stays S2 p.1/\p.1.length=r.1.length)/\Q (.ref S2.length) (S2++ [.dct (bS [] ((a.map Sum.inr).zip r.1))])):E (EM f g) Γ S Q:=by
 obtain⟨p,b,e,r,S2,i,a,c,d,q⟩:=h
 refine⟨_,_,?_,q⟩
 unfold EM
 rw[e]
 simp only[Qbq]
 rw[i]
 simp only[Qbq]
 rw[Qhq d,c,om]
 rfl
def Fz{f g:aV}{Q:D->aC->Prop}(h:E f Γ S λx a=>E g Γ a λy S2=>∃k j b l m,x=.ref k/\y=.ref j/\k≠j/\a[k]?=some (.dct b)/\S2[k]?=some (.dct l)/\S2[j]?=some (.dct m)/\l.length+m.length<=sizeLine/\Q .non (S2.set k (.dct (bS l m)))):E (BP f g) Γ S Q:=by
 obtain⟨x,a,c,y,S2,d,k,j,b,l,m,rfl,rfl,hn,h0,h1,h2,h3,q⟩:=h
 exact⟨_,_,by unfold BP;rw[c];simp only[Qbq];rw[d];simp only[Qbq];rw[Qhq hn];simp only[h0,h1,h2];rw[Qhq h3],q⟩
def Ir{f g h:aV}{Q:Out->Prop}(w:E h Γ S λd b=>E f Γ b λx S2=>E g Γ S2 λy a=>∃k l z,x=.ref k/\y=.str z/\a[k]?=some (.dct l)/\l.length<sizeLine/\Q (.nx Γ (a.set k (.dct (putD l (.inr z) d))))):T (GV f g h) Γ S Q:=by
 obtain⟨d,b,e,x,S2,i,y,a,c,k,l,z,rfl,rfl,h1,h2,q⟩:=w
 exact⟨_,by unfold GV;rw[e];simp only[Qbq];rw[i];simp only[Qbq];rw[c];simp only[Qbq,h1,p9];rw[Qhq h2],q⟩
def Ht{α:Type}{n:Nat}{js:List (Option Nat)}{i:qg}{g:jt}{s u:aV}{Q:Out->Prop}(P:cN->Prop)(enc:α->D)(j:α->Str)(f:α->D)(L:P (k8 js Γ)) (h:E i Γ S λp d=>∃xs:List α,p.1=xs.map enc/\p.2 d/\xs.length<=1000∧
   (∀x∈xs,∀c,P c->Tg g (enc x) c d λe S2=>S2=d/\P e/\E s e d λy C=>y=.str (j x)/\C=d/\E u e d λz B=>z=f x/\B=d)∧
   Q (.nx (Γ.set n (some (.ref d.length))) (d++ [.dct (bS [] (xs.map λx=>(Sum.inr (j x),f x)))]))):T (FT n (mi js i g dW s u)) Γ S Q:=by
 obtain⟨⟨R,W⟩,d,G,xs,rfl,hW,hl,hs,q⟩:=h
 have F:∀(l:List (Key×D)) (k:Key) (v:D),(putD l k v).length<=l.length+1:=λl k v=>by
  unfold putD
  split <;>simp
 have K:∀(m:List α) (c:cN) (b:List (Key×D)),(∀y∈m,y∈xs)->P c->b.length+m.length<=1000->∃r,f_ g dW s u W (m.map enc) c d b=some (r,d)/\r=bS b (m.map λx=>(Sum.inr (j x),f x)):=by
  intro m
  induction m with
  |nil=>intro c b _ _ _;exact⟨b,by simp only[List.map_nil,f_];rw[Qhq hW],rfl⟩
  | cons a m M=>
    intro c b A I o
    obtain⟨e,S2,w,rfl,hp1,y,C,e3,rfl,rfl,z,B,e4,rfl,rfl⟩:=hs a (A a (QBq ..)) c I
    have t:=F b (Sum.inr (j a)) (f a)
    simp only[Qnq] at o
    obtain⟨r,J,H⟩:=M e (putD b (Sum.inr (j a)) (f a)) (λy N=>A y (Qpq _ N)) hp1 (by omega)
    refine⟨r,?_,H⟩
    simp only[QDq,f_]
    rw[Qhq hW,w]
    simp only[Qbq,dW,if_true]
    rw[e3]
    simp only[Qbq]
    rw[e4]
    simp only[Qbq,p9]
    rw[Qhq (aH (by omega))]
    exact J
 obtain⟨r,w,rfl⟩:=K xs _ [] (λ_ h=>h) L (by simpa using hl)
 exact⟨_,by unfold FT mi;rw[G];simp only[Qbq];rw[w];rfl,q⟩
end
def AC{a:cN}{S:aC}{f g:dU}{Q:(List D×(aC->Prop))->aC->Prop}(h:E f a S λp b=>E g a b λr S2=>(p.2.stays S2 p.1/\p.1.length<=r.1.length)/\Q (uh p.1 r.1,λS=>p.2.stays S p.1/\r.2.stays S r.1) S2):E (z4 f g) a S Q:=by
 obtain⟨p,b,d,r,S2,e,c,q⟩:=h
 exact⟨_,S2,by unfold z4;rw[d];simp only[Qbq];rw[e];simp only[Qbq];rw[Qhq c],q⟩
def i0(l:List (Key×D)):Prop:=∀p∈l,∃v:Int,p.2=.int v/\0<=v/\v<=9
def i0.merge{l m:List (Key×D)}(a:i0 l)(c:i0 m):i0 (bS l m):=λp b=>(jX b).elim (a p) (c p)
def i0.put{l:List (Key×D)}{k:Key}{v:Int}(h:i0 l)(c:0<=v)(b:v<=9):i0 (putD l k (.int v)):=λp a=>by
 rcases uw a with a|rfl
 ·exact h p a
 ·exact⟨v,rfl,c,b⟩
def numAt(l:List (Key×D))(x:Str):Int:=match pM l (.inr x) with|some (.int v)=>v|_=>0
def kj{l:List (Key×D)}(h:i0 l){x:Str}(f:(Sum.inr x:Key)∈l.map (·.1)):pM l (.inr x)=some (.int (numAt l x))/\0<=numAt l x/\numAt l x<=9:=by
 obtain⟨d,b,i⟩:=qt f
 obtain⟨v,a,g,c⟩:=h _ i
 have a:d=.int v:=a
 subst a
 have e:numAt l x=v:=by unfold numAt;rw[b]
 rw[e]
 exact⟨b,g,c⟩
def zJ{c:List Str}{vs:List Int}(h:∀v∈vs,0<=v/\v<=9):i0 ((c.map (Sum.inr:Str->Key)).zip (vs.map D.int)):=λp a=>by
 have d:p.2∈vs.map D.int:=(QeQ (show(p.1,p.2)∈_ from a)).2
 obtain⟨v,b,e⟩:=Qkq.mp d
 exact⟨v,e.symm,h v b⟩
def Ai{a:List Str}{ds:List D}(h:a.length=ds.length):((a.map (Sum.inr:Str->Key)).zip ds).map (·.1)=a.map Sum.inr:=by
 rw[List.map_fst_zip]
 simpa using Nat.le_of_eq h
end DL
namespace W28
open PySem PySem.Spec L2 DL
def cP(ts:List (Str×Nat))(vs:List Int):List (Key×D):=bS [] (((ts.map (·.1)).map Sum.inr).zip (vs.map D.int))
def wm(w:cz)(s:aM)(ts:List (Str×Nat))(vs:List Int):List (Key×D):=bS (cP w.ak s.ak) (cP ts vs)
def mF(r:Rm)(b:du)(a:Int):List (Key×D):=putD (cP r.ao b.vals) (.inr "given") (.int a)
def wV(r:Rm)(a:du):List (Key×D):=bS [] ((r.aa.zip a.aa).map λp=>(Sum.inr p.1.1,D.int (p.2.length:Nat)))
def eX{ts:List (Str×Nat)}{vs:List Int}(h:∀v∈vs,0<=v/\v<=9):i0 (cP ts vs):=i0.merge (λp a=>by cases a) (zJ h)
def eY{ts:List (Str×Nat)}{vs:List Int}(a:ts.length=vs.length){x:Str}(h:x∈ts.map (·.1)):(Sum.inr x:Key)∈(cP ts vs).map (·.1):=by
 refine eE (.inr ?_)
 rw[Ai (by simpa using a)]
 exact Qkq.mpr ⟨x,h,rfl⟩
structure nq(S S':aC):Prop where
 len:S.length<=S'.length
 eq:∀j,j<S.length->S'[j]?=S[j]?
def nq.refl{S:aC}:nq S S:=⟨Qmq _,λ_ _=>rfl⟩
def nq.app{S a G:aC}(x:nq S a):nq S (a++G):=⟨by rw[lQa];have:=x.len;omega,λj b=>by rw[QHq (by have:=x.len;omega)];exact x.eq j b⟩
def nq.put{S a:aC}{r:Nat}{o:O}(x:nq S a)(c:S.length<=r):nq S (a.set r o):=⟨by simpa using x.len,λj b=>by rw[QKq (by omega)];exact x.eq j b⟩
def uS{S b:aC}{d:D}{Q:Res->aC->Prop}(x:nq S b)(hd:∀k,d≠.ref k)(c:bJ 0 d=true)(q:Q (.d d) S):Op (settle S d b) λp=>Q p.1 p.2:=by
 refine eW ⟨x.len,λk o f e=>.inl (by rw[←x.eq k f];exact e)⟩ ?_ hd (oA c) q
 apply List.ext_getElem?
 intro j
 by_cases a:j<S.length
 ·rw[List.getElem?_take_of_lt a]
  exact x.eq j a
 ·rw[List.getElem?_eq_none (by rw[Qxq];omega),List.getElem?_eq_none (by omega)]
def eT:∀a:Str×Nat,∃r,uL a=.tup (.str a.1::r):=λa=>⟨_,rfl⟩
def xY:∀a:Str×Str,∃r,ER a=.tup (.str a.1::r):=λa=>⟨_,rfl⟩
section
variable{S:aC}{Q:Res->aC->Prop}
theorem oG:∀{m l:List (Key×D)},(bS l m).length<=l.length+m.length
 | [],l=>Qmq _
 | q::m,l=>by
   have a:(bS (putD l q.1 q.2) m).length<=(putD l q.1 q.2).length+m.length:=oG
   have b:(putD l q.1 q.2).length<=l.length+1:=by unfold putD;split <;>simp
   show(bS (putD l q.1 q.2) m).length<=_
   simp only[Qnq]
   omega
def oY{ts:List (Str×Nat)}{vs:List Int}:(cP ts vs).length<=ts.length:=by
 refine QAq oG ?_
 simp only[QGq,List.length_zip,lQm]
 omega
def qT{w:cz}{s:aM}{h:Nat}{ts:List (Str×Nat)}{pr:List Rw}{vs:List Int}{fs:List bC}{f:bC}{t:Tr}(u:w.af[h]?=some (ts,pr))(g:s.af[h]?=some (vs,fs))(A:fs.getLast? =some f)(G:f.room= -1)
  (i:w.ak.length=s.ak.length) (p:ts.length=vs.length) (M:w.ak.length<=100) (L:ts.length<=100) (F:∀v∈s.ak,0<=v/\v<=9) (y:∀v∈vs,0<=v/\v<=9)
  (B:t.Ok (ts.map (·.1)++w.ak.map (·.1)) []) (hd:t.dep<=6) (q:Q (.d (.int (qy (numAt (wm w s ts vs)) (λ_=>0) t))) S):Fn cB [w.d,s.d,.int h,t.d] S Q:=by
 have c:i0 (wm w s ts vs):=i0.merge (eX F) (eX y)
 refine bD ?_
 unfold jf
 symm
 apply bj g A ?_
 apply au (d:=.int f.room) rfl ?_
 refine ic ?_
 dsimp only
 rw[Qeq G,Qhq rfl]
 symm
 apply El ?_
 apply au rfl ?_
 apply dw (enc:=uL) (nm:=(·.1)) eT (by omega) ?_
 refine au rfl ?_
 refine fD (ds:=s.ak.map D.int) ?_
 refine⟨_,rfl,⟨trivial,by simp only[lQm];exact i⟩,?_⟩
 dsimp only
 rw[show bS [] (((w.ak.map (·.1)).map (Sum.inr:Str->Key)).zip (s.ak.map D.int))=cP w.ak s.ak from rfl]
 apply bZ (AD (Fz ?_))
 apply El ?_
 apply au rfl ?_
 refine au (d:=fA (ts,pr)) (aL (by rw[gQm,u];rfl)) ?_
 symm
 apply au rfl ?_
 apply dw (enc:=uL) (nm:=(·.1)) eT (by omega) ?_
 apply au rfl ?_
 refine au (d:=xK (vs,fs)) (aL (by rw[gQm,g];rfl)) ?_
 symm
 refine au rfl ?_
 refine fD (ds:=vs.map D.int) ?_
 refine⟨_,rfl,⟨trivial,by simp only[lQm];exact p⟩,?_⟩
 dsimp only
 rw[show bS [] (((ts.map (·.1)).map (Sum.inr:Str->Key)).zip (vs.map D.int))=cP ts vs from rfl]
 have e:(S++ [O.dct (cP w.ak s.ak)])[S.length]?=some (.dct (cP w.ak s.ak)):=bq
 have o:(S++ [O.dct (cP w.ak s.ak)]).length=S.length+1:=by simp
 have I:nq S (S++ [O.dct (cP w.ak s.ak)]):=nq.refl.app
 show∃k j C l m,D.ref S.length=.ref k/\D.ref (S++ [O.dct (cP w.ak s.ak)]).length=.ref j/\k≠j/\(S++ [O.dct (cP w.ak s.ak)])[k]?=some (.dct C)/\(S++ [O.dct (cP w.ak s.ak)]++ [O.dct (cP ts vs)])[k]?=some (.dct l)/\(S++ [O.dct (cP w.ak s.ak)]++ [O.dct (cP ts vs)])[j]?=some (.dct m)/\_
 refine⟨_,_,_,_,_,rfl,rfl,by omega,e,gW e,bq,?_,?_⟩
 ·have K:=oY (ts:=w.ak) (vs:=s.ak)
  have J:=oY (ts:=ts) (vs:=vs)
  exact nQl (aH (by omega))
 have n:((S++ [O.dct (cP w.ak s.ak)]++ [O.dct (cP ts vs)]).set S.length (.dct (bS (cP w.ak s.ak) (cP ts vs))))[S.length]?=some (.dct (wm w s ts vs)):=qU (gW e)
 have r:nq S ((S++ [O.dct (cP w.ak s.ak)]++ [O.dct (cP ts vs)]).set S.length (.dct (bS (cP w.ak s.ak) (cP ts vs)))):=I.app.put (Qmq _)
 generalize ((S++ [O.dct (cP w.ak s.ak)]++ [O.dct (cP ts vs)]).set S.length (.dct (bS (cP w.ak s.ak) (cP ts vs))))=S2 at n r⊢
 symm
 apply Il ?_
 refine eD (th:=numAt (wm w s ts vs)) (wt:=λ_=>0) (ws:=ts.map (·.1)++w.ak.map (·.1)) (bs:= []) (gW n) bq (λx a=> ?_) (λb H=>by cases H) 6 t B hd ?_
 ·refine(kj c ?_).1
  refine eE ?_
  rcases mQa.mp a with a|a
  ·exact .inr (eY p a)
  ·exact .inl (eY i a)
 ·exact uS r.app (λk z=>(nomatch z)) rfl q
end
section
variable{S:aC}{Q:Res->aC->Prop}
theorem uU:∀(bs:List (Str×Str)) (ls:List (List (Int×Int))),uh ((bs.map (·.1)).map D.str) (ls.map c_)=(bs.zip ls).map λp=>D.tup [.str p.1.1,c_ p.2]
 | [],_=>rfl
 |_::_,[]=>rfl
 | b::bs,l::ls=>by
   have:=uU bs ls
   simp only[uh,QDq,List.zipWith_cons_cons,List.zip_cons_cons] at this⊢
   rw[this]
def mK(r:Rm)(a:du)(x:Str):Int:=numAt (wV r a) x
def zW{r:Rm}{a:du}(l:r.aa.length=a.aa.length){x:Str}(h:x∈r.aa.map (·.1)):pM (wV r a) (.inr x)=some (.int (mK r a x)):=by
 have k:(Sum.inr x:Key)∈(wV r a).map (·.1):=by
  refine eE (.inr ?_)
  rw[QPq]
  obtain⟨b,g,rfl⟩:=Qkq.mp h
  obtain⟨i,f,e⟩:=QbQ g
  refine Qkq.mpr ⟨(b,a.aa[i]'(by omega)),?_,rfl⟩
  rw[←e]
  have:(r.aa.zip a.aa)[i]?=some (r.aa[i],a.aa[i]'(by omega)):=by
   rw[List.getElem?_zip_eq_some]
   exact⟨gQe f,gQe (by omega)⟩
  exact mQg this
 obtain⟨d,j,c⟩:=qt k
 have f:∃v:Int,d=.int v:=by
  rcases jX c with c|c
  ·cases c
  ·obtain⟨p,_,e⟩:=Qkq.mp c
   exact⟨_,(congrArg (·.2) e).symm⟩
 obtain⟨v,rfl⟩:=f
 unfold mK DL.numAt
 rw[j]
def pW{w:cz}{s:aM}{h i:Nat}{vs:List Int}{fs:List bC}{f:bC}{r:Rm}{c:du}{t:Tr}(H:s.af[h]?=some (vs,fs))(B:fs.getLast? =some f)(G:f.room=i)(n:w.aj[i]?=some r)(g:s.aj[i]?=some c)
  (u:r.ao.length=c.vals.length) (K:r.aa.length=c.aa.length) (N:r.ao.length<=100) (M:r.aa.length<=100) (F:∀v∈c.vals,0<=v/\v<=9) (o:0<=f.given/\f.given<=9)
  (C:t.Ok (r.ao.map (·.1)++ir) (r.aa.map (·.1))) (hd:t.dep<=6) (q:Q (.d (.int (qy (numAt (mF r c f.given)) (mK r c) t))) S):Fn cB [w.d,s.d,.int h,t.d] S Q:=by
 have j:i0 (mF r c f.given):=(eX F).put o.1 o.2
 refine bD ?_
 unfold jf
 symm
 apply bj H B ?_
 apply au (d:=.int f.room) rfl ?_
 refine ic ?_
 dsimp only
 rw[Qdq (show¬f.room= -1 by omega),Quq (by decide),G]
 apply cD ?_
 apply El ?_
 apply au rfl ?_
 refine au (d:=r.d) (aL (by rw[gQm,n];rfl)) ?_
 symm
 apply au rfl ?_
 apply dw (enc:=uL) (nm:=(·.1)) eT (by omega) ?_
 apply au rfl ?_
 refine au (d:=c.d) (aL (by rw[gQm,g];rfl)) ?_
 symm
 refine au rfl ?_
 refine fD (ds:=c.vals.map D.int) ?_
 refine⟨_,rfl,⟨trivial,by simp only[lQm];exact u⟩,?_⟩
 dsimp only
 rw[show bS [] (((r.ao.map (·.1)).map (Sum.inr:Str->Key)).zip (c.vals.map D.int))=cP r.ao c.vals from rfl]
 have J:nq S (S++ [O.dct (cP r.ao c.vals)]):=nq.refl.app
 apply bZ (Ir ?_)
 apply au (d:=.int f.given) rfl ?_
 refine⟨_,_,_,rfl,rfl,bq,aH (by have:=oY (ts:=r.ao) (vs:=c.vals);omega),?_⟩
 have y:((S++ [O.dct (cP r.ao c.vals)]).set S.length (.dct (putD (cP r.ao c.vals) (.inr "given") (.int f.given))))[S.length]?=some (.dct (mF r c f.given)):=qU bq
 have A:nq S ((S++ [O.dct (cP r.ao c.vals)]).set S.length (.dct (putD (cP r.ao c.vals) (.inr "given") (.int f.given)))):=J.put (Qmq _)
 generalize ((S++ [O.dct (cP r.ao c.vals)]).set S.length (.dct (putD (cP r.ao c.vals) (.inr "given") (.int f.given))))=S2 at y A⊢
 apply bZ (Ht (α:=(Str×Str)×List (Int×Int)) (λl=>∃a b,l= [a,b]) (λp=>D.tup [.str p.1.1,c_ p.2]) (λp=>p.1.1) (λp=>.int (p.2.length:Nat)) ⟨none,none,rfl⟩ (AC ?_))
 apply au rfl ?_
 refine au (d:=r.d) (aL (by rw[gQm,n];rfl)) ?_
 symm
 apply au rfl ?_
 apply dw (enc:=ER) (nm:=(·.1)) xY (by omega) ?_
 apply au rfl ?_
 refine au (d:=c.d) (aL (by rw[gQm,g];rfl)) ?_
 symm
 refine au rfl ?_
 refine fD (ds:=c.aa.map c_) ?_
 refine⟨⟨trivial,by simp only[lQm];omega⟩,r.aa.zip c.aa,uU _ _,⟨trivial,trivial⟩,by rw[List.length_zip];omega,λp L l m=> ?_,?_⟩
 ·obtain⟨a,b,rfl⟩:=m
  refine dE rfl (ay (aQ (ay (aQ (a7 ?_)))))
  apply⟨rfl,⟨_,_,rfl⟩,?_⟩
  apply⟨rfl,rfl,?_⟩
  refine fD (ds:=p.2.map pairD) ?_
  exact⟨by simp,rfl⟩
 symm
 refine eD (th:=numAt (mF r c f.given)) (wt:=mK r c) (ws:=r.ao.map (·.1)++ir) (bs:=r.aa.map (·.1)) (kws:=wV r c) (gW y) bq (λx e=> ?_) (λb I=>zW K I) 6 t C hd ?_
 ·refine(kj j ?_).1
  refine jj ?_
  rcases mQa.mp e with e|e
  ·exact .inr (eY u e)
  ·left
   rw[Qfq.mp e]
 ·exact uS A.app (λk z=>(nomatch z)) rfl q
end
end W28
namespace DL
open PySem PySem.Spec L2
def Bw{b:cN}{S:aC}{a:Bool}{f:aV}{g:dU}{Q:D->aC->Prop}(h:E f b S λx c=>E g b c λp S2=>∃v vs,pQ x=some v/\iy p.1=some vs/\Q (.bl (if a then !xD v vs else xD v vs)) S2):E (zC a f g) b S Q:=by
 obtain⟨x,c,e,p,S2,i,v,vs,d,j,q⟩:=h
 exact⟨_,S2,by unfold zC;rw[e];simp only[Qbq];rw[i];simp only[Qbq];rw[d,j];rfl,q⟩
def xI{x:Str}{b:List Str}:xD (.str x) (b.map V.str)=decide (x∈b):=by
 induction b with
 |nil=>rfl
 | cons a b e=>
   show(kb (.str a) (.str x)||xD (.str x) (b.map V.str))=_
   rw[e]
   simp only[kb,Qsq]
   by_cases c:a=x
   · subst c;simp
   · have d:¬x=a:=λz=>c z.symm
     simp[c,d]
end DL
namespace W28
open PySem PySem.Spec L2 DL
section
variable{S:aC}{Q:Res->aC->Prop}
def bU(ns:List Str)(vs:List Int)(x:Str)(v:Int):List Int:=vs.set ((kO (.str x) (ns.map V.str)).getD 0) v
def kn{α:Type}{enc:α->D}{nm:α->Str}{xs:List α}{x:Str}(he:∀a,∃r,enc a=.tup (.str (nm a)::r))(i:xs.length<=1000)(g:x∈xs.map nm)(q:((kO (.str x) ((xs.map nm).map V.str)).getD 0)<xs.length->Q (.d (.int ((kO (.str x) ((xs.map nm).map V.str)).getD 0:Nat))) S):Fn b_ [.tup (xs.map enc),.str x] S Q:=by
 refine bD ?_
 unfold ml
 obtain⟨j,e,h⟩:=rP g
 have l:j<xs.length:=by have:=(gQs.mp h).1;simpa using this
 rw[e] at q
 refine oy ?_
 have c:E (pU (eJ cR (ar (av 0) ax))) ([D.tup (xs.map enc),D.str x].map some++List.replicate (2- [D.tup (xs.map enc),D.str x].length) none) S λp b=>p=((xs.map nm).map D.str,.fr)/\b=S:=by
  symm
  exact dw he i ⟨rfl,rfl⟩
 obtain⟨p,b,f,rfl,rfl⟩:=c
 refine⟨.int j,b,?_,bH (λk z=>(nomatch z)) rfl (q l)⟩
 unfold EE
 rw[f]
 simp only[Qbq]
 rw[Qhq (show Tag.fr.isL=true from rfl)]
 show((av 1 _ b).bind _)=_
 rw[show av 1 ([D.tup (xs.map enc),D.str x].map some++List.replicate (2- [D.tup (xs.map enc),D.str x].length) none) b=some (.str x,b) from rfl]
 simp only[Qbq]
 rw[Qhq (show Tag.stays b _ .fr from trivial)]
 show(pQ (.str x)).bind _=_
 simp only[pQ,Qbq]
 rw[fq]
 simp only[Qbq]
 rw[e]
 rfl
def An{w:cz}{s:aM}{h i:Nat}{vs:List Int}{fs:List bC}{f:bC}{r:Rm}{a:du}{x:Str}{v:Int}(l:s.af[h]?=some (vs,fs))(j:fs.getLast? =some f)(k:f.room=i)(c:w.aj[i]?=some r)(b:s.aj[i]?=some a)
  (m:r.ao.length=a.vals.length) (p:r.ao.length<=100) (n:s.aj.length<=100) (g:x∈r.ao.map (·.1))
  (q:Q (.d ({s with aj:=s.aj.set i {a with vals:=bU (r.ao.map (·.1)) a.vals x v}}:aM).d) S):Fn dm [w.d,s.d,.int h,.str x,.int v] S Q:=by
 refine bD ?_
 unfold gL
 symm
 apply bj l j ?_
 apply au (d:=.int f.room) rfl ?_
 refine jB ?_
 dsimp only
 rw[Qdq (show¬f.room= -1 by omega),k]
 show if (true=true) then _ else _
 rw[Qhq rfl]
 symm
 apply au rfl ?_
 refine au (d:=r.d) (aL (by rw[gQm,c];rfl)) ?_
 symm
 apply au rfl ?_
 apply kn (enc:=uL) (nm:=(·.1)) eT (by omega) g λo=> ?_
 apply au rfl ?_
 refine au (d:=a.d) (aL (by rw[gQm,b];rfl)) ?_
 symm
 apply au rfl ?_
 refine cK (xs:=a.vals.map D.int) (by rw[lQm];omega) (by rw[lQm];omega) (bo λ_ _=>rfl) rfl ?_
 symm
 refine⟨by show 1<=_;decide,?_⟩
 apply ik ?_
 apply au rfl ?_
 refine au (d:=a.d) (aL (by rw[gQm,b];rfl)) ?_
 apply bW ?_
 refine⟨_,rfl,bV ⟨_,rfl,?_⟩⟩
 refine bK (by show 5<=_;decide) ?_
 symm
 have e:({a with vals:=bU (r.ao.map (·.1)) a.vals x v}:du).d=.tup ([.tup ((a.vals.map D.int).set ((kO (.str x) ((r.ao.map (·.1)).map V.str)).getD 0) (.int v))]++hX [cc a.vals,.int a.within,cc a.row,cc a.ag,.tup (a.aa.map c_)] (some 1) none):=by
  show D.tup [cc (bU _ _ _ _),_,_,_,_]=_
  unfold bU cc
  rw[map_set]
  rfl
 rw[←e]
 refine cf (gQs.mp b).1 (by omega) ?_
 exact bH (aJ _) (aM.low _) q
end
section
variable{S:aC}{Q:Res->aC->Prop}
def lZ(w:cz)(s:aM)(h:Nat)(ts:List (Str×Nat))(vs:List Int)(fs:List bC)(x:Str)(v:Int):aM:=
 if x∈w.ak.map (·.1) then{s with ak:=bU (w.ak.map (·.1)) s.ak x v} else{s with af:=s.af.set h (bU (ts.map (·.1)) vs x v,fs)}
def Cc{w:cz}{s:aM}{h:Nat}{ts:List (Str×Nat)}{pr:List Rw}{vs:List Int}{fs:List bC}{f:bC}{x:Str}{v:Int}(e:w.af[h]?=some (ts,pr))(a:s.af[h]?=some (vs,fs))(i:fs.getLast? =some f)(j:f.room= -1)
  (r:w.ak.length=s.ak.length) (t:ts.length=vs.length) (y:w.ak.length<=100) (u:ts.length<=100) (o:s.af.length<=100) (g:x∈ts.map (·.1)++w.ak.map (·.1))
  (q:Q (.d (lZ w s h ts vs fs x v).d) S):Fn dm [w.d,s.d,.int h,.str x,.int v] S Q:=by
 refine bD ?_
 unfold gL
 symm
 apply bj a i ?_
 apply au (d:=.int f.room) rfl ?_
 refine jB ?_
 dsimp only
 rw[Qeq j]
 refine bu (λc=>by cases c) (λ_=>cD ?_)
 apply bZ (hU (sI (Bw ?_)))
 apply au rfl ?_
 apply dw (enc:=uL) (nm:=(·.1)) eT (by omega) ?_
 refine⟨_,_,rfl,fq _,?_⟩
 unfold lZ at q
 show if xD (.str x) ((w.ak.map (·.1)).map V.str)=true then _ else _
 rw[xI]
 by_cases c:x∈w.ak.map (·.1)
 ·rw[Qhq c] at q
  rw[Qeq c,Qhq rfl]
  symm
  apply au rfl ?_
  apply au rfl ?_
  apply kn (enc:=uL) (nm:=(·.1)) eT (by omega) c λl=> ?_
  refine cK (xs:=s.ak.map D.int) (by rw[lQm];omega) (by rw[lQm];omega) (bo λ_ _=>rfl) rfl ?_
  symm
  apply au rfl ?_
  apply au rfl ?_
  apply au rfl ?_
  refine⟨by show 4<=_;decide,?_⟩
  rw[←map_set]
  exact bH (d:=({s with ak:=bU (w.ak.map (·.1)) s.ak x v}:aM).d) (aJ _) (aM.low _) q
 ·rw[Quq c] at q
  rw[Qdq c,Quq (by decide)]
  refine cD ?_
  have b:x∈ts.map (·.1):=(mQa.mp g).resolve_right c
  symm
  apply au rfl ?_
  refine au (d:=xK (vs,fs)) (aL (by rw[gQm,a];rfl)) ?_
  apply dE rfl (ay (aQ (ay (aQ (a7 ?_)))))
  apply au rfl ?_
  refine au (d:=fA (ts,pr)) (aL (by rw[gQm,e];rfl)) ?_
  symm
  apply au rfl ?_
  apply kn (enc:=uL) (nm:=(·.1)) eT (by omega) b λl=> ?_
  refine cK (xs:=vs.map D.int) (by rw[lQm];omega) (by rw[lQm];omega) (bo λ_ _=>rfl) rfl ?_
  symm
  rw[←map_set]
  rw[show D.tup ((vs.set ((kO (.str x) ((ts.map (·.1)).map V.str)).getD 0) v).map D.int)=cc (bU (ts.map (·.1)) vs x v) from rfl]
  generalize bU (ts.map (·.1)) vs x v=nv at q⊢
  have n:h<s.af.length:=(gQs.mp a).1
  have k:s.af.length<=900:=by omega
  have m:Op (settle S ({s with af:=s.af.set h (nv,fs)}:aM).d S) λp=>Q p.1 p.2:=bH (aJ _) (aM.low _) q
  exact eS n k m
end
section
variable{S:aC}{Q:Res->aC->Prop}
def cn(ns:List Str)(x:Str):Nat:=(kO (.str x) (ns.map V.str)).getD 0
def jQ{ns:List Str}{x:Str}(h:x∈ns):cn ns x<ns.length/\ns[cn ns x]?=some x:=by
 obtain⟨j,b,a⟩:=rP h
 unfold cn
 rw[b]
 exact⟨(gQs.mp a).1,a⟩
def gB{α:Type}{enc:α->D}{nm:α->Str}{xs:List α}{x:Str}(he:∀a,∃r,enc a=.tup (.str (nm a)::r))(b:xs.length<=1000)(c:x∈xs.map nm)(q:Q (.d (.int (cn (xs.map nm) x:Nat))) S):Fn b_ [.tup (xs.map enc),.str x] S Q:=kn he b c λ_=>q
def jL{w:cz}{s:aM}{h i:Nat}{vs:List Int}{fs:List bC}{f:bC}{r:Rm}{x:Str}(a:s.af[h]?=some (vs,fs))(e:fs.getLast? =some f)(g:f.room=i)(b:w.aj[i]?=some r)(j:r.aa.length<=100)(c:x∈r.aa.map (·.1))
  (q:Q (.d (.tup [.int i,.int (cn (r.aa.map (·.1)) x:Nat)])) S):Fn gy [w.d,s.d,.int h,.str x] S Q:=by
 refine bD ?_
 unfold oE
 symm
 apply bj a e ?_
 refine au (d:=.int f.room) rfl ?_
 rw[g]
 symm
 apply au rfl ?_
 refine au (d:=r.d) (aL (by rw[gQm,b];rfl)) ?_
 symm
 apply au rfl ?_
 apply gB (enc:=ER) (nm:=(·.1)) xY (by omega) c ?_
 refine⟨by show 2<=_;decide,?_⟩
 exact bH (λk z=>(nomatch z)) rfl q
def g8{s:aM}{i b:Nat}{a:du}{l:List (Int×Int)}(c:s.aj[i]?=some a)(k:b<a.aa.length)(n:a.aa.length<=100)(m:s.aj.length<=100)
  (q:Q (.d ({s with aj:=s.aj.set i {a with aa:=a.aa.set b l}}:aM).d) S):Fn dv [s.d,.int i,.int b,c_ l] S Q:=by
 refine bD ?_
 unfold jZ
 symm
 apply au rfl ?_
 refine au (d:=a.d) (aL (by rw[gQm,c];rfl)) ?_
 symm
 apply ik ?_
 apply bV (bW ?_)
 apply⟨_,rfl,_,rfl,?_⟩
 apply au rfl ?_
 refine cK (xs:=a.aa.map c_) (by rw[lQm];omega) (by rw[lQm];omega) (bo λl _=>o9 l) (o9 l) ?_
 symm
 refine⟨by show 1<=_;decide,?_⟩
 refine bK (by show 5<=_;decide) ?_
 symm
 rw[←map_set]
 generalize f:a.aa.set b l=nb at q⊢
 have e:({a with aa:=nb}:du).d=.tup (hX [cc a.vals,.int a.within,cc a.row,cc a.ag,.tup (a.aa.map c_)] none (some 4)++ [.tup (nb.map c_)]):=rfl
 rw[←e]
 have g:i<s.aj.length:=(gQs.mp c).1
 have h:s.aj.length<=900:=by omega
 have j:Op (settle S ({s with aj:=s.aj.set i {a with aa:=nb}}:aM).d S) λp=>Q p.1 p.2:=bH (aJ _) (aM.low _) q
 exact cf g h j
def gk(p:Int×List Int)(h:Int):Int×List Int:=if 0<p.1 then(p.1-1,p.2) else(p.1,p.2++ [h])
def eG(p:Int×List Int):Int×List Int:=match p.2 with
 |_::l=>(p.1,l)
 | []=>(if 9<p.1+1 then 9 else p.1+1,[])
def u9{w:cz}{s:aM}{h:Int}{x:Str}{p:Int×List Int}(i:x∈w.ai.map (·.1))(b:s.ai[cn (w.ai.map (·.1)) x]?=some p)(m:w.ai.length<=100)(k:s.ai.length<=100)(l:p.2.length<=900)
  (q:Q (.d ({s with ai:=s.ai.set (cn (w.ai.map (·.1)) x) (gk p h)}:aM).d) S):Fn pF [w.d,s.d,.int h,.str x] S Q:=by
 refine bD ?_
 unfold vF
 symm
 apply au rfl ?_
 refine gB (enc:=uL) (nm:=(·.1)) eT (by omega) i ?_
 generalize cn (w.ai.map (·.1)) x=j at b q⊢
 have f:j<s.ai.length:=(gQs.mp b).1
 have g:s.ai.length<=900:=by omega
 symm
 apply au rfl ?_
 refine au (d:=xk p) (aL (by rw[gQm,b];rfl)) ?_
 refine dE rfl (ay (aQ (ay (aQ (a7 ?_)))))
 have a:Op (settle S ({s with ai:=s.ai.set j (gk p h)}:aM).d S) λp=>Q p.1 p.2:=bH (aJ _) (aM.low _) q
 unfold gk at a
 symm
 by_cases c:0<p.1
 ·rw[Qhq c] at a
  rw[Qeq c,Qhq rfl]
  symm
  refine⟨by show 2<=_;decide,?_⟩
  symm
  exact eV (p:=(p.1-1,p.2)) f g a
 ·rw[Quq c] at a
  rw[Qdq c,Quq (by decide)]
  apply cD ?_
  refine⟨by show 1<=_;decide,?_⟩
  refine bK (by simp only[lQm,Qnq,QGq];exact nQl (aH (by omega))) ?_
  symm
  refine⟨by show 2<=_;decide,?_⟩
  symm
  have e:D.tup [.int p.1,.tup (p.2.map D.int++ [.int h])]=xk (p.1,p.2++ [h]):=by simp[xk,cc]
  rw[e]
  exact eV f g a
end
section
variable{S:aC}{Q:Res->aC->Prop}
def jG{w:cz}{s:aM}{x:Str}{p:Int×List Int}(k:x∈w.ai.map (·.1))(f:s.ai[cn (w.ai.map (·.1)) x]?=some p)(n:w.ai.length<=100)(m:s.ai.length<=100)
  (q:Q (.d ({s with ai:=s.ai.set (cn (w.ai.map (·.1)) x) (eG p)}:aM).d) S):Fn eI [w.d,s.d,.str x] S Q:=by
 refine bD ?_
 unfold iG
 symm
 apply au rfl ?_
 refine gB (enc:=uL) (nm:=(·.1)) eT (by omega) k ?_
 generalize cn (w.ai.map (·.1)) x=j at f q⊢
 have h:j<s.ai.length:=(gQs.mp f).1
 have g:s.ai.length<=900:=by omega
 symm
 apply au rfl ?_
 refine au (d:=xk p) (aL (by rw[gQm,f];rfl)) ?_
 refine dE rfl (ay (aQ (ay (aQ (a7 ?_)))))
 have i:Op (settle S ({s with ai:=s.ai.set j (eG p)}:aM).d S) λp=>Q p.1 p.2:=bH (aJ _) (aM.low _) q
 obtain⟨v,b⟩:=p
 symm
 refine rh ?_
 cases b with
 | cons a l=>
   apply bu (λ_=> ?_) (λc=>by cases c)
   apply ik ?_
   apply bW ?_
   apply⟨_,rfl,bV ⟨_,rfl,?_⟩⟩
   refine⟨by show 2<=_;decide,?_⟩
   symm
   have e:D.tup (hX ((a::l).map D.int) (some 1) none)=cc l:=by
     rw[show(some (1:Int))=some ((1:Nat):Int) from rfl,gE (by simp)]
     rfl
   rw[e]
   exact eV (p:=(v,l)) h g i
 | nil=>
   apply bu (λc=>by cases c) (λ_=>cD ?_)
   apply xw ?_
   refine⟨by show 2<=_;decide,?_⟩
   symm
   exact eV (p:=(if 9<v+1 then 9 else v+1,[])) h g i
def yU{a sd hd b:D}{s:aM}(q:Q (.d s.d) S):Fn nk [a,s.d,hd,b] S Q:=by
 refine bD ?_
 unfold rY
 symm
 exact bH (aJ _) (aM.low _) q
def Bk{b:D}{s:aM}{h n:Nat}{vs:List Int}{fs:List bC}{f:bC}(a:s.af[h]?=some (vs,fs))(i:fs.getLast? =some f)(g:fs.length<=900)(c:s.af.length<=900)(q:Q (.d ({s with af:=s.af.set h (vs,fs.dropLast++ [{f with row:=n}])}:aM).d) S):Fn tm [b,s.d,.int h,(Rw.go n).d] S Q:=by
 refine bD ?_
 unfold wD
 symm
 apply au (d:=.int n) rfl ?_
 have e:Op (settle S ({s with af:=s.af.set h (vs,fs.dropLast++ [{f with row:=n}])}:aM).d S) λp=>Q p.1 p.2:=bH (aJ _) (aM.low _) q
 exact lO a i g c e
end
section
variable{S:aC}{Q:Res->aC->Prop}
def vz{w:cz}{s:aM}{h:Int}{x:Str}{p:Int×List Int}(e:x∈w.ai.map (·.1))(b:s.ai[cn (w.ai.map (·.1)) x]?=some p)(g:w.ai.length<=100)(a:s.ai.length<=100)(f:p.2.length<=900)
  (q:Q (.d ({s with ai:=s.ai.set (cn (w.ai.map (·.1)) x) (gk p h)}:aM).d) S):Fn kA [w.d,s.d,.int h,(Rw.take x).d] S Q:=by
 refine bD ?_
 unfold oZ
 symm
 apply au (d:=.str x) rfl ?_
 have c:Op (settle S ({s with ai:=s.ai.set (cn (w.ai.map (·.1)) x) (gk p h)}:aM).d S) λp=>Q p.1 p.2:=bH (aJ _) (aM.low _) q
 exact u9 e b g a f c
def vW{w:cz}{s:aM}{hd:D}{x:Str}{p:Int×List Int}(e:x∈w.ai.map (·.1))(b:s.ai[cn (w.ai.map (·.1)) x]?=some p)(f:w.ai.length<=100)(a:s.ai.length<=100)
  (q:Q (.d ({s with ai:=s.ai.set (cn (w.ai.map (·.1)) x) (eG p)}:aM).d) S):Fn lj [w.d,s.d,hd,(Rw.give x).d] S Q:=by
 refine bD ?_
 unfold pG
 symm
 apply au (d:=.str x) rfl ?_
 have c:Op (settle S ({s with ai:=s.ai.set (cn (w.ai.map (·.1)) x) (eG p)}:aM).d S) λp=>Q p.1 p.2:=bH (aJ _) (aM.low _) q
 exact jG e b f a c
end
section
variable{S:aC}{Q:Res->aC->Prop}
def vS(w:cz)(s:aM)(h:Nat)(t:Tr)(v:Int):Prop:=∀(S:aC) (Q:Res->aC->Prop),Q (.d (.int v)) S->Fn cB [w.d,s.d,.int h,t.d] S Q
def Puts(w:cz)(s:aM)(h:Nat)(x:Str)(v:Int)(a:aM):Prop:=∀(S:aC) (Q:Res->aC->Prop),Q (.d a.d) S->Fn dm [w.d,s.d,.int h,.str x,.int v] S Q
def vO{w:cz}{s:aM}{h:Int}{x y:Str}{p a:Int×List Int}(i:x∈w.ai.map (·.1))(k:y∈w.ai.map (·.1))(f:s.ai[cn (w.ai.map (·.1)) x]?=some p)(e:w.ai.length<=100)(c:s.ai.length<=100)(j:a.2.length<=900)
  (b:(s.ai.set (cn (w.ai.map (·.1)) x) (eG p))[cn (w.ai.map (·.1)) y]?=some a)
  (q:Q (.d ({s with ai:=(s.ai.set (cn (w.ai.map (·.1)) x) (eG p)).set (cn (w.ai.map (·.1)) y) (gk a h)}:aM).d) S):Fn kR [w.d,s.d,.int h,(Rw.pass x y).d] S Q:=by
 refine bD ?_
 unfold nH
 symm
 apply au (d:=.str x) rfl ?_
 apply jG i f e c ?_
 apply au (d:=.str y) rfl ?_
 have g:Op (settle S ({s with ai:=(s.ai.set (cn (w.ai.map (·.1)) x) (eG p)).set (cn (w.ai.map (·.1)) y) (gk a h)}:aM).d S) λp=>Q p.1 p.2:=bH (aJ _) (aM.low _) q
 exact u9 (s:={s with ai:=s.ai.set (cn (w.ai.map (·.1)) x) (eG p)}) k b e (by simpa using c) j g
def yF{w:cz}{s a:aM}{h:Nat}{x:Str}{t:Tr}{v:Int}(c:vS w s h t v)(b:Puts w s h x v a)(q:Q (.d a.d) S):Fn ng [w.d,s.d,.int h,(Rw.put x t).d] S Q:=by
 refine bD ?_
 unfold sX
 symm
 apply au (d:=.str x) rfl ?_
 apply au (d:=t.d) rfl ?_
 apply c _ _ ?_
 refine b _ _ ?_
 exact bH (aJ _) (aM.low _) q
def qZ{w:cz}{s:aM}{h n:Nat}{t:Tr}{v:Int}{vs:List Int}{fs:List bC}{f:bC}(a:vS w s h t v)(e:s.af[h]?=some (vs,fs))(b:fs.getLast? =some f)(j:fs.length<=900)(g:s.af.length<=900)
  (q:Q (.d (if v=0 then({s with af:=s.af.set h (vs,fs.dropLast++ [{f with row:=n}])}:aM) else s).d) S):Fn gU [w.d,s.d,.int h,(Rw.unl t n).d] S Q:=by
 refine bD ?_
 unfold jU
 symm
 apply au (d:=t.d) rfl ?_
 apply a _ _ ?_
 refine ic ?_
 dsimp only
 by_cases c:v=0
 ·rw[Qhq c] at q
  rw[Qeq c,Qhq rfl]
  symm
  apply au (d:=.int n) rfl ?_
  have i:Op (settle S ({s with af:=s.af.set h (vs,fs.dropLast++ [{f with row:=n}])}:aM).d S) λp=>Q p.1 p.2:=bH (aJ _) (aM.low _) q
  exact lO e b j g i
 ·rw[Quq c] at q
  rw[Qdq c,Quq (by decide)]
  apply cD ?_
  exact bH (aJ _) (aM.low _) q
end
section
variable{S:aC}{Q:Res->aC->Prop}
def vk{w:cz}{s:aM}{h:Nat}{t:Tr}{v:Int}{vs:List Int}{fs:List bC}{f:bC}(g:vS w s h t v)(e:s.af[h]?=some (vs,fs))(c:fs.getLast? =some f)(l:fs.length<=900)(i:s.af.length<=900)
  (q:Q (.d ({s with af:=s.af.set h (vs,fs.dropLast++ [{f with told:=v}])}:aM).d) S):Fn kq [w.d,s.d,.int h,(Rw.tell t).d] S Q:=by
 refine bD ?_
 unfold pw
 symm
 apply au (d:=t.d) rfl ?_
 apply g _ _ ?_
 apply ik ?_
 refine bj e c ?_
 apply bV (bW ?_)
 apply⟨_,rfl,_,rfl,?_⟩
 refine⟨by show 1<=_;decide,?_⟩
 refine bK (by show 5<=_;decide) ?_
 symm
 have j:0<fs.length:=by
  cases fs with
  |nil=>cases c
  |cons a b=>simp
 have k:Op (settle S ({s with af:=s.af.set h (vs,fs.dropLast++ [{f with told:=v}])}:aM).d S) λp=>Q p.1 p.2:=bH (aJ _) (aM.low _) q
 exact fo (f:={f with told:=v}) e j l i k
def yf{w:cz}{s:aM}{h i:Nat}{vs:List Int}{fs:List bC}{f:bC}{r:Rm}{a:du}{x:Str}(o:s.af[h]?=some (vs,fs))(k:fs.getLast? =some f)(n:f.room=i)(j:w.aj[i]?=some r)(c:s.aj[i]?=some a)(t:r.aa.length<=100)(v:r.aa.length=a.aa.length)(m:s.aj.length<=100)(e:x∈r.aa.map (·.1))
  (q:Q (.d ({s with aj:=s.aj.set i {a with aa:=a.aa.set (cn (r.aa.map (·.1)) x) []}}:aM).d) S):Fn nF [w.d,s.d,.int h,(Rw.all x).d] S Q:=by
 have g:=(jQ e).1
 rw[lQm] at g
 refine bD ?_
 unfold rg
 symm
 apply au (d:=.str x) rfl ?_
 refine jL o k n j t e ?_
 refine dE rfl (ay (aQ (ay (aQ (a7 ?_)))))
 generalize cn (r.aa.map (·.1)) x=b at g q⊢
 symm
 apply⟨by decide,?_⟩
 have u:Op (settle S ({s with aj:=s.aj.set i {a with aa:=a.aa.set b []}}:aM).d S) λp=>Q p.1 p.2:=bH (aJ _) (aM.low _) q
 exact g8 (l:= []) c (by omega) (by omega) m u
end
section
variable{S:aC}{Q:Res->aC->Prop}
def D4:∀a:Rm,∃r,a.d=.tup (.str a.name::r):=λa=>⟨_,rfl⟩
def AJ:∀a:Str×List Rw,∃r,fP a=.tup (.str a.1::r):=λa=>⟨_,rfl⟩
def Ba{w:cz}{s:aM}{h:Nat}{g:Option Str}{a dn:Str}{t:Tr}{v:Int}{vs:List Int}{fs:List bC}{r:Rm}{c:du}(m:vS w s h t v)(l:s.af[h]?=some (vs,fs))(f:a∈w.aj.map (·.name))(k:w.aj[cn (w.aj.map (·.name)) a]?=some r)(b:s.aj[cn (w.aj.map (·.name)) a]?=some c)(j:dn∈r.ae.map (·.1))
  (C:w.aj.length<=100) (B:r.ae.length<=100) (z:s.aj.length<=100) (o:c.row.length<=900) (A:fs.length<=900) (y:s.af.length<=100)
  (q:Q (.d ({s with af:=s.af.set h (vs,fs++ [⟨(cn (w.aj.map (·.name)) a:Nat),(cn (r.ae.map (·.1)) dn:Nat),0,v,0⟩]),aj:=s.aj.set (cn (w.aj.map (·.name)) a) (gG c h)}:aM).d) S):Fn sZ [w.d,s.d,.int h,(Rw.do_ g a dn t).d] S Q:=by
 refine bD ?_
 unfold vR
 symm
 apply au rfl ?_
 apply au (d:=.str a) rfl ?_
 refine gB (enc:=Rm.d) (nm:=(·.name)) D4 (by omega) f ?_
 generalize cn (w.aj.map (·.name)) a=i at k b q⊢
 symm
 apply au rfl ?_
 refine au (d:=r.d) (aL (by rw[gQm,k];rfl)) ?_
 symm
 apply au rfl ?_
 apply au (d:=.str dn) rfl ?_
 refine gB (enc:=fP) (nm:=(·.1)) AJ (by omega) j ?_
 generalize cn (r.ae.map (·.1)) dn=dd at q⊢
 symm
 apply au (d:=t.d) rfl ?_
 apply m _ _ ?_
 refine⟨by show 5<=_;decide,?_⟩
 symm
 apply au rfl ?_
 refine au (d:=xK (vs,fs)) (aL (by rw[gQm,l];rfl)) ?_
 apply dE rfl (ay (aQ (ay (aQ (a7 ?_)))))
 refine⟨by show 1<=_;decide,?_⟩
 refine bK (by simp only[lQm,Qnq,QGq];exact nQl (aH (by omega))) ?_
 symm
 have e:fs.map bC.d++ [D.tup [.int i,.int dd,.int 0,.int v,.int 0]]=(fs++ [(⟨i,dd,0,v,0⟩:bC)]).map bC.d:=by rw[Qzq];rfl
 rw[e]
 generalize n:fs++ [(⟨i,dd,0,v,0⟩:bC)]=nf at q⊢
 have x:h<s.af.length:=(gQs.mp l).1
 apply eS (vs:=vs) (fs:=nf) x (by omega) ?_
 have u:Op (settle S ({s with af:=s.af.set h (vs,nf),aj:=s.aj.set i (gG c h)}:aM).d S) λp=>Q p.1 p.2:=bH (aJ _) (aM.low _) q
 exact oM (s:={s with af:=s.af.set h (vs,nf)}) b (by show s.aj.length<=900;omega) o u
end
section
variable{S:aC}{Q:Res->aC->Prop}
def jE(free:Bool)(a:du)(b:Nat)(h:Int):du:=match a.aa[b]? with
 |some (p::l)=>if free then{a with aa:=a.aa.set b l} else{a with aa:=a.aa.set b l,within:=p.2,ag:=a.ag++ [h]}
 |_=>a
def vm{w:cz}{s:aM}{h i:Nat}{vs:List Int}{fs:List bC}{f:bC}{r:Rm}{a:du}{x:Str}(G:s.af[h]?=some (vs,fs))(B:fs.getLast? =some f)(F:f.room=i)(u:w.aj[i]?=some r)(m:s.aj[i]?=some a)(J:r.aa.length<=100)(L:r.aa.length=a.aa.length)(C:s.aj.length<=100)(M:a.ag.length<=900)(v:x∈r.aa.map (·.1))
  (q:Q (.d ({s with aj:=s.aj.set i (jE (decide (r.ah="when free")) a (cn (r.aa.map (·.1)) x) h)}:aM).d) S):Fn kU [w.d,s.d,.int h,(Rw.call x).d] S Q:=by
 have z:=(jQ v).1
 rw[lQm] at z
 have t:i<s.aj.length:=(gQs.mp m).1
 refine bD ?_
 unfold nX
 symm
 apply au (d:=.str x) rfl ?_
 refine jL G B F u J v ?_
 refine dE rfl (ay (aQ (ay (aQ (a7 ?_)))))
 generalize cn (r.aa.map (·.1)) x=b at z q⊢
 have y:b<a.aa.length:=by omega
 obtain⟨n,g⟩:∃l,a.aa[b]?=some l:=⟨_,gQe y⟩
 have k:Op (settle S ({s with aj:=s.aj.set i (jE (decide (r.ah="when free")) a b h)}:aM).d S) λp=>Q p.1 p.2:=bH (aJ _) (aM.low _) q
 unfold jE at k
 rw[g] at k
 symm
 apply au rfl ?_
 refine au (d:=a.d) (aL (by rw[gQm,m];rfl)) ?_
 symm
 apply au rfl ?_
 refine au (d:=c_ n) (aL (by rw[gQm,g];rfl)) ?_
 symm
 refine rh ?_
 cases n with
 | nil=>
   apply bu (λ_=> ?_) (λc=>by cases c)
   have e:s.aj.set i a=s.aj:=by
     apply List.ext_getElem?
     intro j
     rw[List.getElem?_set]
     split
     · rename_i c
       subst c
       rw[m]
       first|done|simp[t]
     · rfl
   have K:({s with aj:=s.aj.set i a}:aM)=s:=by rw[e]
   have o:Op (settle S ({s with aj:=s.aj.set i a}:aM).d S) λp=>Q p.1 p.2:=k
   rw[K] at o
   exact o
 | cons p l=>
   apply bu (λc=>by cases c) (λ_=>cD ?_)
   apply ik ?_
   apply bW ?_
   apply⟨_,rfl,bV ⟨_,rfl,?_⟩⟩
   have e:D.tup (hX ((p::l).map pairD) (some 1) none)=c_ l:=by
     rw[show(some (1:Int))=some ((1:Nat):Int) from rfl,gE (by simp)]
     rfl
   rw[e]
   refine g8 m y (by omega) C ?_
   dsimp only at k
   generalize H:a.aa.set b l=nb at k⊢
   symm
   apply au rfl ?_
   refine au (d:=r.d) (aL (by rw[gQm,u];rfl)) ?_
   symm
   apply au (d:=.str r.ah) rfl ?_
   refine eQ ?_
   dsimp only
   by_cases c:r.ah="when free"
   · rw[Qeq c] at k⊢
     rw[Qhq rfl] at k
     rw[Qhq rfl]
     symm
     exact k
   · rw[Qdq c] at k⊢
     rw[Quq (by decide)] at k
     rw[Quq (by decide)]
     apply cD ?_
     refine au rfl ?_
     have A:((s.aj.set i {a with aa:=nb}).map du.d)[i]?=some ({a with aa:=nb}:du).d:=by rw[gQm,Qyq t];rfl
     symm
     refine au (d:=({a with aa:=nb}:du).d) (aL A) ?_
     apply dE rfl (ay (aQ (ay (aQ (ay (aQ (ay (aQ (ay (aQ (a7 ?_)))))))))))
     apply au (d:=pairD p) zF ?_
     apply au (d:=.int p.2) rfl ?_
     refine⟨by show 1<=_;decide,?_⟩
     refine bK (by simp only[lQm,Qnq,QGq];exact nQl (aH (by omega))) ?_
     symm
     refine⟨by show 5<=_;decide,?_⟩
     symm
     have I:D.tup [cc a.vals,.int p.2,cc a.row,.tup (a.ag.map D.int++ [.int h]),.tup (nb.map c_)]=({a with aa:=nb,within:=p.2,ag:=a.ag++ [(h:Int)]}:du).d:=by simp[du.d,cc]
     rw[I]
     have o:Op (settle S ({s with aj:=(s.aj.set i {a with aa:=nb}).set i {a with aa:=nb,within:=p.2,ag:=a.ag++ [(h:Int)]}}:aM).d S) λp=>Q p.1 p.2:=by rw[List.set_set];exact k
     exact cf (s:={s with aj:=s.aj.set i {a with aa:=nb}}) (by simpa using t) (by simp;omega) o
end
end W28
namespace DL
open PySem PySem.Spec L2
def nB{α:Type}{v:cN}{S:aC}{js:List (Option Nat)}{i:qg}{g:jt}{t:gM}{o:aV}{Q:List D->aC->Prop}(P:cN->Prop)(enc G:α->D)(c:α->Bool)(J:P (k8 js v)) (h:E i v S λp f=>∃xs:List α,p.1=xs.map enc/\p.2 f/\xs.length<=1000∧
   (∀x∈xs,∀a,P a->Tg g (enc x) a f λb S2=>S2=f/\P b/\E t b f λk B=>B=f/\k=c x/\(c x=true->E o b f λy A=>y=G x/\A=f))/\Q ((xs.filter c).map G) f):E (cW js i g t o) v S Q:=by
 refine og (h.mono λp f H=> ?_)
 obtain⟨xs,z,F,W,R,q⟩:=H
 refine⟨λn a s j=>s=f/\j=((xs.take n).filter c).map G/\P a,⟨rfl,rfl,J⟩,λn a s j h=>by rw[h.1];exact F,λn d a s j r h=> ?_,λa s j h=> ?_⟩
 ·obtain⟨rfl,rfl,h3⟩:=h
  have r:p.1[n]?=some d:=r
  rw[z,gQm] at r
  obtain⟨x,l,rfl⟩:=oQm.mp r
  obtain⟨b,S2,C,rfl,h4,h5⟩:=R x (mQg l) a h3
  refine⟨b,S2,C,?_⟩
  refine h5.mono λk B u=> ?_
  obtain⟨N,K,L⟩:=u
  subst N K
  have U:=(gQs.mp l).1
  have w:((xs.take (n+1)).filter c).map G=((xs.take n).filter c).map G++if c x=true then [G x] else []:=by
   rw[QYq,l]
   cases m:c x <;>simp[m]
  by_cases m:c x=true
  ·rw[Qhq m]
   refine(L m).mono λy A u=> ?_
   obtain⟨M,I⟩:=u
   subst M I
   refine⟨?_,rfl,?_,h4⟩
   ·rw[lQm]
    have:=List.length_filter_le c (xs.take n)
    rw[Qxq] at this
    exact aH (by omega)
   ·rw[w,Qhq m]
  ·rw[Quq m]
   refine⟨rfl,?_,h4⟩
   rw[w,Quq m,List.append_nil]
 ·obtain⟨rfl,rfl,_⟩:=h
  have e:p.1.length=xs.length:=by rw[z,lQm]
  show Q (((xs.take p.1.length).filter c).map G) _
  rw[e,QEq]
  exact q
end DL
namespace W28
open PySem PySem.Spec L2 DL
section
variable{S:aC}{Q:Res->aC->Prop}
def gA(l:List (Int×Int))(t h:Int):List (Int×Int):=l.take (l.filter λp=>decide (p.1<=t)).length++ [(t,h)]++l.drop (l.filter λp=>decide (p.1<=t)).length
def wI{w:cz}{s:aM}{h i:Nat}{vs:List Int}{fs:List bC}{f:bC}{r:Rm}{k:du}{x y:Str}{t:Tr}{v:Int}{g:List (Int×Int)}(U:s.af[h]?=some (vs,fs))(N:fs.getLast? =some f)(R:f.room=i)(K:w.aj[i]?=some r)(u:s.aj[i]?=some k)(b2:r.aa.length<=100)(l2:r.aa.length=k.aa.length)(P:s.aj.length<=100)(L:x∈r.aa.map (·.1))
  (A:r.aa[cn (r.aa.map (·.1)) x]?=some (x,y)) (m:k.aa[cn (r.aa.map (·.1)) x]?=some g) (b4:g.length<=900) (J:vS w s h t v)
  (q:Q (.d ({s with aj:=s.aj.set i (bR {k with aa:=k.aa.set (cn (r.aa.map (·.1)) x) (gA g (if y="turns" then v else 0) h)})}:aM).d) S):Fn k_ [w.d,s.d,.int h,(Rw.wait x t).d] S Q:=by
 have H:=(jQ L).1
 rw[lQm] at H
 have X:i<s.aj.length:=(gQs.mp u).1
 refine bD ?_
 unfold oP
 symm
 apply au (d:=.str x) rfl ?_
 refine jL U N R K b2 L ?_
 refine dE rfl (ay (aQ (ay (aQ (a7 ?_)))))
 generalize cn (r.aa.map (·.1)) x=b at H q A m⊢
 have W:b<k.aa.length:=by omega
 symm
 apply au rfl ?_
 refine au (d:=r.d) (aL (by rw[gQm,K];rfl)) ?_
 symm
 apply au rfl ?_
 refine au (d:=ER (x,y)) (aL (by rw[gQm,A];rfl)) ?_
 symm
 apply au (d:=.str y) rfl ?_
 refine eQ ?_
 dsimp only
 have B:∀j:Int,j=(if y="turns" then v else 0)->T (aF (aS 7 (aW s_ (aW s_ (aW s_ (aW s_ (av 1) (cF (.int 0))) (av 4)) (cF (.int 4))) (av 5)))
   (aF (aS 8 (jq (pU (cW [none,none,some 6] (r8 (bX (av 7))) (ju (nG 2 (aI (bO 0) (aI (bO 1) df)))) (bc (aW G_ (av 0) (av 2))) (av 0)))))
   (aF (aS 9 (aB dv (ar (av 1) (ar (av 4) (ar (av 5) (ar (aW bE (aW bE (pj (av 7) pS (o7 (av 8))) (aK (ar (aK (ar (av 6) (ar (av 2) ax))) ax))) (pj (av 7) (o7 (av 8)) pS)) ax))))))
   (cH (aB mw (ar (av 9) (ar (av 4) ax)))))))
   [some w.d,some s.d,some (.int h),some (Rw.wait x t).d,some (.int i),some (.int b),some (.int j),none,none,none] S (λo=>match o with
   |.nx _ z=>Op (settle S .non z) λp=>Q p.1 p.2|.rt d z=>Op (settle S d z) λp=>Q p.1 p.2|.rl l z=>Op (dQ S l z) λp=>Q p.1 p.2|_=>False):=by
  intro j F
  rw[←F] at q
  symm
  apply au rfl ?_
  refine au (d:=k.d) (aL (by rw[gQm,u];rfl)) ?_
  symm
  apply au rfl ?_
  refine au (d:=c_ g) (aL (by rw[gQm,m];rfl)) ?_
  symm
  apply nB (α:=Int×Int) (λC=>∃a b,C= [a,b,some (.int j)]) pairD (λp=>.int p.1) (λp=>decide (p.1<=j)) ⟨none,none,rfl⟩ ?_
  refine fD (ds:=g.map pairD) ?_
  refine⟨g,rfl,trivial,by omega,λp H C I=> ?_,?_⟩
  ·obtain⟨a,b,rfl⟩:=I
   refine dE rfl (ay (aQ (ay (aQ (a7 ?_)))))
   apply⟨rfl,⟨_,_,rfl⟩,?_⟩
   apply⟨rfl,rfl,λ_=> ?_⟩
   exact⟨rfl,rfl⟩
  have el:((g.filter λp=>decide (p.1<=j)).map λp=>D.int p.1).length=(g.filter λp=>decide (p.1<=j)).length:=lQm ..
  have G:=List.length_filter_le (λp=>decide (p.1<=j)) g
  unfold gA at q
  symm
  rw[el]
  generalize (g.filter λp=>decide (p.1<=j)).length=n at q G⊢
  apply ik ?_
  apply bV (bW ?_)
  refine⟨_,rfl,g.map pairD,rfl,?_⟩
  rw[zp (by rw[lQm];exact G)]
  symm
  refine⟨by show 2<=_;decide,?_⟩
  symm
  refine⟨by show 1<=_;decide,?_⟩
  refine bK (by simp only[lQm,Qxq,Qnq,QGq];exact nQl (aH (by omega))) ?_
  apply ik ?_
  apply bW ?_
  refine⟨_,rfl,bV ⟨g.map pairD,rfl,?_⟩⟩
  rw[gE (by rw[lQm];exact G)]
  refine bK (by simp only[lQa,lQm,Qxq,List.length_drop,Qnq,QGq];exact nQl (aH (by omega))) ?_
  symm
  have e:D.tup ((g.map pairD).take n++ [D.tup [.int j,.int h]]++(g.map pairD).drop n)=c_ (g.take n++ [(j,(h:Int))]++g.drop n):=by
   simp only[c_,Qzq,List.map_take,List.map_drop]
   rfl
  rw[e]
  generalize g.take n++ [(j,(h:Int))]++g.drop n=nl at q⊢
  apply g8 u W (by omega) P ?_
  have M:Op (settle S ({s with aj:=s.aj.set i (bR {k with aa:=k.aa.set b nl})}:aM).d S) λp=>Q p.1 p.2:=bH (aJ _) (aM.low _) q
  generalize Z:({k with aa:=k.aa.set b nl}:du)=nr at M⊢
  have Y:Op (settle S ({s with aj:=(s.aj.set i nr).set i (bR nr)}:aM).d S) λp=>Q p.1 p.2:=by rw[List.set_set];exact M
  exact tw (s:={s with aj:=s.aj.set i nr}) (Qyq X) (by simp;omega) Y
 by_cases c:y="turns"
 ·rw[Qeq c,Qhq rfl]
  symm
  apply au (d:=t.d) rfl ?_
  refine J _ _ ?_
  exact B v (by rw[Qhq c])
 ·rw[Qdq c,Quq (by decide)]
  refine cD ?_
  exact B 0 (by rw[Quq c])
end
end W28
namespace DL
open PySem PySem.Spec L2
section
variable{Γ:cN}{S:aC}
def Ia{a:List (Str×Str)}{g:aV}{Q:D->aC->Prop}(h:E g Γ S λy b=>∃x nm,y=.str x/\a.lookup x=some nm/\Q (.fn nm) b):E (GY a g) Γ S Q:=by
 obtain⟨y,b,c,x,nm,rfl,e2,q⟩:=h
 exact⟨_,b,by unfold GY;rw[c];simp only[Qbq];rw[e2];rfl,q⟩
def Cs{i:Nat}{T:List (Str×cT)}{g:fh}{x:Str}{F:cT}{Q:D->aC->Prop}(a:Γ[i]?=some (some (.fn x)))(d:T.lookup x=some F)(h:E (aB F g) Γ S Q):E (pN i T g) Γ S Q:=by
 obtain⟨y,c,b,q⟩:=h
 exact⟨_,c,by unfold pN;rw[a];show(T.lookup x).bind _=_;rw[d];exact b,q⟩
def Dy{f:aV}{Q:D->aC->Prop}(h:E f Γ S λd a=>∃k,d=.bl k/\Q (.bl (!k)) a):E (BO f) Γ S Q:=by
 obtain⟨d,a,b,k,rfl,q⟩:=h
 exact⟨_,a,by unfold BO;rw[b];rfl,q⟩
def zD{a:Bool}{x:D}{Q:D->Prop}(q:Q (.bl (if a then !isNone x else isNone x))):Op (uN a S x .non) Q:=⟨_,rfl,q⟩
end
def qS{α:Type}{xs:List α}{a b:α}:lM (xs++ [a,b]) (-2)=some a:=by
 unfold lM yC
 rw[Quq (by omega),Qhq (by simp;omega)]
 simp only[Qbq]
 rw[show((-2:Int)+((xs++ [a,b]).length:Int)).toNat=xs.length by simp;omega]
 simp
end DL
namespace W28
open PySem PySem.Spec L2 DL
section
variable{S:aC}{Q:Res->aC->Prop}
def IS:Rw->cT
 |.put _ _=>ng
 |.unl _ _=>gU
 |.go _=>tm
 |.do_ _ _ _ _=>sZ
 |.wait _ _=>k_
 |.call _=>kU
 |.all _=>nF
 |.tell _=>kq
 |.take _=>kA
 |.give _=>lj
 |.pass _ _=>kR
 |.say _=>nk
def Rw.kind:Rw->Str
 |.put _ _=>"put"
 |.unl _ _=>"unless"
 |.go _=>"go"
 |.do_ _ _ _ _=>"do"
 |.wait _ _=>"wait"
 |.call _=>"call"
 |.all _=>"all"
 |.tell _=>"tell"
 |.take _=>"take"
 |.give _=>"give"
 |.pass _ _=>"pass"
 |.say _=>"say"
def Rw.d_kind(r:Rw):∃l,r.d=.tup (.str r.kind::l):=by cases r <;>exact⟨_,rfl⟩
def Bv(r:Rw):∃nm,jm.lookup r.kind=some nm/\ph.lookup nm=some (IS r):=by
 cases r
 ·exact⟨"by_put",rfl,rfl⟩
 ·exact⟨"by_unless",rfl,rfl⟩
 ·exact⟨"by_go",rfl,rfl⟩
 ·exact⟨"by_do",rfl,rfl⟩
 ·exact⟨"by_wait",rfl,rfl⟩
 ·exact⟨"by_call",rfl,rfl⟩
 ·exact⟨"by_all",rfl,rfl⟩
 ·exact⟨"by_tell",rfl,rfl⟩
 ·exact⟨"by_take",rfl,rfl⟩
 ·exact⟨"by_give",rfl,rfl⟩
 ·exact⟨"by_pass",rfl,rfl⟩
 ·exact⟨"by_say",rfl,rfl⟩
def Ew(w:cz)(s:aM)(h:Nat)(r:Rw)(a:aM):Prop:=∀(S:aC) (Q:Res->aC->Prop),Q (.d a.d) S->Fn (IS r) [w.d,s.d,.int h,r.d] S Q
def ue{w:cz}{s c:aM}{h:Nat}{r:Rw}(hd:Ew w s h r c)(q:Q (.d c.d) S):Fn gD [w.d,s.d,.int h,r.d] S Q:=by
 obtain⟨a,f,e⟩:=Bv r
 obtain⟨l,b⟩:=r.d_kind
 refine bD ?_
 unfold qj
 apply bZ (FR (Ia ?_))
 rw[b]
 refine au (d:=.str r.kind) zF ?_
 rw[←b]
 refine⟨_,a,rfl,f,?_⟩
 apply oy (Cs (x:=a) rfl e ?_)
 refine hd _ _ ?_
 exact bH (aJ _) (aM.low _) q
def mS{w:cz}{s n:aM}{h i:Nat}{vs:List Int}{e:List bC}{b f:bC}{l:du}{pr:List Rw}{g:Option Str}{u dn:Str}{t:Tr}(r:s.af[h]?=some (vs,e++ [b,f]))(y:f.room=i)(p:s.aj[i]?=some l)(v:s.aj.length<=900)(A:s.af.length<=900)
  (z:progOf w h b=some pr) (C:1<=b.row) (k:pr[(b.row-1).toNat]?=some (.do_ g u dn t))
  (j:∀a:aM,a={s with aj:=s.aj.set i (bR l),af:=s.af.set h (vs,e++ [b])}->match g with|none=>n=a|some x=>Puts w a h x f.told n)
  (q:Q (.d n.d) S):Fn gf [w.d,s.d,.int h] S Q:=by
 have B:h<s.af.length:=(gQs.mp r).1
 refine bD ?_
 unfold lU
 symm
 apply au rfl ?_
 refine au (d:=xK (vs,e++ [b,f])) (aL (by rw[gQm,r];rfl)) ?_
 refine dE rfl (ay (aQ (ay (aQ (a7 ?_)))))
 have m:(e++ [b,f]).map bC.d=e.map bC.d++ [b.d,f.d]:=by simp
 dsimp only
 rw[m]
 symm
 apply qQ ?_
 refine⟨1,rfl,?_⟩
 refine au (d:=f.d) (vb (by simp)) ?_
 refine dE rfl (ay (aQ (ay (aQ (ay (aQ (ay (aQ (ay (aQ (a7 ?_)))))))))))
 rw[y]
 symm
 apply tw p v ?_
 apply ik ?_
 apply bV (bW (qQ ?_))
 refine⟨1,rfl,_,rfl,_,rfl,?_⟩
 rw[ve (by simp)]
 have o:D.tup ((e.map bC.d++ [b.d,f.d]).dropLast)=.tup ((e++ [b]).map bC.d):=by
  rw[show e.map bC.d++ [b.d,f.d]=(e.map bC.d++ [b.d])++ [f.d] by simp,List.dropLast_concat]
  simp
 rw[o]
 symm
 refine eS (s:={s with aj:=s.aj.set i (bR l)}) B A ?_
 have j:=j _ rfl
 dsimp only at j⊢
 generalize ({s with aj:=s.aj.set i (bR l),af:=s.af.set h (vs,e++ [b])}:aM)=a at j⊢
 symm
 apply qQ ?_
 refine⟨2,rfl,?_⟩
 apply au (d:=b.d) qS ?_
 apply eg z ?_
 apply qQ ?_
 refine⟨2,rfl,?_⟩
 apply au (d:=b.d) qS ?_
 apply au (d:=.int b.row) rfl ?_
 refine au (d:=(Rw.do_ g u dn t).d) (jk (by omega) (by rw[gQm,k];rfl)) ?_
 symm
 apply au (d:=ED g) rfl ?_
 refine zD ?_
 cases g with
 | none=>
   dsimp only at j
   subst j
   apply bu (λ_=> ?_) (λc=>by cases c)
   exact bH (aJ _) (aM.low _) q
 | some x=>
   apply bu (λc=>by cases c) (λ_=>cD ?_)
   apply au (d:=.str x) rfl ?_
   refine j _ _ ?_
   exact bH (aJ _) (aM.low _) q
end
section
variable{S:aC}{Q:Res->aC->Prop}
def GP(h:Nat):Option Int->D
 |none=>.non
 |some v=>.tup [.int h,.int v]
def BV(h:Nat)(e:Option Int):bJ 0 (GP h e)=true:=by cases e <;>rfl
def ET(s:aM)(h:Nat)(e:Option Int):D:=.tup [s.d,GP h e]
def sW(s:aM)(h:Nat)(e:Option Int):bJ 0 (ET s h e)=true:=by
 simp only[ET,bJ,bz,BV,aM.low,Bool.and_true]
def qo(w:cz)(s:aM)(h:Nat)(a:aM)(e:Option Int):Prop:=∀(S:aC) (Q:Res->aC->Prop),Q (.d (ET a h e)) S->Fn kN [w.d,s.d,.int h] S Q
def yr{w:cz}{s:aM}{h i:Nat}{vs:List Int}{fs:List bC}{f:bC}{a:du}(l:s.af[h]?=some (vs,fs))(e:fs.getLast? =some f)(j:f.room=i)(b:s.aj[i]?=some a)(c:a.within≠h)(g:s.aj.length<=900)(m:a.row.length<=900):
  qo w s h {s with aj:=s.aj.set i (gG a h)} none:=by
 intro S Q q
 refine bD ?_
 unfold iO
 symm
 apply bj l e ?_
 apply au (d:=.int f.room) rfl ?_
 refine jB ?_
 dsimp only
 rw[Qdq (show¬f.room= -1 by omega),j]
 show if (true=true) then _ else _
 rw[Qhq rfl]
 symm
 apply au rfl ?_
 refine au (d:=a.d) (aL (by rw[gQm,b];rfl)) ?_
 symm
 apply au (d:=.int a.within) rfl ?_
 refine jB ?_
 dsimp only
 rw[Qdq c]
 show if (true=true) then _ else _
 rw[Qhq rfl]
 symm
 apply oM b g m ?_
 refine⟨by show 2<=_;decide,?_⟩
 exact bH (d:=ET _ h none) (λk z=>(nomatch z)) (sW _ _ _) q
def Here(s:aM)(h:Nat)(f:bC):Prop:=f.room= -1\/∃(i:Nat) (a:du),f.room=i/\s.aj[i]?=some a/\a.within=h
def qF{w:cz}{s:aM}{h:Nat}{f:bC}{a b c d:Option D}{Q:Bool->aC->Prop}(k:Here s h f)(q:Q false S):E (tX (bc (aW (fI true) (av 4) (cF (.int (-1))))) (bc (aW (fI true) (aW s_ (aW s_ (aW s_ (av 1) (cF (.int 0))) (av 4)) (cF (.int 1))) (av 2)))) [some w.d,some s.d,some (.int h),some f.d,some (.int f.room),a,b,c] S Q:=by
 rcases k with e|⟨i,j,e,g,l⟩
 ·symm
  refine jB ?_
  dsimp only
  rw[Qeq e]
  show if (false=true) then _ else _
  rw[Quq (by decide)]
  exact q
 ·symm
  refine jB ?_
  dsimp only
  rw[Qdq (show¬f.room= -1 by omega),e]
  show if (true=true) then _ else _
  rw[Qhq rfl]
  symm
  apply au rfl ?_
  refine au (d:=j.d) (aL (by rw[gQm,g];rfl)) ?_
  symm
  apply au (d:=.int j.within) rfl ?_
  refine jB ?_
  dsimp only
  rw[Qeq l]
  exact q
def ur{w:cz}{s b:aM}{h:Nat}{vs:List Int}{fs:List bC}{f:bC}{pr:List Rw}(g:s.af[h]?=some (vs,fs))(e:fs.getLast? =some f)(j:Here s h f)(i:progOf w h f=some pr)(a:f.row=pr.length)
  (he:∀(S:aC) (Q:Res->aC->Prop),Q (.d b.d) S->Fn gf [w.d,s.d,.int h] S Q):qo w s h b none:=by
 intro S Q q
 refine bD ?_
 unfold iO
 symm
 apply bj g e ?_
 refine au (d:=.int f.room) rfl ?_
 refine bZ (hU (qF (d:=none) j ?_))
 apply bu (λc=>by cases c) (λ_=>cD ?_)
 apply eg i ?_
 apply au (d:=.int f.row) rfl ?_
 refine ic ?_
 dsimp only
 rw[lQm,Qeq a,Qhq rfl]
 symm
 apply he _ _ ?_
 refine⟨by show 2<=_;decide,?_⟩
 exact bH (d:=ET _ h none) (λk z=>(nomatch z)) (sW _ _ _) q
def Dr(w:cz)(s:aM)(h:Nat)(r:Rw)(e:Option Int):Prop:=match r with
 |.say t=>∃v,e=some v/\vS w s h t v
 |_=>e=none
def t7{w:cz}{s n:aM}{h:Nat}{vs:List Int}{fs:List bC}{f:bC}{pr:List Rw}{r:Rw}{e:Option Int}(m:s.af[h]?=some (vs,fs))(j:fs.getLast? =some f)(B:Here s h f)(x:progOf w h f=some pr)(y:0<=f.row)(b:pr[f.row.toNat]?=some r)(C:fs.length<=900)(A:s.af.length<=900)
  (a:Dr w s h r e) (hd:Ew w {s with af:=s.af.set h (vs,fs.dropLast++ [{f with row:=f.row+1}])} h r n):qo w s h n e:=by
 intro S Q q
 have u:=(gQs.mp b).1
 refine bD ?_
 unfold iO
 symm
 apply bj m j ?_
 refine au (d:=.int f.room) rfl ?_
 refine bZ (hU (qF (d:=none) B ?_))
 apply bu (λc=>by cases c) (λ_=>cD ?_)
 apply eg x ?_
 apply au (d:=.int f.row) rfl ?_
 refine ic ?_
 dsimp only
 rw[lQm,Qdq (show¬f.row=(pr.length:Int) by omega),Quq (by decide)]
 apply cD ?_
 refine au (d:=.int f.row) rfl ?_
 refine au (d:=r.d) (jk y (by rw[gQm,b];rfl)) ?_
 symm
 obtain⟨l,F⟩:=r.d_kind
 have i:T (cH (aK (ar (aB gD (ar (av 0) (ar (aB gV (ar (av 1) (ar (av 2) (ar (aW bE (aW s_ (av 3) (cF (.int 2))) (cF (.int 1))) ax)))) (ar (av 2) (ar (av 6) ax))))) (ar (av 7) ax))))
   [some w.d,some s.d,some (.int h),some f.d,some (.int f.room),some (.tup (pr.map Rw.d)),some r.d,some (GP h e)] S (λo=>match o with
   |.nx _ g=>Op (settle S .non g) λp=>Q p.1 p.2|.rt d g=>Op (settle S d g) λp=>Q p.1 p.2|.rl l g=>Op (dQ S l g) λp=>Q p.1 p.2|_=>False):=by
  symm
  apply au (d:=.int f.row) rfl ?_
  apply lO m j C A ?_
  apply ue hd ?_
  refine⟨by show 2<=_;decide,?_⟩
  exact bH (d:=ET _ h e) (λk z=>(nomatch z)) (sW _ _ _) q
 cases r with
 | say t=>
   obtain⟨v,rfl,hv⟩:=a
   apply au (d:=.str "say") rfl ?_
   refine eQ ?_
   dsimp only
   rw[Qeq rfl,Qhq rfl]
   symm
   apply au (d:=t.d) rfl ?_
   apply hv _ _ ?_
   refine⟨by show 2<=_;decide,?_⟩
   exact i
 | _=>
   have a:e=none:=a
   subst a
   apply au rfl ?_
   refine eQ ?_
   dsimp only
   refine bu (λc=>absurd (QZq c) (by decide +kernel)) (λ_=>cD ?_)
   exact i
end
end W28
namespace DL
open PySem PySem.Spec L2
section
variable{Γ:cN}{S:aC}
def A5{f:aV}{g:dU}{Q:D->aC->Prop}(h:E f Γ S λx b=>∃k a,x=.ref k/\b[k]?=some (.lst a)/\E g Γ b λp S2=>∃ds,S2[k]?=some (.lst ds)/\(p.2.isL=false/\ds.length+p.1.length<=sizeLine)/\Q .non (S2.set k (.lst (ds++p.1)))):E (qI f g) Γ S Q:=by
 obtain⟨x,b,c,k,a,rfl,h1,p,S2,e2,ds,h2,h3,q⟩:=h
 exact⟨_,_,by unfold qI;rw[c];simp only[Qbq,e2,h1,h2];rw[Qhq h3],q⟩
end
def vV{S a:aC}{k:Nat}{ds:List D}{Q:Res×aC->Prop}(b:kT S a)(e:S.length<=k)(c:a[k]?=some (.lst ds))(d:bz S.length ds=true)(q:Q (.l ds,a.take S.length)):Op (settle S (.ref k) a) Q:=by
 refine⟨_,?_,q⟩
 unfold settle
 rw[Qhq b]
 show(if k<S.length then _ else _)=_
 rw[Quq (by omega),c]
 show(if bz S.length ds=true then _ else _)=_
 rw[Qhq d]
def sx{n:Nat}(h:n<=100000):n<=sizeLine:=QAq h (by decide)
theorem kf:∀a:List Int,iy (a.map D.int)=some (a.map V.int)
 | []=>rfl
 |s::a=>by simp only[QDq,iy,pQ,Qbq];rw[kf a];rfl
def xo{x:Int}{b:List Int}:xD (.int x) (b.map V.int)=decide (x∈b):=by
 induction b with
 |nil=>rfl
 | cons a b e=>
   show(kb (.int a) (.int x)||xD (.int x) (b.map V.int))=_
   rw[e]
   simp only[kb,Qsq]
   by_cases c:a=x
   · subst c;simp
   · have d:¬x=a:=λz=>c z.symm
     simp[c,d]
end DL
namespace W28
open PySem PySem.Spec L2 DL
section
variable{S:aC}{Q:Res->aC->Prop}
def uK{S b:aC}(x:nq S b):b.take S.length=S:=by
 apply List.ext_getElem?
 intro j
 by_cases a:j<S.length
 ·rw[List.getElem?_take_of_lt a]
  exact x.eq j a
 ·rw[List.getElem?_eq_none (by rw[Qxq];omega),List.getElem?_eq_none (by omega)]
def Dc{S a:aC}{ds:List D}{Q:Res->aC->Prop}(x:nq S a)(b:bz 0 ds=true)(q:Q (.l ds) S):Op (dQ S ds a) λp=>Q p.1 p.2:=
 nM ⟨x.len,λk o c e=>.inl (by rw[←x.eq k c];exact e)⟩ (uK x) (gu b) q
def EA{S a:aC}{k:Nat}{ds:List D}{Q:Res->aC->Prop}(x:nq S a)(b:S.length<=k)(c:a[k]?=some (.lst ds))(d:bz 0 ds=true)(q:Q (.l ds) S):Op (settle S (.ref k) a) λp=>Q p.1 p.2:=
 vV ⟨x.len,λk o b e=>.inl (by rw[←x.eq k b];exact e)⟩ b c (gu d) (by rw[uK x];exact q)
def ua{l:List (Int×Int)}(f:l.length<=1000)(q:Q (.l ((l.map (·.2)).map D.int)) S):Fn jh [c_ l] S Q:=by
 refine bD ?_
 unfold lA
 symm
 apply oz (α:=Int×Int) (λc=>∃a b,c= [a,b]) pairD (λp=>.int p.2) ⟨none,none,rfl⟩ ?_
 refine fD (ds:=l.map pairD) ?_
 refine⟨l,rfl,trivial,f,λp g c d=> ?_,?_⟩
 ·obtain⟨a,b,rfl⟩:=d
  refine dE rfl (ay (aQ (ay (aQ (a7 ?_)))))
  apply⟨rfl,⟨_,_,rfl⟩,?_⟩
  exact⟨rfl,rfl⟩
 ·have e:l.map (λp=>D.int p.2)=(l.map (·.2)).map D.int:=by rw[QPq];rfl
  rw[e]
  exact zA (bo λ_ _=>rfl) q
def dq(r:du):List Int:=r.row++r.ag++r.aa.flatMap λl=>l.map (·.2)
def held(s:aM):List Int:=s.ai.flatMap (·.2)++s.aj.flatMap dq
theorem gn{α d:Type}{f:α->List d}{n:Nat}:∀{l:List α},(∀a∈l,(f a).length<=n)->(l.flatMap f).length<=n*l.length
 | [],_=>by simp
 | a::l,h=>by
   have e:=h a (QBq ..)
   have g:=gn (f:=f) (l:=l) λb c=>h b (Qpq _ c)
   rw[QSq,lQa,Qnq,Nat.mul_add]
   omega
def jc{α b:Type}{f:α->List b}{l:List α}{n:Nat}{a:α}(h:l[n]?=some a):(l.take (n+1)).flatMap f=(l.take n).flatMap f++f a:=by
 rw[QYq,h]
 simp
def lC{s:aM}{n:Nat}(M:n<=100)(b1:s.ai.length<=100)(b2:s.aj.length<=20)(P:∀p∈s.ai,p.2.length<=n)(I:∀r∈s.aj,r.row.length<=n/\r.ag.length<=n/\r.aa.length<=10/\∀l∈r.aa,l.length<=n)
  (q:Q (.l ((held s).map D.int)) S):Fn cY [s.d] S Q:=by
 have X:∀o:List D,nq S (S++ [.lst o]):=λo=>nq.refl.app
 have C:∀r∈s.aj,∀j:Nat,((r.aa.take j).flatMap λl=>l.map (·.2)).length<=1000:=λr C j=>by
  obtain⟨_,_,R,U⟩:=I r C
  have F:=gn (f:=λl:List (Int×Int)=>l.map (·.2)) (n:=n) (l:=r.aa.take j) λl u=>by rw[lQm];exact U l (List.mem_of_mem_take u)
  have G:(r.aa.take j).length<=10:=by rw[Qxq];omega
  have h7:n*(r.aa.take j).length<=100*10:=Nat.mul_le_mul M G
  omega
 have L:∀r∈s.aj,(dq r).length<=1200:=λr h=>by
  have K:=C r h r.aa.length
  obtain⟨Y,R,_⟩:=I r h
  rw[QEq] at K
  simp only[dq,lQa]
  omega
 have y:∀j:Nat,((s.ai.take j).flatMap (·.2)).length<=10000:=λj=>by
  have F:=gn (f:=λp:Int×List Int=>p.2) (n:=n) (l:=s.ai.take j) λl u=>P l (List.mem_of_mem_take u)
  have G:(s.ai.take j).length<=100:=by rw[Qxq];omega
  have h7:n*(s.ai.take j).length<=100*100:=Nat.mul_le_mul M G
  omega
 have J:∀j:Nat,((s.aj.take j).flatMap dq).length<=24000:=λj=>by
  have F:=gn (f:=dq) (n:=1200) (l:=s.aj.take j) λl u=>L l (List.mem_of_mem_take u)
  have G:(s.aj.take j).length<=20:=by rw[Qxq];omega
  omega
 refine bD ?_
 unfold fw
 symm
 refine⟨by decide,?_⟩
 apply bZ (kC (vj ?_))
 refine au rfl ?_
 refine fD (ds:=s.ai.map xk) ?_
 refine⟨λj k v=>(∃a b c d e f g,k= [some s.d,some (.ref S.length),a,b,c,d,e,f,g])/\v=S++ [.lst (((s.ai.take j).flatMap (·.2)).map D.int)],⟨⟨_,_,_,_,_,_,_,rfl⟩,rfl⟩,λ_ _ _ _=>trivial,?_,?_⟩
 ·rintro j d k v t ⟨⟨a,b,c,H,e,f,g,rfl⟩,rfl⟩
  have t:(s.ai.map xk)[j]?=some d:=t
  rw[gQm] at t
  obtain⟨p,N,rfl⟩:=oQm.mp t
  refine dE rfl (ay (aQ (ay (aQ (a7 ?_)))))
  apply AD (A5 ?_)
  apply⟨_,_,rfl,bq,?_⟩
  refine fD (ds:=p.2.map D.int) ?_
  refine⟨_,bq,⟨rfl,?_⟩,⟨_,_,_,_,_,_,_,rfl⟩,?_⟩
  ·have:=y j
   have:=P p (mQg N)
   simp only[lQm]
   exact sx (by omega)
  ·rw[jc N,Qzq]
   simp
 rintro k v ⟨⟨a,b,c,H,e,f,g,rfl⟩,rfl⟩
 have u:(s.ai.map xk).length=s.ai.length:=lQm ..
 rw[u,QEq]
 apply bZ (kC (vj ?_))
 refine au rfl ?_
 refine fD (ds:=s.aj.map du.d) ?_
 refine⟨λj k v=>(∃a b c d e f g,k= [some s.d,some (.ref S.length),a,b,c,d,e,f,g])/\v=S++ [.lst ((s.ai.flatMap (·.2)++(s.aj.take j).flatMap dq).map D.int)],⟨⟨_,_,_,_,_,_,_,rfl⟩,by simp⟩,λ_ _ _ _=>trivial,?_,?_⟩
 ·rintro j d k v t ⟨⟨a,b,c,H,e,f,g,rfl⟩,rfl⟩
  have t:(s.aj.map du.d)[j]?=some d:=t
  rw[gQm] at t
  obtain⟨r,z,rfl⟩:=oQm.mp t
  have w:=mQg z
  obtain⟨Y,R,U,F⟩:=I r w
  have B:(s.ai.flatMap (·.2)++(s.aj.take j).flatMap dq).length<=34000:=by
   have:=y s.ai.length
   rw[QEq] at this
   have:=J j
   rw[lQa]
   omega
  generalize x:s.ai.flatMap (·.2)++(s.aj.take j).flatMap dq=o at B⊢
  refine dE rfl (ay (aQ (ay (aQ (ay (aQ (ay (aQ (ay (aQ (a7 ?_)))))))))))
  apply bZ (AD (A5 ?_))
  apply⟨_,_,rfl,bq,?_⟩
  refine bK (i:=r.row.map D.int) (j:=r.ag.map D.int) (by simp only[lQm];exact sx (by omega)) ?_
  refine fD ?_
  refine⟨_,bq,⟨rfl,?_⟩,?_⟩
  ·simp only[lQa,lQm]
   exact sx (by omega)
  dsimp only
  have W:(S++ [O.lst (o.map D.int)]).set S.length (.lst (o.map D.int++(r.row.map D.int++r.ag.map D.int)))=S++ [.lst ((o++(r.row++r.ag)).map D.int)]:=by simp
  rw[W]
  apply kC (vj ?_)
  refine⟨λj k v=>(∃a b c d e f g,k= [some s.d,some (.ref S.length),a,b,c,d,e,f,g])/\v=S++ [.lst ((o++(r.row++r.ag)++(r.aa.take j).flatMap λl=>l.map (·.2)).map D.int)],⟨⟨_,_,_,_,_,_,_,rfl⟩,by simp⟩,λ_ _ _ _=>trivial,?_,?_⟩
  ·rintro m d k v t ⟨⟨a,b,c,H,e,f,g,rfl⟩,rfl⟩
   have t:(r.aa.map c_)[m]?=some d:=t
   rw[gQm] at t
   obtain⟨l,A,rfl⟩:=oQm.mp t
   have Z:=F l (mQg A)
   refine aQ ?_
   apply AD (CN ?_)
   apply⟨_,_,rfl,bq,?_⟩
   apply ua (by omega) ?_
   refine⟨_,bq,⟨rfl,?_⟩,⟨_,_,_,_,_,_,_,rfl⟩,?_⟩
   ·have:=C r w m
    simp only[lQa,lQm]
    exact sx (by omega)
   ·rw[jc A,←Qvq,Qzq]
    simp
  ·rintro k v ⟨K,rfl⟩
   refine⟨K,?_⟩
   have u:(r.aa.map c_).length=r.aa.length:=lQm ..
   rw[u,QEq,jc z]
   subst x
   simp only[dq,Qvq]
 ·rintro k v ⟨⟨a,b,c,H,e,f,g,rfl⟩,rfl⟩
  have u:(s.aj.map du.d).length=s.aj.length:=lQm ..
  rw[u,QEq]
  symm
  exact EA (X _) (Qmq _) bq (bo λ_ _=>rfl) q
end
section
variable{S:aC}{Q:Res->aC->Prop}
def uX(s:aM)(h:Nat):Option bC:=(s.af[h]?).bind λp=>p.2.getLast?
def pe(w:cz)(s:aM)(h:Nat):Bool:=match uX s h with
 |some f=>decide (f.room= -1)&&decide (f.row=(((progOf w h f).getD []).length:Int))
 |none=>false
def mm{w:cz}{s:aM}{h:Nat}{vs:List Int}{fs:List bC}{f:bC}{pr:List Rw}(e:s.af[h]?=some (vs,fs))(b:fs.getLast? =some f)(a:progOf w h f=some pr)(q:Q (.d (.bl (pe w s h))) S):Fn dI [w.d,s.d,.int h] S Q:=by
 have g:pe w s h=(decide (f.room= -1)&&decide (f.row=(pr.length:Int))):=by
  unfold pe uX
  rw[e]
  show(match fs.getLast? with|some f=>_|none=>_)=_
  rw[b]
  simp only[a,Option.getD_some]
 rw[g] at q
 refine bD ?_
 unfold fE
 symm
 apply bj e b ?_
 apply sR ?_
 apply au (d:=.int f.room) rfl ?_
 refine ic ?_
 refine⟨_,rfl,?_⟩
 by_cases c:f.room= -1
 ·rw[Qeq c] at q⊢
  rw[Qhq rfl]
  symm
  apply au (d:=.int f.row) rfl ?_
  apply eg a ?_
  refine ic ?_
  rw[lQm]
  exact bH (λk z=>(nomatch z)) rfl q
 ·rw[Qdq c] at q⊢
  rw[Quq (by decide)]
  exact bH (λk z=>(nomatch z)) rfl q
def rR(w:cz)(s:aM):List Nat:=(List.range s.af.length).filter λh=> !decide ((h:Int)∈held s)&& !pe w s h
def cb(h:Nat):D:=.int h
def B0(w:cz)(s:aM):Prop:=∀(S:aC) (Q:Res->aC->Prop),Q (.l ((rR w s).map cb)) S->Fn jb [w.d,s.d] S Q
def tE{w:cz}{s:aM}(o:∀(S:aC) (Q:Res->aC->Prop),Q (.l ((held s).map D.int)) S->Fn cY [s.d] S Q)(g:∀h<s.af.length,∃vs fs f pr,s.af[h]?=some (vs,fs)/\fs.getLast? =some f/\progOf w h f=some pr)(p:s.af.length<=100):B0 w s:=by
 intro S Q q
 refine bD ?_
 unfold lD
 symm
 apply o _ _ ?_
 apply nB (α:=Nat) (λb=>∃a,b= [a,some w.d,some s.d,some (.ref S.length)]) (λ(i:Nat)=>D.int (0+(i:Int))) cb (λh=> !decide ((h:Int)∈held s)&& !pe w s h) ⟨none,rfl⟩ ?_
 apply au rfl ?_
 refine⟨_,rfl,?_,?_⟩
 ·simp only[lQm]
  omega
 refine⟨List.range s.af.length,?_,trivial,by simp;omega,λh j b e=> ?_,?_⟩
 ·simp only[pY,lQm]
  rfl
 ·obtain⟨a,rfl⟩:=e
  obtain⟨vs,fs,f,pr,m,k,n⟩:=g h (List.mem_range.mp j)
  refine aQ ⟨rfl,⟨_,rfl⟩,?_⟩
  rw[Int.zero_add]
  apply DN (sI (Bw ?_))
  refine dF (ds:=(held s).map D.int) bq ?_
  refine⟨_,_,rfl,kf _,?_⟩
  rw[xo]
  by_cases c:(h:Int)∈held s
  ·rw[Qeq c]
   refine bu (λc=>by cases c) (λ_=> ?_)
   exact⟨rfl,rfl,λc=>by cases c⟩
  ·rw[Qdq c]
   apply bu (λ_=> ?_) (λc=>by cases c)
   refine mm m k n ?_
   dsimp only
   refine vQ ?_
   apply⟨rfl,rfl,λ_=> ?_⟩
   exact⟨rfl,rfl⟩
 ·refine Dc (nq.refl.app) (bo λ_ _=>rfl) q
end
structure g6(n:Nat)(r:Rm)(rs:du):Prop where
 lv:r.ao.length=rs.vals.length
 lb:r.aa.length=rs.aa.length
 vv:∀v∈rs.vals,0<=v/\v<=9
 br:rs.row.length<=n
 bl:rs.ag.length<=n
 bb:∀l∈rs.aa,l.length<=n
structure AS(w:cz)(h:Nat)(f:bC):Prop where
 pr:∃pr,progOf w h f=some pr/\0<=f.row/\f.row<=pr.length
 gv:0<=f.given/\f.given<=9
 tv:0<=f.told/\f.told<=9
def HN(w:cz)(h:Nat)(f:bC):Prop:=∃a g c b t,progOf w h f=some a/\1<=f.row/\a[(f.row-1).toNat]?=some (.do_ g c b t)
def gq:List bC->Prop
 | []=>False
 |f0::tl=>f0.room= -1/\∀f∈tl,f.room≠-1
structure gd(w:cz)(n h:Nat)(ts:List (Str×Nat))(vs:List Int)(fs:List bC):Prop where
 lv:ts.length=vs.length
 vv:∀v∈vs,0<=v/\v<=9
 lf:fs.length<=n
 fr:∀f∈fs,AS w h f
 hd:gq fs
 ch:∀f∈fs.dropLast,HN w h f
structure cM(w:cz)(n:Nat)(s:aM):Prop where
 lr:w.aj.length=s.aj.length
 rm:∀(i:Nat) (r:Rm) (rs:du),w.aj[i]?=some r->s.aj[i]?=some rs->g6 n r rs
 lp:w.ai.length=s.ai.length
 ps:∀p∈s.ai,p.2.length<=n
 ls:w.ak.length=s.ak.length
 sv:∀v∈s.ak,0<=v/\v<=9
 lh:w.af.length=s.af.length
 hd:∀(h:Nat) (ts:List (Str×Nat)) (pr:List Rw) (vs:List Int) (fs:List bC),w.af[h]?=some (ts,pr)->s.af[h]?=some (vs,fs)->gd w n h ts vs fs
def g6.mono{n m:Nat}{r:Rm}{a:du}(h:g6 n r a)(l:n<=m):g6 m r a:=⟨h.lv,h.lb,h.vv,QAq h.br l,QAq h.bl l,λx b=>QAq (h.bb x b) l⟩
def gd.mono{w:cz}{n m h:Nat}{ts:List (Str×Nat)}{vs:List Int}{fs:List bC}(x:gd w n h ts vs fs)(l:n<=m):gd w m h ts vs fs:=⟨x.lv,x.vv,QAq x.lf l,x.fr,x.hd,x.ch⟩
def cM.mono{w:cz}{n m:Nat}{s:aM}(x:cM w n s)(l:n<=m):cM w m s:=⟨x.lr,λi r g a b=>(x.rm i r g a b).mono l,x.lp,λp d=>QAq (x.ps p d) l,x.ls,x.sv,x.lh,λh e c j f a b=>(x.hd h e c j f a b).mono l⟩
def get_set{α:Type}{l:List α}{i j:Nat}{a b:α}(h:(l.set i a)[j]?=some b):(j=i/\b=a)\/(j≠i/\l[j]?=some b):=by
 rw[List.getElem?_set] at h
 split at h
 ·rename_i c
  split at h
  ·cases h;exact .inl ⟨c.symm,rfl⟩
  ·cases h
 ·rename_i c
  exact .inr ⟨λz=>c z.symm,h⟩
def cM.room{w:cz}{n i:Nat}{s:aM}{r:Rm}{d:du}(x:cM w n s)(e:w.aj[i]?=some r)(g:g6 n r d):cM w n {s with aj:=s.aj.set i d} where
 lr:=by simpa using x.lr
 rm:=λj f c a b=>by
  rcases get_set b with⟨rfl,rfl⟩|⟨_,b⟩
  ·rw[e] at a;cases a;exact g
  ·exact x.rm j f c a b
 lp:=x.lp
 ps:=x.ps
 ls:=x.ls
 sv:=x.sv
 lh:=x.lh
 hd:=x.hd
def cM.pass{w:cz}{n i:Nat}{s:aM}{p:Int×List Int}(x:cM w n s)(b:p.2.length<=n):cM w n {s with ai:=s.ai.set i p} where
 lr:=x.lr
 rm:=x.rm
 lp:=by simpa using x.lp
 ps:=λq a=>by
  rcases QTq a with a|rfl
  ·exact x.ps q a
  ·exact b
 ls:=x.ls
 sv:=x.sv
 lh:=x.lh
 hd:=x.hd
def cM.share{w:cz}{n:Nat}{s:aM}{vs:List Int}(x:cM w n s)(a:vs.length=s.ak.length)(b:∀v∈vs,0<=v/\v<=9):cM w n {s with ak:=vs}:=⟨x.lr,x.rm,x.lp,x.ps,by rw[x.ls,←a],b,x.lh,x.hd⟩
def cM.hand{w:cz}{n h:Nat}{s:aM}{ts:List (Str×Nat)}{pr:List Rw}{vs:List Int}{fs:List bC}(x:cM w n s)(i:w.af[h]?=some (ts,pr))(k:gd w n h ts vs fs):cM w n {s with af:=s.af.set h (vs,fs)} where
 lr:=x.lr
 rm:=x.rm
 lp:=x.lp
 ps:=x.ps
 ls:=x.ls
 sv:=x.sv
 lh:=by simpa using x.lh
 hd:=λj b f a g d c=>by
  rcases get_set c with⟨rfl,e⟩|⟨_,c⟩
  ·rw[i] at d;cases d;cases e;exact k
  ·exact x.hd j b f a g d c
def j6{α:Type}{l:List α}{a:α}(h:l.getLast? =some a):l=l.dropLast++ [a]:=by
 cases l with
 |nil=>cases h
 | cons x y=>
   have b:x::y≠[]:=by simp
   rw[List.getLast?_eq_some_getLast b] at h
   cases h
   exact(List.dropLast_concat_getLast b).symm
def gq.last{fs:List bC}{f f':bC}:∀{c:List bC},gq (c++ [f])->f'.room=f.room->gq (c++ [f'])
 | [],h,e=>⟨by rw[e];exact h.1,λ_ z=>by cases z⟩
 | a::l,h,e=>⟨h.1,λx b=>by
   rcases mQa.mp b with b|b
   · exact h.2 x (mQa.mpr (.inl b))
   · rw[Qfq.mp b,e];exact h.2 f (mQa.mpr (.inr (Qfq.mpr rfl)))⟩
def gq.push{f':bC}:∀{fs:List bC},gq fs->f'.room≠-1->gq (fs++ [f'])
 | [],h,_=>h.elim
 | a::l,h,e=>⟨h.1,λx b=>by
   rcases mQa.mp b with b|b
   · exact h.2 x b
   · rw[Qfq.mp b];exact e⟩
def gq.pop{c f:bC}:∀{d:List bC},gq (d++ [c,f])->gq (d++ [c])
 | [],h=>⟨h.1,λ_ z=>by cases z⟩
 | a::l,h=>⟨h.1,λx b=>h.2 x (by
   rcases mQa.mp b with b|b
   · exact mQa.mpr (.inl b)
   · exact mQa.mpr (.inr (by rw[Qfq.mp b];simp)))⟩
def gq.two{f:bC}:∀{b:List bC},gq (b++ [f])->f.room≠-1->∃d c,b=d++ [c]
 | [],h,e=>absurd h.1 e
 |a::l,h,e=>⟨(a::l).dropLast,(a::l).getLast (by simp),(List.dropLast_concat_getLast (by simp)).symm⟩
section
variable{w:cz}{n h:Nat}{ts:List (Str×Nat)}{vs:List Int}{fs:List bC}{f f' f2:bC}
def gd.setLast(x:gd w n h ts vs fs)(d:fs.getLast? =some f)(e:f'.room=f.room)(i:AS w h f'):gd w n h ts vs (fs.dropLast++ [f']):=by
 have c:=j6 d
 have b:=x.hd
 rw[c] at b
 refine⟨x.lv,x.vv,?_,λg a=> ?_,gq.last (fs:=fs) b e,λg a=> ?_⟩
 ·have:=congrArg List.length c
  have:=x.lf
  simp only[lQa,Qnq,QGq] at *
  omega
 ·rcases mQa.mp a with a|a
  ·exact x.fr g (List.dropLast_subset _ a)
  ·rw[Qfq.mp a];exact i
 ·rw[List.dropLast_concat] at a
  exact x.ch g a
def gd.push(x:gd w n h ts vs fs)(b:fs.getLast? =some f)(d:HN w h f)(e:f'.room≠-1)(i:AS w h f'):gd w (n+1) h ts vs (fs++ [f']):=by
 refine⟨x.lv,x.vv,?_,λg a=> ?_,x.hd.push e,λg a=> ?_⟩
 ·have:=x.lf
  simp only[lQa,Qnq,QGq]
  omega
 ·rcases mQa.mp a with a|a
  ·exact x.fr g a
  ·rw[Qfq.mp a];exact i
 ·rw[List.dropLast_concat,j6 b] at a
  rcases mQa.mp a with a|a
  ·exact x.ch g a
  ·rw[Qfq.mp a];exact d
def gd.pop{b:List bC}(x:gd w n h ts vs (b++ [f2,f])):gd w n h ts vs (b++ [f2])/\HN w h f2:=by
 have e:(b++ [f2,f]).dropLast=b++ [f2]:=by rw[show b++ [f2,f]=(b++ [f2])++ [f] by simp,List.dropLast_concat]
 have c:=x.ch
 rw[e] at c
 refine⟨⟨x.lv,x.vv,?_,λg a=>x.fr g ?_,x.hd.pop,λg a=>c g ?_⟩,c f2 (by simp)⟩
 ·have:=x.lf
  simp only[lQa,Qnq,QGq] at *
  omega
 ·rcases mQa.mp a with a|a
  ·exact mQa.mpr (.inl a)
  ·exact mQa.mpr (.inr (by rw[Qfq.mp a];simp))
 ·rw[List.dropLast_concat] at a
  exact mQa.mpr (.inl a)
def gd.vals{a:List Int}(x:gd w n h ts vs fs)(b:a.length=vs.length)(c:∀v∈a,0<=v/\v<=9):gd w n h ts a fs:=⟨by rw[x.lv,b],c,x.lf,x.fr,x.hd,x.ch⟩
def gd.last(x:gd w n h ts vs fs):∃f,fs.getLast? =some f/\AS w h f:=by
 have:=x.hd
 cases fs with
 |nil=>exact this.elim
 | cons a l=>
   refine⟨_,List.getLast?_eq_some_getLast (by simp),x.fr _ (List.getLast_mem (by simp))⟩
end
def j2{w:cz}{h:Nat}{f:bC}{pr:List Rw}(a:progOf w h f=some pr):(f.room= -1/\∃ts,w.af[h]?=some (ts,pr))\/∃(i j:Nat) (r:Rm) (dn:Str),f.room=i/\f.deed=j/\w.aj[i]?=some r/\r.ae[j]?=some (dn,pr):=by
 unfold progOf at a
 split at a
 ·rename_i c
  obtain⟨⟨ts,e⟩,b,d⟩:=oQm.mp a
  cases d
  exact .inl ⟨c,ts,b⟩
 ·split at a
  ·rename_i c
   obtain⟨r,b,d⟩:=aq a
   obtain⟨⟨dn,e⟩,k,g⟩:=oQm.mp d
   cases g
   exact .inr ⟨f.room.toNat,f.deed.toNat,r,dn,by omega,by omega,b,k⟩
  ·cases a
def y4{w:cz}{h i j:Nat}{f:bC}{r:Rm}{dn:Str}{pr:List Rw}(a:f.room=i)(b:f.deed=j)(c:w.aj[i]?=some r)(d:r.ae[j]?=some (dn,pr)):progOf w h f=some pr:=by
 unfold progOf
 rw[Quq (by omega),Qhq ⟨by omega,by omega⟩,a,b]
 show(w.aj[i]?).bind _=_
 rw[c]
 show(r.ae[j]?).map _=_
 rw[d]
 rfl
def yq(w:cz)(h:Nat)(f:bC):Option Sc:=if f.room= -1 then(w.af[h]?).map λp=>⟨true,p.1.map (·.1)++w.ak.map (·.1),p.1.map (·.1)++w.ak.map (·.1),[],dG w.aj,w.ai.map (·.1)⟩
 else(w.aj[f.room.toNat]?).map λr=>⟨false,r.ao.map (·.1)++ir,r.ao.map (·.1),r.aa.map (·.1),dG w.aj,[]⟩
def zI{w:cz}{h:Nat}{f:bC}{pr:List Rw}(o:cU w)(e:progOf w h f=some pr):∃d,yq w h f=some d/\De d pr:=by
 unfold yq
 rcases j2 e with⟨c,m,a⟩|⟨i,j,r,l,a,k,b,g⟩
 ·rw[Qhq c,a]
  exact⟨_,rfl,(o.hd _ (mQg a)).pr⟩
 ·rw[Quq (by omega),a]
  refine⟨_,by rw[show((i:Int)).toNat=i by omega,b];rfl,((o.rm _ (mQg b)).pr _ (mQg g)).1⟩
def yM{w:cz}(o:cU w):cM w 1 (cv w) where
 lr:=by simp[cv]
 rm:=λi r m c d=>by
  simp only[cv,gQm,c,Option.map_some,Option.some.injEq] at d
  subst d
  have g:=o.rm r (mQg c)
  refine⟨by simp[c7,dh],by simp[c7],λv b=> ?_,by simp[c7],by simp[c7],λl j=> ?_⟩
  ·simp only[c7,dh,Qkq] at b
   obtain⟨p,a,rfl⟩:=b
   have:=g.tv p a
   omega
  ·simp only[c7,Qkq] at j
   obtain⟨p,a,rfl⟩:=j
   simp
 lp:=by simp[cv]
 ps:=λp a=>by
  simp only[cv,Qkq] at a
  obtain⟨p,a,rfl⟩:=a
  simp
 ls:=by simp[cv,dh]
 sv:=λv b=>by
  simp only[cv,dh,Qkq] at b
  obtain⟨p,a,rfl⟩:=b
  have:=o.sv p a
  omega
 lh:=by simp[cv]
 hd:=λh s k n q c d=>by
  simp only[cv,gQm,c,Option.map_some,Option.some.injEq] at d
  cases d
  have g:=o.hd _ (mQg c)
  refine⟨by simp[dh],λv b=> ?_,by simp,λf e=> ?_,⟨rfl,λ_ z=>by cases z⟩,λf e=>by cases e⟩
  ·simp only[dh,Qkq] at b
   obtain⟨p,a,rfl⟩:=b
   have:=g.tv p a
   omega
  ·rw[Qfq.mp e]
   refine⟨⟨k,?_,by decide,?_⟩,by decide,by decide⟩
   ·unfold progOf
    rw[Qhq (show yJ.room= -1 from rfl),c]
    rfl
   ·show(0:Int)<=_
    omega
def xp(s:aM)(h:Nat):List Int×List bC:=(s.af[h]?).getD ([],[])
def Fe(w:cz)(h:Nat):List (Str×Nat)×List Rw:=(w.af[h]?).getD ([],[])
def eK(s:aM)(h:Nat):bC:=((xp s h).2.getLast?).getD yJ
def yj(w:cz)(i:Nat):Rm:=(w.aj[i]?).getD ⟨"","",[],[],[]⟩
def va(s:aM)(i:Nat):du:=(s.aj[i]?).getD ⟨[],0,[],[],[]⟩
def C1(s:aM)(k:Nat):Int×List Int:=(s.ai[k]?).getD (0,[])
def yx(s:aM)(h:Nat)(f:bC):aM:={s with af:=s.af.set h ((xp s h).1,(xp s h).2.dropLast++ [f])}
def mq(s:aM)(i:Nat)(r:du):aM:={s with aj:=s.aj.set i r}
def t4(s:aM)(k:Nat)(p:Int×List Int):aM:={s with ai:=s.ai.set k p}
def cO(w:cz)(s:aM)(h:Nat)(t:Tr):Int:=
 if (eK s h).room= -1 then qy (numAt (wm w s (Fe w h).1 (xp s h).1)) (λ_=>0) t
 else qy (numAt (mF (yj w (eK s h).room.toNat) (va s (eK s h).room.toNat) (eK s h).given)) (mK (yj w (eK s h).room.toNat) (va s (eK s h).room.toNat)) t
def m3(w:cz)(s:aM)(h:Nat)(x:Str)(v:Int):aM:=
 if (eK s h).room= -1 then lZ w s h (Fe w h).1 (xp s h).1 (xp s h).2 x v
 else mq s (eK s h).room.toNat {va s (eK s h).room.toNat with vals:=bU ((yj w (eK s h).room.toNat).ao.map (·.1)) (va s (eK s h).room.toNat).vals x v}
def mQ(r:Rm)(a:du)(b:Str)(v:Int)(h:Nat):du:=
 bR {a with aa:=a.aa.set (cn (r.aa.map (·.1)) b) (gA ((a.aa[cn (r.aa.map (·.1)) b]?).getD []) (if ((r.aa[cn (r.aa.map (·.1)) b]?).getD ("","")).2="turns" then v else 0) h)}
def ij(w:cz)(s:aM)(h:Nat):Rw->aM
 |.put x t=>m3 w s h x (cO w s h t)
 |.unl t n=>if cO w s h t=0 then yx s h {eK s h with row:=n} else s
 |.go n=>yx s h {eK s h with row:=n}
 |.do_ _ a c t=>mq {s with af:=s.af.set h ((xp s h).1,(xp s h).2++ [⟨(cn (w.aj.map (·.name)) a:Nat),(cn ((yj w (cn (w.aj.map (·.name)) a)).ae.map (·.1)) c:Nat),0,cO w s h t,0⟩])} (cn (w.aj.map (·.name)) a) (gG (va s (cn (w.aj.map (·.name)) a)) h)
 |.wait b t=>mq s (eK s h).room.toNat (mQ (yj w (eK s h).room.toNat) (va s (eK s h).room.toNat) b (cO w s h t) h)
 |.call b=>mq s (eK s h).room.toNat (jE (decide ((yj w (eK s h).room.toNat).ah="when free")) (va s (eK s h).room.toNat) (cn ((yj w (eK s h).room.toNat).aa.map (·.1)) b) h)
 |.all b=>mq s (eK s h).room.toNat {va s (eK s h).room.toNat with aa:=(va s (eK s h).room.toNat).aa.set (cn ((yj w (eK s h).room.toNat).aa.map (·.1)) b) []}
 |.tell t=>yx s h {eK s h with told:=cO w s h t}
 |.take p=>t4 s (cn (w.ai.map (·.1)) p) (gk (C1 s (cn (w.ai.map (·.1)) p)) h)
 |.give p=>t4 s (cn (w.ai.map (·.1)) p) (eG (C1 s (cn (w.ai.map (·.1)) p)))
 |.pass p q=>t4 (t4 s (cn (w.ai.map (·.1)) p) (eG (C1 s (cn (w.ai.map (·.1)) p)))) (cn (w.ai.map (·.1)) q) (gk (C1 (t4 s (cn (w.ai.map (·.1)) p) (eG (C1 s (cn (w.ai.map (·.1)) p)))) (cn (w.ai.map (·.1)) q)) h)
 |.say _=>s
def sE(s:aM)(h:Nat):aM:=mq {s with af:=s.af.set h ((xp s h).1,(xp s h).2.dropLast)} (eK s h).room.toNat (bR (va s (eK s h).room.toNat))
def BC(w:cz)(s:aM)(h:Nat):Option Rw:=(progOf w h (eK s h)).bind λa=>a[((eK s h).row-1).toNat]?
def wc(w:cz)(s:aM)(h:Nat):aM:=match BC w (sE s h) h with
 |some (.do_ (some x) _ _ _)=>m3 w (sE s h) h x (eK s h).told
 |_=>sE s h
def oh(s:aM)(h:Nat):aM:=yx s h {eK s h with row:=(eK s h).row+1}
def A4(w:cz)(s:aM)(h:Nat):Rw->Option Int
 |.say t=>some (cO w s h t)
 |_=>none
def dP(w:cz)(s:aM)(h:Nat):aM×Option Int:=
 if (eK s h).room≠-1/\(va s (eK s h).room.toNat).within≠h then(mq s (eK s h).room.toNat (gG (va s (eK s h).room.toNat) h),none)
 else match progOf w h (eK s h) with
  |none=>(s,none)
  | some a=>if (eK s h).row=a.length then(wc w s h,none) else match a[(eK s h).row.toNat]? with
    |none=>(s,none)
    |some r=>(ij w (oh s h) h r,A4 w s h r)
section
variable{w:cz}{h:Nat}{s:aM}{vs:List Int}{fs:List bC}{f:bC}
def gX(a:s.af[h]?=some (vs,fs)):xp s h=(vs,fs):=by unfold xp;rw[a];rfl
def cZ(b:s.af[h]?=some (vs,fs))(a:fs.getLast? =some f):eK s h=f:=by unfold eK;rw[gX b];show(fs.getLast?).getD _=f;rw[a];rfl
def wj{p:List (Str×Nat)×List Rw}(a:w.af[h]?=some p):Fe w h=p:=by unfold Fe;rw[a];rfl
def lP{i:Nat}{r:Rm}(a:w.aj[i]?=some r):yj w i=r:=by unfold yj;rw[a];rfl
def fY{i:Nat}{r:du}(a:s.aj[i]?=some r):va s i=r:=by unfold va;rw[a];rfl
def rV{i:Nat}{p:Int×List Int}(a:s.ai[i]?=some p):C1 s i=p:=by unfold C1;rw[a];rfl
def fQ{g:bC}(a:s.af[h]?=some (vs,fs)):yx s h g={s with af:=s.af.set h (vs,fs.dropLast++ [g])}:=by unfold yx;rw[gX a]
end
section
variable{w:cz}{n h:Nat}{s:aM}{vs:List Int}{fs:List bC}{f:bC}{sc:Sc}
def cM.whand(x:cM w n s)(b:s.af[h]?=some (vs,fs)):∃ts pr,w.af[h]?=some (ts,pr)/\gd w n h ts vs fs:=by
 have a:h<w.af.length:=by rw[x.lh];exact(gQs.mp b).1
 exact⟨_,_,gQe a,x.hd h _ _ vs fs (gQe a) b⟩
def cM.wroom{i:Nat}{r:Rm}(x:cM w n s)(c:w.aj[i]?=some r):∃b,s.aj[i]?=some b/\g6 n r b:=by
 have a:i<s.aj.length:=by rw[←x.lr];exact(gQs.mp c).1
 exact⟨_,gQe a,x.rm i r _ c (gQe a)⟩
def i4{t:Sc}(a:yq w h f=some t):(f.room= -1/\∃ts pr,w.af[h]?=some (ts,pr)/\t=⟨true,ts.map (·.1)++w.ak.map (·.1),ts.map (·.1)++w.ak.map (·.1),[],dG w.aj,w.ai.map (·.1)⟩)∨
  (f.room≠-1/\∃r,w.aj[f.room.toNat]?=some r/\t=⟨false,r.ao.map (·.1)++ir,r.ao.map (·.1),r.aa.map (·.1),dG w.aj,[]⟩):=by
 unfold yq at a
 split at a
 ·rename_i c
  obtain⟨⟨ts,pr⟩,b,d⟩:=oQm.mp a
  exact .inl ⟨c,ts,pr,b,d.symm⟩
 ·rename_i c
  obtain⟨r,b,d⟩:=oQm.mp a
  exact .inr ⟨c,r,b,d.symm⟩
def lX(x:AS w h f)(c:f.room≠-1):f.room=(f.room.toNat:Int):=by
 obtain⟨d,a,_⟩:=x.pr
 rcases j2 a with⟨b,_⟩|⟨i,_,_,_,e,_⟩
 ·exact absurd b c
 ·omega
def je{t:Tr}(o:cU w)(x:cM w n s)(d:s.af[h]?=some (vs,fs))(i:fs.getLast? =some f)(z:yq w h f=some sc)(e:EH sc t):(0<=cO w s h t/\cO w s h t<=9)/\vS w s h t (cO w s h t):=by
 obtain⟨A,M,p,j⟩:=x.whand d
 have I:=o.hd _ (mQg p)
 have u:=j.fr f (QcQ i)
 have K:=o.l3
 have H:=I.l1
 have C:=x.ls
 rcases i4 z with⟨c,G,F,k,rfl⟩|⟨c,r,hr,rfl⟩
 ·rw[p] at k
  cases k
  have a:i0 (wm w s A vs):=i0.merge (eX x.sv) (eX j.vv)
  have B:cO w s h t=qy (numAt (wm w s A vs)) (λ_=>0) t:=by unfold cO;rw[cZ d i,Qhq c,wj p,gX d]
  rw[B]
  refine⟨?_,λS Q q=>qT p d i c C j.lv (by omega) (by dsimp only at H;omega) x.sv j.vv e.1 (by have:=e.2;omega) q⟩
  refine jn (ws:=A.map (·.1)++w.ak.map (·.1)) (bs:= []) (λy b=> ?_) e.1
  refine(kj a (eE ?_)).2
  rcases mQa.mp b with b|b
  ·exact .inr (eY j.lv b)
  ·exact .inl (eY C b)
 ·obtain⟨v,m,g⟩:=x.wroom hr
  have l:=o.rm r (mQg hr)
  have L:=l.l1
  have J:=l.l2
  have a:i0 (mF r v f.given):=(eX g.vv).put u.gv.1 u.gv.2
  have B:cO w s h t=qy (numAt (mF r v f.given)) (mK r v) t:=by unfold cO;rw[cZ d i,Quq c,lP hr,fY m]
  rw[B]
  refine⟨?_,λS Q q=>pW d i (lX u c) hr m g.lv g.lb (by omega) (by omega) g.vv u.gv e.1 (by have:=e.2;omega) q⟩
  refine jn (ws:=r.ao.map (·.1)++ir) (bs:=r.aa.map (·.1)) (λy b=> ?_) e.1
  refine(kj a (jj ?_)).2
  rcases mQa.mp b with b|b
  ·exact .inr (eY g.lv b)
  ·left
   rw[Qfq.mp b]
def j3{ns:List Str}{y:Str}{v:Int}{a:List Int}(c:∀v∈a,0<=v/\v<=9)(d:0<=v/\v<=9):(bU ns a y v).length=a.length/\∀u∈bU ns a y v,0<=u/\u<=9:=by
 unfold bU
 refine⟨by simp,λz b=> ?_⟩
 rcases QTq b with b|rfl
 ·exact c z b
 ·exact d
def xt{y:Str}{v:Int}(o:cU w)(x:cM w n s)(b:s.af[h]?=some (vs,fs))(g:fs.getLast? =some f)(m:yq w h f=some sc)(A:y∈sc.ps)(p:0<=v/\v<=9):Puts w s h y v (m3 w s h y v)/\cM w n (m3 w s h y v):=by
 obtain⟨B,M,d,l⟩:=x.whand b
 have I:=o.hd _ (mQg d)
 have H:=l.fr f (QcQ g)
 have R:=o.l1
 have J:=o.l3
 have G:=I.l1
 have P:=o.l4
 have K:=x.lr
 have N:=x.lh
 rcases i4 m with⟨c,F,C,k,rfl⟩|⟨c,r,hr,rfl⟩
 ·rw[d] at k
  cases k
  have u:m3 w s h y v=lZ w s h B vs fs y v:=by unfold m3;rw[cZ b g,Qhq c,wj d,gX b]
  rw[u]
  refine⟨λS Q q=>Cc d b g c x.ls l.lv (by omega) (by dsimp only at G;omega) (by omega) A q,?_⟩
  unfold lZ
  split
  ·obtain⟨i,e⟩:=j3 (ns:=w.ak.map (·.1)) (y:=y) x.sv p
   exact x.share i e
  ·obtain⟨i,e⟩:=j3 (ns:=B.map (·.1)) (y:=y) l.vv p
   exact x.hand d (l.vals i e)
 ·obtain⟨z,j,a⟩:=x.wroom hr
  have t:=o.rm r (mQg hr)
  have L:=t.l1
  have u:m3 w s h y v={s with aj:=s.aj.set f.room.toNat {z with vals:=bU (r.ao.map (·.1)) z.vals y v}}:=by unfold m3;rw[cZ b g,Quq c,lP hr,fY j];rfl
  rw[u]
  refine⟨λS Q q=>An b g (lX H c) hr j a.lv (by omega) (by omega) A q,?_⟩
  obtain⟨i,e⟩:=j3 (ns:=r.ao.map (·.1)) (y:=y) a.vv p
  exact x.room hr ⟨by rw[a.lv,←i],a.lb,e,a.br,a.bl,a.bb⟩
def cM.goes{m:Int}{pr:List Rw}(x:cM w n s)(k:s.af[h]?=some (vs,fs))(a:fs.getLast? =some f)(d:progOf w h f=some pr)(g:0<=m)(e:m<=pr.length):cM w n {s with af:=s.af.set h (vs,fs.dropLast++ [{f with row:=m}])}:=by
 obtain⟨l,i,j,c⟩:=x.whand k
 have b:=c.fr f (QcQ a)
 exact x.hand j (c.setLast a rfl ⟨⟨pr,d,g,e⟩,b.gv,b.tv⟩)
def cM.tells{v:Int}(x:cM w n s)(i:s.af[h]?=some (vs,fs))(a:fs.getLast? =some f)(g:0<=v/\v<=9):cM w n {s with af:=s.af.set h (vs,fs.dropLast++ [{f with told:=v}])}:=by
 obtain⟨j,d,e,c⟩:=x.whand i
 have b:=c.fr f (QcQ a)
 exact x.hand e (c.setLast a rfl ⟨b.pr,b.gv,g⟩)
def g6.come{r:Rm}{b:du}{k:Int}(x:g6 n r b):g6 (n+1) r (gG b k):=by
 unfold gG
 have:=x.br
 split
 ·exact⟨x.lv,x.lb,x.vv,by show b.row.length<=_;omega,Nat.le_succ_of_le x.bl,λl a=>Nat.le_succ_of_le (x.bb l a)⟩
 ·exact⟨x.lv,x.lb,x.vv,by simp;omega,Nat.le_succ_of_le x.bl,λl a=>Nat.le_succ_of_le (x.bb l a)⟩
def g6.leave{r:Rm}{d:du}(x:g6 n r d):g6 n r (bR d):=by
 obtain⟨e,b,c,j,k⟩:=d
 have g:=x.br
 have i:=x.bl
 unfold bR
 dsimp only at g i⊢
 cases j with
 |cons a l=>exact⟨x.lv,x.lb,x.vv,x.br,by simp at i;show l.length<=n;omega,x.bb⟩
 | nil=>
   cases c with
   |cons a l=>exact⟨x.lv,x.lb,x.vv,by simp at g;show l.length<=n;omega,x.bl,x.bb⟩
   |nil=>exact⟨x.lv,x.lb,x.vv,x.br,x.bl,x.bb⟩
def g6.line{r:Rm}{a:du}{b:Nat}{l:List (Int×Int)}(x:g6 n r a)(d:l.length<=n):g6 n r {a with aa:=a.aa.set b l}:=⟨x.lv,by simp;exact x.lb,x.vv,x.br,x.bl,λk c=>by
 rcases QTq c with c|rfl
 ·exact x.bb k c
 ·exact d⟩
def g6.call{r:Rm}{a:du}{b:Nat}{k:Int}{d:Bool}(x:g6 n r a):g6 (n+1) r (jE d a b k):=by
 unfold jE
 split
 ·rename_i p l e
  have c:=x.bb _ (mQg e)
  have y:=(x.mono (Nat.le_succ n)).line (b:=b) (l:=l) (by simp at c;omega)
  have z:=x.bl
  split
  ·exact y
  ·exact⟨y.lv,y.lb,y.vv,y.br,by simp;omega,y.bb⟩
 ·exact x.mono (Nat.le_succ n)
def Aj{l:List (Int×Int)}{a b:Int}:(gA l a b).length=l.length+1:=by
 unfold gA
 have:=List.length_filter_le (λp:Int×Int=>decide (p.1<=a)) l
 simp only[lQa,Qxq,List.length_drop,Qnq,QGq]
 omega
def BG{a dn:Str}(o:cU w)(c:(a,dn)∈dG w.aj):a∈w.aj.map (·.name)/\∃r,w.aj[cn (w.aj.map (·.name)) a]?=some r/\dn∈r.ae.map (·.1):=by
 unfold dG at c
 obtain⟨r,g,j⟩:=QOq.mp c
 obtain⟨p,k,e⟩:=Qkq.mp j
 cases e
 have b:r.name∈w.aj.map (·.name):=Qkq.mpr ⟨r,g,rfl⟩
 refine⟨b,r,?_,Qkq.mpr ⟨p,k,rfl⟩⟩
 obtain⟨q,l⟩:=jQ b
 obtain⟨i,d,e⟩:=QbQ g
 have m:(w.aj.map (·.name))[i]?=some r.name:=by rw[gQm,gQe d,e];rfl
 rw[iA o.nd l m,gQe d,e]
def xn{r:Rw}{pr:List Rw}(o:cU w)(x:cM w n s)(hn:n<=100)(A:s.af[h]?=some (vs,fs))(G:fs.getLast? =some f)(hp:progOf w h f=some pr)(h1:1<=f.row)(Y:pr[(f.row-1).toNat]?=some r):Ew w s h r (ij w s h r)/\cM w (n+1) (ij w s h r):=by
 have e1:=gX A
 have e2:=cZ A G
 obtain⟨sc,F,c2⟩:=zI o hp
 have b:=c2 r (mQg Y)
 obtain⟨ts,a1,hw,hi⟩:=x.whand A
 have fi:=hi.fr f (QcQ G)
 have b1:=o.l1
 have b2:=o.l2
 have b3:=o.l3
 have b4:=o.l4
 have lr:=x.lr
 have lp:=x.lp
 have lh:=x.lh
 have lf:=hi.lf
 have U:=x.mono (Nat.le_succ n)
 have C:sc.own=false->∃(i:Nat) (r:Rm) (J:du),f.room=i/\w.aj[i]?=some r/\s.aj[i]?=some J/\g6 n r J/\Fj (dG w.aj) r/\sc.bs=r.aa.map (·.1):=λho=>by
  rcases i4 F with⟨c,a5,a1,a6,rfl⟩|⟨c,r,H,rfl⟩
  ·cases ho
  ·obtain⟨J,j,K⟩:=x.wroom H
   exact⟨_,r,J,lX fi c,H,j,K,o.rm r (mQg H),rfl⟩
 have L:sc.own=true->sc.ts=w.ai.map (·.1):=λho=>by
  rcases i4 F with⟨c,a5,a1,a6,rfl⟩|⟨c,r,H,rfl⟩
  ·rfl
  ·cases ho
 have k:∀y,y∈w.ai.map (·.1)->∀ps:List (Int×List Int),w.ai.length=ps.length->∃p,ps[cn (w.ai.map (·.1)) y]?=some p:=λy u ps hl=>by
  have:=(jQ u).1
  rw[lQm] at this
  exact⟨_,gQe (by omega)⟩
 have N:∀p:Int×List Int,p.2.length<=n->(gk p h).2.length<=n+1:=λp hp=>by
  unfold gk
  split
  ·show p.2.length<=_;omega
  ·simp;omega
 have R:∀p:Int×List Int,p.2.length<=n->(eG p).2.length<=n:=λp hp=>by
  obtain⟨v,l⟩:=p
  unfold eG
  cases l with
  |nil=>simp
  |cons a l=>simp at hp;show l.length<=n;omega
 cases r with
 | put y t=>
   obtain⟨hv,H⟩:=je o x A G F b.2
   obtain⟨e,c3⟩:=xt o x A G F b.1 hv
   exact⟨λS Q q=>yF H e q,c3.mono (Nat.le_succ n)⟩
 | unl t m=>
   obtain⟨hv,H⟩:=je o x A G F b.1
   have B:ij w s h (.unl t m)=if cO w s h t=0 then{s with af:=s.af.set h (vs,fs.dropLast++ [{f with row:=m}])} else s:=by simp only[ij,e2,fQ A]
   rw[B]
   refine⟨λS Q q=>qZ H A G (by omega) (by omega) q,?_⟩
   split
   · exact U.goes A G hp (by omega) (by have:=b.2;omega)
   · exact U
 | go m=>
   have B:ij w s h (.go m)={s with af:=s.af.set h (vs,fs.dropLast++ [{f with row:=m}])}:=by simp only[ij,e2,fQ A]
   rw[B]
   exact⟨λS Q q=>Bk A G (by omega) (by omega) q,U.goes A G hp (by omega) (by have:m<=pr.length:=b;omega)⟩
 | do_ g W X t=>
   obtain⟨hv,H⟩:=je o x A G F b.2.2
   have ev:ij w s h (.do_ g W X t)=ij w s h (.do_ g W X t):=rfl
   generalize b0:cO w s h t=v at hv H
   have c0:sc.gs=dG w.aj:=by
     rcases i4 F with⟨c,a5,a1,a6,rfl⟩|⟨c,r,H,rfl⟩ <;>rfl
   have a3:=b.2.1
   rw[c0] at a3
   obtain⟨b8,r,d,a4⟩:=BG o a3
   obtain⟨J,j,K⟩:=x.wroom d
   have I:=o.rm r (mQg d)
   have b5:=I.l3
   have b6:=K.br
   have B:ij w s h (.do_ g W X t)={s with af:=s.af.set h (vs,fs++ [⟨(cn (w.aj.map (·.name)) W:Nat),(cn (r.ae.map (·.1)) X:Nat),0,v,0⟩]),aj:=s.aj.set (cn (w.aj.map (·.name)) W) (gG J h)}:=by simp only[ij,e1,lP d,fY j,b0,mq]
   rw[B]
   refine⟨λS Q q=>Ba H A b8 d j a4 (by omega) (by omega) (by omega) (by omega) (by omega) (by omega) q,?_⟩
   have a9:=jQ a4
   have a2:=a9.1
   rw[lQm] at a2
   obtain⟨⟨c5,a8⟩,c4⟩:∃p,r.ae[cn (r.ae.map (·.1)) X]?=some p:=⟨_,gQe a2⟩
   have pf:progOf w h ⟨(cn (w.aj.map (·.name)) W:Nat),(cn (r.ae.map (·.1)) X:Nat),0,v,0⟩=some a8:=y4 rfl rfl d c4
   have hh:=hi.push (f':=⟨(cn (w.aj.map (·.name)) W:Nat),(cn (r.ae.map (·.1)) X:Nat),0,v,0⟩) G ⟨pr,g,W,X,t,hp,h1,Y⟩ (by show((cn (w.aj.map (·.name)) W:Nat):Int)≠-1;omega) ⟨⟨a8,pf,by show(0:Int)<=0;omega,by show(0:Int)<=_;omega⟩,hv,by show(0:Int)<=0/\(0:Int)<=9;omega⟩
   exact(U.hand hw hh).room d K.come
 | wait y t=>
   obtain⟨i,r,J,M,d,j,K,I,P⟩:=C b.1
   obtain⟨hv,H⟩:=je o x A G F b.2.2
   have u:=b.2.1
   rw[P] at u
   have b6:=I.l2
   have lb:=K.lb
   obtain⟨k1,k2⟩:=jQ u
   rw[lQm] at k1
   rw[gQm] at k2
   obtain⟨⟨y',so⟩,k3,k4⟩:=oQm.mp k2
   have k4:y'=y:=k4
   subst k4
   obtain⟨Z,hl⟩:∃l,J.aa[cn (r.aa.map (·.1)) y']?=some l:=⟨_,gQe (by omega)⟩
   have ll:=K.bb Z (mQg hl)
   have ti:f.room.toNat=i:=by omega
   have B:ij w s h (.wait y' t)={s with aj:=s.aj.set i (bR {J with aa:=J.aa.set (cn (r.aa.map (·.1)) y') (gA Z (if so="turns" then cO w s h t else 0) h)})}:=by simp only[ij,mQ,mq,e2,ti,lP d,fY j,hl,k3,Option.getD_some]
   rw[B]
   refine⟨λS Q q=>wI A G M d j (by omega) lb (by omega) u k3 hl (by omega) H q,?_⟩
   exact U.room d (((K.mono (Nat.le_succ n)).line (by rw[Aj];omega)).leave)
 | call y=>
   obtain⟨i,r,J,M,d,j,K,I,P⟩:=C b.1
   have u:=b.2
   rw[P] at u
   have b6:=I.l2
   have b7:=K.bl
   have ti:f.room.toNat=i:=by omega
   have B:ij w s h (.call y)={s with aj:=s.aj.set i (jE (decide (r.ah="when free")) J (cn (r.aa.map (·.1)) y) h)}:=by simp only[ij,mq,e2,ti,lP d,fY j]
   rw[B]
   refine⟨λS Q q=>vm A G M d j (by omega) K.lb (by omega) (by omega) u q,?_⟩
   exact U.room d K.call
 | all y=>
   obtain⟨i,r,J,M,d,j,K,I,P⟩:=C b.1
   have u:=b.2
   rw[P] at u
   have b6:=I.l2
   have ti:f.room.toNat=i:=by omega
   have B:ij w s h (.all y)={s with aj:=s.aj.set i {J with aa:=J.aa.set (cn (r.aa.map (·.1)) y) []}}:=by simp only[ij,mq,e2,ti,lP d,fY j]
   rw[B]
   refine⟨λS Q q=>yf A G M d j (by omega) K.lb (by omega) u q,?_⟩
   exact U.room d ((K.mono (Nat.le_succ n)).line (by simp))
 | tell t=>
   obtain⟨hv,H⟩:=je o x A G F b.2
   have B:ij w s h (.tell t)={s with af:=s.af.set h (vs,fs.dropLast++ [{f with told:=cO w s h t}])}:=by simp only[ij,e2,fQ A]
   rw[B]
   exact⟨λS Q q=>vk H A G (by omega) (by omega) q,U.tells A G hv⟩
 | take y=>
   have u:=b.2
   rw[L b.1] at u
   obtain⟨p,e⟩:=k y u s.ai lp
   have pl:=x.ps p (mQg e)
   have B:ij w s h (.take y)={s with ai:=s.ai.set (cn (w.ai.map (·.1)) y) (gk p h)}:=by simp only[ij,t4,rV e]
   rw[B]
   exact⟨λS Q q=>vz u e (by omega) (by omega) (by omega) q,U.pass (N p pl)⟩
 | give y=>
   have u:=b.2
   rw[L b.1] at u
   obtain⟨p,e⟩:=k y u s.ai lp
   have pl:=x.ps p (mQg e)
   have B:ij w s h (.give y)={s with ai:=s.ai.set (cn (w.ai.map (·.1)) y) (eG p)}:=by simp only[ij,t4,rV e]
   rw[B]
   exact⟨λS Q q=>vW u e (by omega) (by omega) q,U.pass (Nat.le_succ_of_le (R p pl))⟩
 | pass y z=>
   have u:=b.2.1
   have hz:=b.2.2
   rw[L b.1] at u hz
   obtain⟨p,e⟩:=k y u s.ai lp
   have pl:=x.ps p (mQg e)
   have x2:cM w n _:=x.pass (i:=cn (w.ai.map (·.1)) y) (R p pl)
   obtain⟨p2,a0⟩:=k z hz (s.ai.set (cn (w.ai.map (·.1)) y) (eG p)) (by simpa using lp)
   have c1:=x2.ps p2 (mQg a0)
   have B:ij w s h (.pass y z)={s with ai:=(s.ai.set (cn (w.ai.map (·.1)) y) (eG p)).set (cn (w.ai.map (·.1)) z) (gk p2 h)}:=by
     have e3:C1 (t4 s (cn (w.ai.map (·.1)) y) (eG p)) (cn (w.ai.map (·.1)) z)=p2:=rV a0
     simp only[ij,rV e]
     rw[e3]
     rfl
   rw[B]
   refine⟨λS Q q=>vO u hz e (by omega) (by omega) (by omega) a0 q,(x2.mono (Nat.le_succ n)).pass (N p2 c1)⟩
 |say t=>exact⟨λS Q q=>yU (sd:=.non) q,U⟩
end
section
variable{w:cz}{n h:Nat}{s:aM}{vs:List Int}{fs:List bC}{f:bC}{sc:Sc}
def cM.mays(o:cU w)(x:cM w n s)(l:n<=100):B0 w s:=by
 have G:=o.l1
 have B:=o.l2
 have z:=o.l4
 have y:=x.lr
 have v:=x.lp
 have F:=x.lh
 refine tE (λS Q q=>lC l (by omega) (by omega) x.ps (λk j=> ?_) q) (λh t=> ?_) (by omega)
 ·obtain⟨i,g,e⟩:=QbQ j
  have b:s.aj[i]?=some k:=by rw[gQe g,e]
  have c:w.aj[i]?=some (w.aj[i]'(by omega)):=gQe (by omega)
  have a:=x.rm i _ k c b
  have:=(o.rm _ (mQg c)).l2
  have:=a.lb
  exact⟨a.br,a.bl,by omega,a.bb⟩
 ·obtain⟨⟨vs,fs⟩,b⟩:∃p,s.af[h]?=some p:=⟨_,gQe t⟩
  obtain⟨A,C,c,g⟩:=x.whand b
  obtain⟨f,m,u⟩:=g.last
  obtain⟨d,r,_⟩:=u.pr
  exact⟨vs,fs,f,d,b,m,r⟩
def BS(o:cU w)(x:cM w n s)(hn:n<=100)(hm:h∈rR w s)(b:s.af[h]?=some (vs,fs))(p:fs.getLast? =some f):qo w s h (dP w s h).1 (dP w s h).2/\cM w (n+1) (dP w s h).1:=by
 have e1:=gX b
 have L:=cZ b p
 obtain⟨ts,a1,hw,hi⟩:=x.whand b
 have fi:=hi.fr f (QcQ p)
 obtain⟨pr,d,R,a5⟩:=fi.pr
 have b1:=o.l1
 have b4:=o.l4
 have lr:=x.lr
 have lh:=x.lh
 have lf:=hi.lf
 have nb:¬(f.room= -1/\f.row=pr.length):=by
  rintro⟨c1,c2⟩
  have:=(List.mem_filter.mp hm).2
  rw[QCq] at this
  have hb:pe w s h=true:=by
   unfold pe uX
   rw[b]
   show(match fs.getLast? with|some f=>_|none=>_)=_
   rw[p]
   simp only[d,Option.getD_some,c1,c2,decide_true,Bool.and_true]
  rw[hb] at this
  exact absurd this.2 (by decide)
 by_cases c:f.room= -1
 ·
  have H:pr=a1:=by
   unfold progOf at d
   rw[Qhq c,hw] at d
   cases d;rfl
  subst H
  have G:f.row.toNat<pr.length:=by
   have:f.row≠pr.length:=λz=>nb ⟨c,z⟩
   omega
  have a:pr[f.row.toNat]?=some (pr[f.row.toNat]):=gQe G
  generalize pr[f.row.toNat]=r at a
  obtain⟨sc,J,K⟩:=zI o d
  have l:=K r (mQg a)
  have X:Dr w s h r (A4 w s h r):=by
   cases r with
   |say t=>exact⟨_,rfl,(je o x b p J l.2).2⟩
   |_=>rfl
  have C:dP w s h=(ij w {s with af:=s.af.set h (vs,fs.dropLast++ [{f with row:=f.row+1}])} h r,A4 w s h r):=by
   unfold dP oh
   rw[L,Quq (λz=>z.1 c),d]
   simp only
   rw[Quq (λz=>nb ⟨c,z⟩),a,fQ b]
  rw[C]
  have N:=x.goes b p d (m:=f.row+1) (by omega) (by omega)
  have U:h<s.af.length:=(gQs.mp b).1
  obtain⟨M,A⟩:=xn (f:={f with row:=f.row+1}) (r:=r) (pr:=pr) o N hn (Qyq U) (by simp) d (by show 1<=f.row+1;omega) (by show pr[(f.row+1-1).toNat]?=_;rw[show f.row+1-1=f.row by omega];exact a)
  exact⟨t7 b p (.inl c) d R a (by omega) (by omega) X M,A⟩
 ·
  rcases j2 d with⟨c',_⟩|⟨i,j,r,dn,Y,h2,h3,h4⟩
  ·exact absurd c' c
  obtain⟨I,k,ri⟩:=x.wroom h3
  have br:=ri.br
  have ti:f.room.toNat=i:=by omega
  by_cases P:I.within=h
  ·have u:Here s h f:=.inr ⟨i,I,Y,k,P⟩
   by_cases Z:f.row=pr.length
   ·
    have W:=j6 p
    have M:=hi.hd
    rw[W] at M
    obtain⟨F,B,hg⟩:=M.two c
    have a2:fs=F++ [B,f]:=by rw[W,hg];simp
    subst a2
    obtain⟨a0,a3⟩:=hi.pop
    obtain⟨a6,g,rn,a4,t,p1,p2,p3⟩:=a3
    have eo:sE s h={s with aj:=s.aj.set i (bR I),af:=s.af.set h (vs,F++ [B])}:=by
     unfold sE
     rw[L,e1,ti,fY k]
     simp only[mq]
     rw[show F++ [B,f]=(F++ [B])++ [f] by simp,List.dropLast_concat]
    have ho:(sE s h).af[h]?=some (vs,F++ [B]):=by rw[eo];exact Qyq (gQs.mp b).1
    have eb:BC w (sE s h) h=some (.do_ g rn a4 t):=by
     unfold BC
     rw[cZ ho (f:=B) (by simp),p1]
     exact p3
    have C:dP w s h=(wc w s h,none):=by
     unfold dP
     rw[L,ti,fY k,Quq (λz=>z.2 P),d]
     simp only
     rw[Qhq Z]
    have N:cM w n {s with aj:=s.aj.set i (bR I),af:=s.af.set h (vs,F++ [B])}:=(x.hand hw a0).room h3 ri.leave
    obtain⟨sc,J,K⟩:=zI o p1
    have l:=K _ (mQg p3)
    have U:h<s.af.length:=(gQs.mp b).1
    cases g with
    | none=>
      have ee:wc w s h={s with aj:=s.aj.set i (bR I),af:=s.af.set h (vs,F++ [B])}:=by unfold wc;rw[eb];exact eo
      rw[C,ee]
      exact⟨ur b p u d Z λS Q q=>mS b Y k (by omega) (by omega) p1 p2 p3 (λ_ e=>e.symm) q,N.mono (Nat.le_succ n)⟩
    | some y=>
      obtain⟨H,A⟩:=xt (y:=y) (v:=f.told) o N (Qyq U) (by simp) J (l.1 y rfl) fi.tv
      have ee:wc w s h=m3 w {s with aj:=s.aj.set i (bR I),af:=s.af.set h (vs,F++ [B])} h y f.told:=by unfold wc;rw[eb,eo,L]
      rw[C,ee]
      exact⟨ur b p u d Z λS Q q=>mS b Y k (by omega) (by omega) p1 p2 p3 (λ_ e=>by rw[e];exact H) q,A.mono (Nat.le_succ n)⟩
   ·
    have G:f.row.toNat<pr.length:=by omega
    have a:pr[f.row.toNat]?=some (pr[f.row.toNat]):=gQe G
    generalize pr[f.row.toNat]=r' at a
    have l:=((o.rm _ (mQg h3)).pr _ (mQg h4)).1 r' (mQg a)
    have he:Dr w s h r' none:=by
     cases r' with
     |say t=>exact absurd l.1 (show¬(false=true) by decide)
     |_=>rfl
    have N:=x.goes b p d (m:=f.row+1) (by omega) (by omega)
    have U:h<s.af.length:=(gQs.mp b).1
    have C:dP w s h=(ij w {s with af:=s.af.set h (vs,fs.dropLast++ [{f with row:=f.row+1}])} h r',none):=by
     unfold dP oh
     rw[L,ti,fY k,Quq (λz=>z.2 P),d]
     simp only
     rw[Quq Z,a,fQ b]
     refine congrArg (Prod.mk _) ?_
     cases r' with
     |say t=>exact absurd l.1 (show¬(false=true) by decide)
     |_=>rfl
    rw[C]
    obtain⟨M,A⟩:=xn (f:={f with row:=f.row+1}) (r:=r') (pr:=pr) o N hn (Qyq U) (by simp) d (by show 1<=f.row+1;omega) (by show pr[(f.row+1-1).toNat]?=_;rw[show f.row+1-1=f.row by omega];exact a)
    exact⟨t7 b p u d R a (by omega) (by omega) he M,A⟩
  ·
   have C:dP w s h=({s with aj:=s.aj.set i (gG I h)},none):=by
    unfold dP
    rw[L,ti,fY k,Qhq ⟨c,P⟩]
    rfl
   rw[C]
   exact⟨yr b p Y k P (by omega) (by omega),(x.mono (Nat.le_succ n)).room h3 ri.come⟩
end
end W28
namespace DL
open PySem PySem.Spec L2
section
variable{Γ:cN}{S:aC}
def q_{f:dU}{Q:(List D×(aC->Prop))->aC->Prop}(h:E f Γ S λp a=>Q (ib 0 p.1,λc=>p.2.stays c p.1) a):E (qG f) Γ S Q:=by
 obtain⟨p,a,b,q⟩:=h
 exact⟨_,a,by unfold qG;rw[b];rfl,q⟩
def Fb{f:dU}{Q:D->aC->Prop}(h:E f Γ S λp a=>p.2.isL=true/\∃bs,D9 p.1=some bs/\Q (.bl (bs.all id)) a):E (Bp f) Γ S Q:=by
 obtain⟨p,a,b,l,bs,c,q⟩:=h
 exact⟨_,a,by unfold Bp;rw[b];simp only[Qbq];rw[Qhq l,c];rfl,q⟩
def A2{i j:Int}{Q:D->Prop}(h:zS i j)(q:Q (.int (i^j.toNat))):Op (qY S (.int i) (.int j)) Q:=⟨_,by simp only[qY,intD];rw[Qhq h],q⟩
def DV{i j:Int}{Q:D->Prop}(h:IntMulOk i j)(q:Q (.int (i*j))):Op (iR S (.int i) (.int j)) Q:=⟨_,by simp only[iR,intD];rw[Qhq h],q⟩
end
theorem uJ:∀n:Nat,D9 (List.replicate n (.bl true))=some (List.replicate n true)
 |0=>rfl
 |n+1=>by simp only[QNq,D9];rw[uJ n];rfl
end DL
namespace W28
open PySem PySem.Spec L2 DL
section
variable{S S0:aC}{Q:Res->aC->Prop}
def yl(l:List Nat):l.map cb=(l.map λh:Nat=>(h:Int)).map D.int:=by rw[QPq];rfl
end
section
variable{S S0:aC}{Q:Res->aC->Prop}
def Pl:Nat->D->Prop
 |0,_=>False
 |_+1,.int _=>True
 |_+1,.str _=>True
 |n+1,.tup ds=>ds.length<=1000/\∀d∈ds,Pl n d
 |_+1,_=>False
theorem tF:∀ds:List D,uh ds ds=ds.map λd=>D.tup [d,d]
 | []=>rfl
 | d::ds=>by
   have:=tF ds
   simp only[uh,List.zipWith_cons_cons,QDq] at this⊢
   rw[this]
theorem xS:∀(n:Nat) (d:D) {S:aC} {Q:Res->aC->Prop},Pl n d->Q (.d (.bl true)) S->Fn (dY n) [d,d] S Q
 |0,_,_,_,h,_=>h.elim
 | n+1,.int i,S,Q,_,q=>by
   refine bD ?_
   unfold fB
   refine bZ (hU (cJ (d:=.int i) (da rfl ⟨rfl,rfl⟩) rfl ?_))
   refine bu (λc=>by cases c) (λ_=>cD ?_)
   refine bZ (hU (Aq (cJ (d:=.int i) (da rfl ⟨rfl,rfl⟩) rfl ?_)))
   apply bu (λc=>by cases c) (λ_=> ?_)
   refine zD ?_
   refine bu (λc=>by cases c) (λ_=>cD ?_)
   refine oy (sR (u3 (da rfl ⟨_,rfl,true,rfl,?_⟩)))
   rw[Qhq rfl]
   refine sR (Dy (u3 (da rfl ⟨_,rfl,false,rfl,true,rfl,?_⟩)))
   rw[Qhq rfl]
   symm
   refine ic ?_
   rw[Qeq rfl]
   exact bH (λk z=>(nomatch z)) rfl q
 | n+1,.str i,S,Q,_,q=>by
   refine bD ?_
   unfold fB
   refine bZ (hU (cJ (d:=.str i) (da rfl ⟨rfl,rfl⟩) rfl ?_))
   refine bu (λc=>by cases c) (λ_=>cD ?_)
   refine bZ (hU (Aq (cJ (d:=.str i) (da rfl ⟨rfl,rfl⟩) rfl ?_)))
   refine bu (λ_=> ?_) (λc=>by cases c)
   refine bu (λ_=> ?_) (λc=>by cases c)
   refine oy (sR (D_ (u3 (da rfl ⟨_,rfl,u3 (da rfl ⟨_,rfl,.bl true,rfl,true,rfl,?_⟩)⟩))))
   rw[Qhq rfl]
   symm
   refine eQ ?_
   rw[Qeq rfl]
   exact bH (λk z=>(nomatch z)) rfl q
 | n+1,.tup ds,S,Q,h,q=>by
   refine bD ?_
   unfold fB
   refine bZ (hU (cJ (d:=.tup ds) (da rfl ⟨rfl,rfl⟩) rfl ?_))
   refine bu (λ_=> ?_) (λc=>by cases c)
   refine bZ (hU (Aq (Dg (cJ (d:=.tup ds) (da rfl ⟨rfl,rfl⟩) rfl ?_))))
   apply bu (λc=>by cases c) (λ_=> ?_)
   refine jB ?_
   rw[Qeq rfl]
   refine bu (λc=>by cases c) (λ_=>cD ?_)
   refine oy (Fb (Ij ?_))
   apply nB (α:=D) (λe=>∃a b,e= [a,b]) (λd=>D.tup [d,d]) (λ_=>.bl true) (λ_=>true) ⟨none,none,rfl⟩ (AC ?_)
   refine⟨⟨trivial,Qmq _⟩,ds,tF ds,⟨trivial,trivial⟩,h.1,λd g e f=> ?_,?_⟩
   · obtain⟨a,b,rfl⟩:=f
     refine dE rfl (ay (aQ (ay (aQ (a7 ?_)))))
     apply⟨rfl,⟨_,_,rfl⟩,rF ⟨rfl,rfl,λ_=> ?_⟩⟩
     exact xS n d (h.2 d g) ⟨rfl,rfl⟩
   · refine⟨rfl,List.replicate ds.length true,?_,?_⟩
     · rw[←uJ]
       congr 1
       rw[List.filter_eq_self.mpr (λ_ _=>rfl),List.map_const']
     · have:(List.replicate ds.length true).all id=true:=by simp
       rw[this]
       exact bH (λk z=>(nomatch z)) rfl q
end
abbrev zr:=List (Nat×aM×Option Int)
def i9(w:cz)(tr:zr):aM:=match tr.getLast? with
 |none=>cv w
 |some x=>x.2.1
def qH(x:Nat×aM×Option Int):List (Nat×Int):=match x.2.2 with
 |none=> []
 |some v=> [(x.1,v)]
def C3(tr:zr):List (Nat×Int):=tr.flatMap qH
def HF(p:Nat×Int):D:=.tup [.int p.1,.int p.2]
def qx(w:cz)(tr:zr):Prop:=∀(n:Nat) (h:Nat) (a:aM) (e:Option Int),tr[n]?=some (h,a,e)->B0 w (i9 w (tr.take n))/\h∈rR w (i9 w (tr.take n))/\qo w (i9 w (tr.take n)) h a e
def y6{w:cz}{tr:zr}{n:Nat}{x:Nat×aM×Option Int}(h:tr[n]?=some x):i9 w (tr.take (n+1))=x.2.1:=by
 unfold i9
 rw[QYq,h]
 simp
def AL{w:cz}{tr:zr}{x:Nat×aM×Option Int}:i9 w (tr++ [x])=x.2.1:=by
 unfold i9
 simp
def qx.app{w:cz}{tr:zr}{h:Nat}{d:aM}{e:Option Int}(x:qx w tr)(f:B0 w (i9 w tr))(g:h∈rR w (i9 w tr))(j:qo w (i9 w tr) h d e):qx w (tr++ [(h,d,e)]):=by
 intro n i m l a
 by_cases c:n<tr.length
 ·rw[QHq c] at a
  rw[List.take_append_of_le_length (by omega)]
  exact x n i m l a
 ·have k:=(gQs.mp a).1
  have b:n=tr.length:=by simp at k;omega
  subst b
  simp at a
  obtain⟨rfl,rfl,rfl⟩:=a
  rw[List.take_append_of_le_length (by omega),QEq]
  exact⟨f,g,j⟩
def CH{tr:zr}:(C3 tr).length<=tr.length:=by
 have:=gn (f:=qH) (n:=1) (l:=tr) λx _=>by unfold qH;split <;>simp
 unfold C3
 omega
def uj(w:cz)(tr:zr):D:=.tup [(i9 w tr).d,.tup ((C3 tr).map HF)]
section
variable{S S0:aC}{Q:Res->aC->Prop}
def yI{w:cz}{tr:zr}(o:cU w)(ok:qx w tr)(F:tr.length<=900)(q:Q (.d (uj w tr)) S):Fn nj [w.d,.tup ((tr.map (·.1)).map cb)] S Q:=by
 refine bD ?_
 unfold sg
 symm
 apply Ar o ?_
 refine⟨by decide,?_⟩
 apply bZ (kC (q_ ?_))
 refine⟨λn g l=>(∃a b c,g= [some w.d,some (.tup ((tr.map (·.1)).map cb)),some (i9 w (tr.take n)).d,some (.ref S.length),a,b,c])/\l=S++ [.lst ((C3 (tr.take n)).map HF)],⟨⟨_,_,_,rfl⟩,rfl⟩,λ_ _ _ _=>trivial,?_,?_⟩
 ·rintro n d g l B ⟨⟨a,b,c,rfl⟩,rfl⟩
  obtain⟨x,t,rfl⟩:=jl B
  rw[gQm,gQm] at t
  obtain⟨G,m,rfl⟩:=oQm.mp t
  obtain⟨⟨h,i,e⟩,f,rfl⟩:=oQm.mp m
  obtain⟨y,u,A⟩:=ok n h i e f
  have r:i9 w (tr.take (n+1))=i:=y6 f
  have p:C3 (tr.take (n+1))=C3 (tr.take n)++qH (h,i,e):=jc f
  have C:(C3 (tr.take n)).length<=900:=by
   have:=CH (tr:=tr.take n)
   rw[Qxq] at this
   omega
  generalize i9 w (tr.take n)=s at y u A⊢
  generalize C3 (tr.take n)=es at p C⊢
  refine dE rfl (ay (aQ (ay (aQ (a7 ?_)))))
  apply bZ (hU (sI (Bw ?_)))
  refine y _ _ ?_
  dsimp only
  refine⟨_,_,rfl,by rw[yl];exact kf _,?_⟩
  rw[xo,Qeq (Qkq.mpr ⟨h,u,rfl⟩)]
  apply bu (λc=>by cases c) (λ_=>cD ?_)
  refine A _ _ ?_
  apply dE rfl (ay (aQ (ay (aQ (a7 ?_)))))
  refine zD ?_
  cases e with
  | none=>
    refine bu (λc=>by cases c) (λ_=>cD ?_)
    refine⟨⟨_,_,_,by rw[r];rfl⟩,?_⟩
    rw[p]
    simp[qH]
  | some v=>
    refine bu (λ_=> ?_) (λc=>by cases c)
    apply AD (AQ ?_)
    apply⟨_,_,rfl,bq,?_⟩
    refine⟨_,bq,⟨_,by unfold nN;exact Qhq (by rw[lQm];exact aH (by omega)),?_⟩⟩
    refine⟨⟨_,_,_,by rw[r];rfl⟩,?_⟩
    rw[p]
    simp[qH,HF,GP]
 ·rintro g l ⟨⟨a,b,c,rfl⟩,rfl⟩
  have j:(ib 0 ((tr.map (·.1)).map cb)).length=tr.length:=by rw[lz];simp
  rw[j,QEq]
  symm
  refine dF bq ?_
  apply⟨rfl,?_⟩
  refine⟨by show 2<=_;decide,?_⟩
  refine uS (d:=uj w tr) (nq.refl.app) (λk z=>(nomatch z)) ?_ q
  simp only[uj,bJ,bz,aM.low,Bool.and_true,Bool.true_and]
  exact bo λ_ _=>rfl
end
end W28
namespace DL
open PySem PySem.Spec L2
def Af{S:aC}{k:Nat}{ds:List D}{Q:List D×Tag->Prop}(a:S[k]?=some (.frz ds))(q:Q (ds,.fz k)):Op (oT S (.ref k)) Q:=⟨_,by simp only[oT,a],q⟩
def Ga{S:aC}{k:Nat}{ds:List D}{i:Int}{d:D}{Q:D->Prop}(a:S[k]?=some (.frz ds))(h:lM ds i=some d)(q:Q d):Op (s_ S (.ref k) (.int i)) Q:=⟨_,by simp only[s_,a];exact h,q⟩
def Fk{i:Int}{Q:D->Prop}(q:Q (.int (if i<0 then -i else i))):Op (Cu [.int i]) Q:=⟨_,rfl,q⟩
def iX{b:Bool}{Q:D->Prop}(q:Q (.int (if b then 1 else 0))):Op (intOfD [.bl b]) Q:=⟨_,rfl,q⟩
def kr{j:Nat}{n:Nat}{d:D}(h:(pY 0 (j:Int))[n]?=some d):d=.int n/\n<j:=by
 have a:n<j:=by
  have:=(gQs.mp h).1
  unfold pY at this
  simpa using this
 unfold pY at h
 rw[gQm,List.getElem?_range (by simpa using a)] at h
 cases h
 exact⟨by simp,a⟩
def AX{j:Nat}:(pY 0 (j:Int)).length=j:=by
 unfold pY
 simp
end DL
namespace W28
open PySem PySem.Spec L2 DL
section
variable{S:aC}{Q:Res->aC->Prop}
def Dl{ns:List Int}{k:Nat}(i:S[0]?=some (.frz (ns.map D.int)))(q:∀a b:Int,Q (.l [.int a,.int b,.int 0]) S):Fn jd [.ref 0,.int k] S Q:=by
 refine bD ?_
 unfold lK
 have f:∀e:Int,T (aF (aS 3 (aW iR (aW mW (av 2) (aW iR (aW qY (cF (.int 10)) (cF (.int 60))) (aW qY (cF (.int 10)) (cF (.int 60))))) (vg intOfD (ar (aW HG (av 2) (aW qY (cF (.int 10)) (cF (.int 18)))) ax))))
   (CW (fg (ar (av 3) (ar (aW mW (aW bE (aW bE (av 2) (aW iR (cF (.int 104729)) (av 1))) (cF (.int 7))) (cF (.int 2305843009213693951))) (ar (cF (.int 0)) ax))))))
   [some (.ref 0),some (.int k),some (.int e),none] S (λo=>match o with
   |.nx _ g=>Op (settle S .non g) λp=>Q p.1 p.2|.rt d g=>Op (settle S d g) λp=>Q p.1 p.2|.rl l g=>Op (dQ S l g) λp=>Q p.1 p.2|_=>False):=by
  intro e
  symm
  apply A2 ⟨by decide,by decide,by decide⟩ ?_
  apply A2 ⟨by decide,by decide,by decide⟩ ?_
  refine DV (IntMulOk.of_bits (by decide +kernel) (by decide +kernel)) ?_
  refine ow (show(0:Int)<10^(60:Int).toNat*10^(60:Int).toNat by decide +kernel) ?_
  generalize e%(10^(60:Int).toNat*10^(60:Int).toNat)=c1
  symm
  refine A2 ⟨by decide,by decide,by decide⟩ ?_
  generalize (10:Int)^(18:Int).toNat=c2
  symm
  refine iX ?_
  have h:CK c1 (if decide (c2<=e)=true then 1 else 0):=by
   right
   split <;>decide
  generalize (if decide (c2<=e)=true then(1:Int) else 0)=c3 at h⊢
  apply mM h ?_
  apply mM (.inl ⟨by decide,by decide⟩) ?_
  apply ow (by decide) ?_
  refine⟨by show 3<=_;decide,?_⟩
  exact zA rfl (q _ _)
 symm
 apply Af i ?_
 rw[lQm]
 by_cases c:(k:Int)<ns.length
 ·rw[Qeq c,Qhq rfl]
  have j:k<ns.length:=by omega
  symm
  refine Ga i (aL (x:=.int ns[k]) (by rw[gQm,gQe j];rfl)) ?_
  symm
  refine Fk ?_
  exact f _
 ·rw[Qdq c,Quq (by decide)]
  refine cD ?_
  exact f 0
end
abbrev rM(r:Rm)(a:List (List (Str×Nat)×List Rw)):cz:=⟨[r],[],[],a⟩
abbrev cE(R:du)(a:List (List Int×List bC)):aM:=⟨[R],[],[],a⟩
abbrev aP(q:Nat):bC:=⟨-1,-1,q,0,0⟩
def Hj(w:cz)(s:aM)(h:Nat)(t:Int):Option Str->aM
 |none=>s
 |some y=>m3 w s h y t
section
variable{r:Rm}{whs:List (List (Str×Nat)×List Rw)}{R:du}{hs:List (List Int×List bC)}{h q k n:Nat}{ts:List (Str×Nat)}{pr:List Rw}{vs:List Int}{o f:bC}{dn:Str}{row:Rw}
def bh{x y:List Int×List bC}(a:hs[h]?=some y):(hs.set h x)[h]?=some x:=Qyq (gQs.mp a).1
def nV(a:whs[h]?=some (ts,pr)):progOf (rM r whs) h (aP q)=some pr:=by
 unfold progOf
 rw[Qhq (show(aP q).room= -1 from rfl)]
 show(whs[h]?).map _=_
 rw[a]
 rfl
def qA(hd:r.ae[k]?=some (dn,pr))(a:f.room=0)(b:f.deed=k):progOf (rM r whs) h f=some pr:=by
 unfold progOf
 rw[Quq (by rw[a];decide),Qhq ⟨by rw[a];decide,by rw[b];omega⟩,a,b]
 show((some r).bind λr=>(r.ae[((k:Int)).toNat]?).map (·.2))=_
 rw[show((k:Int)).toNat=k by omega,Qbq,hd]
 rfl
def GA(e:whs[h]?=some (ts,pr))(a:hs[h]?=some (vs,[aP q]))(c:pr[q]?=some row):
  dP (rM r whs) (cE R hs) h=(ij (rM r whs) (cE R (hs.set h (vs,[aP (q+1)]))) h row,A4 (rM r whs) (cE R hs) h row):=by
 have b:eK (cE R hs) h=aP q:=cZ a rfl
 have g:=(gQs.mp c).1
 have d:oh (cE R hs) h=cE R (hs.set h (vs,[aP (q+1)])):=by unfold oh;rw[b,fQ a];rfl
 unfold dP
 rw[b,Quq (λz=>z.1 rfl),nV e]
 show(if ((q:Int)=(pr.length:Int)) then _ else match pr[((q:Int)).toNat]? with|none=>_|some r=>_)=_
 rw[Quq (by omega),show((q:Int)).toNat=q by omega,c,d]
def BF{x:Option Str}{v:Nat}(d:whs[h]?=some (ts,pr))(b:hs[h]?=some (vs,[aP q]))(l:pr[q]?=some (.do_ x r.name dn (.num v)))(e:cn [r.name] r.name=0)(j:cn (r.ae.map (·.1)) dn=k):
  dP (rM r whs) (cE R hs) h=(cE (gG R h) (hs.set h (vs,[aP (q+1),⟨0,k,0,v,0⟩])),none):=by
 rw[GA d b l]
 have i:xp (cE R (hs.set h (vs,[aP (q+1)]))) h=(vs,[aP (q+1)]):=gX (bh b)
 have c:eK (cE R (hs.set h (vs,[aP (q+1)]))) h=aP (q+1):=cZ (bh b) rfl
 have g:cO (rM r whs) (cE R (hs.set h (vs,[aP (q+1)]))) h (.num v)=v:=by
  unfold cO
  rw[c,Qhq (show(aP (q+1)).room= -1 from rfl)]
  rfl
 have a:cn ((rM r whs).aj.map (·.name)) r.name=0:=e
 simp only[ij,i,g,List.set_set,mq,a]
 show(cE (gG R h) (hs.set h (vs,[aP (q+1),⟨0,(cn (r.ae.map (·.1)) dn:Nat),0,v,0⟩])),_)=_
 rw[j]
 rfl
def xW{d:Nat}{g t:Int}(hd:r.ae[k]?=some (dn,pr))(i:R.within=h)(a:hs[h]?=some (vs,[o,⟨0,k,d,g,t⟩]))(c:pr[d]?=some row):
  dP (rM r whs) (cE R hs) h=(ij (rM r whs) (cE R (hs.set h (vs,[o,⟨0,k,(d+1:Nat),g,t⟩]))) h row,A4 (rM r whs) (cE R hs) h row):=by
 have b:eK (cE R hs) h=⟨0,k,d,g,t⟩:=cZ a rfl
 have j:=(gQs.mp c).1
 have e:oh (cE R hs) h=cE R (hs.set h (vs,[o,⟨0,k,(d+1:Nat),g,t⟩])):=by unfold oh;rw[b,fQ a];rfl
 unfold dP
 rw[b,Quq (λz=>z.2 i),qA hd rfl rfl]
 show(if ((d:Int)=(pr.length:Int)) then _ else match pr[((d:Int)).toNat]? with|none=>_|some r=>_)=_
 rw[Quq (by omega),show((d:Int)).toNat=d by omega,c,e]
def Bg{d:Nat}{g t:Int}{a:List Rw}{x:Option Str}{u e:Str}{tr:Tr}(m:whs[h]?=some (ts,a))(i:a[q]?=some (.do_ x u e tr))(hd:r.ae[k]?=some (dn,pr))(j:pr.length=d)(p:R.within=h)(b:hs[h]?=some (vs,[aP (q+1),⟨0,k,d,g,t⟩])):
  dP (rM r whs) (cE R hs) h=(Hj (rM r whs) (cE (bR R) (hs.set h (vs,[aP (q+1)]))) h t x,none):=by
 have c:eK (cE R hs) h=⟨0,k,d,g,t⟩:=cZ b rfl
 have s:sE (cE R hs) h=cE (bR R) (hs.set h (vs,[aP (q+1)])):=by
  unfold sE
  rw[c,gX b]
  rfl
 have l:eK (cE (bR R) (hs.set h (vs,[aP (q+1)]))) h=aP (q+1):=cZ (bh b) rfl
 unfold dP
 rw[c,Quq (λz=>z.2 p),qA hd rfl rfl]
 show(if (d:Int)=(pr.length:Int) then _ else _)=_
 rw[j,Qhq rfl]
 unfold wc BC
 rw[s,l,c,nV m]
 show(match a[(((q+1:Nat):Int)-1).toNat]? with|some (.do_ (some x) _ _ _)=>_|_=>_,none)=_
 rw[show(((q+1:Nat):Int)-1).toNat=q by omega,i]
 cases x <;>rfl
end
def Wk(w:cz)(s:aM)(l:List Nat)(c:aM):Prop:=∀m,m+l.length<=60->cM w m s->cM w (m+l.length) c/\∀b:zr,qx w b->i9 w b=s->∃a:zr,a.map (·.1)=l/\qx w (b++a)/\i9 w (b++a)=c
def Wk.refl{w:cz}{s:aM}:Wk w s [] s:=λm _ x=>⟨x,λc a b=>⟨[],rfl,by rw[List.append_nil];exact a,by rw[List.append_nil];exact b⟩⟩
def Wk.trans{w:cz}{s d c:aM}{l e:List Nat}(a:Wk w s l d)(b:Wk w d e c):Wk w s (l++e) c:=λm n x=>by
 rw[lQa] at n
 obtain⟨k,v⟩:=a m (by omega) x
 obtain⟨t,q⟩:=b (m+l.length) (by omega) k
 refine⟨by rw[lQa,←Nat.add_assoc];exact t,λf r p=> ?_⟩
 obtain⟨g,h,j,i⟩:=v f r p
 obtain⟨z,y,u,o⟩:=q _ j i
 exact⟨g++z,by rw[Qzq,h,y],by rw[←Qvq];exact u,by rw[←Qvq];exact o⟩
def Wk.one{w:cz}{s a:aM}{h:Nat}{vs:List Int}{fs:List bC}{f:bC}(o:cU w)(g:h∈rR w s)(k:s.af[h]?=some (vs,fs))(j:fs.getLast? =some f)(e:dP w s h=(a,none)):Wk w s [h] a:=λm i x=>by
 have i:m+1<=60:=i
 obtain⟨c,d⟩:=BS o x (by omega) g k j
 rw[e] at c d
 refine⟨d,λn l b=>⟨[(h,a,none)],rfl,?_,AL⟩⟩
 exact l.app (by rw[b];exact x.mays o (by omega)) (by rw[b];exact g) (by rw[b];exact c)
section
variable{r:Rm}{whs:List (List (Str×Nat)×List Rw)}{R:du}{hs:List (List Int×List bC)}{h q k n:Nat}{ts:List (Str×Nat)}{pr:List Rw}{vs:List Int}{o f:bC}{dn:Str}{row:Rw}
def oN(a:hs[h]?=some (vs,[o,f]))(d:f.room=0)(c:(h:Int)∉dq R):h∈rR (rM r whs) (cE R hs):=by
 unfold rR
 refine List.mem_filter.mpr ⟨List.mem_range.mpr (gQs.mp a).1,?_⟩
 have e:pe (rM r whs) (cE R hs) h=false:=by
  have b:uX (cE R hs) h=some f:=by
   show(hs[h]?).bind _=_
   rw[a]
   rfl
  unfold pe
  rw[b]
  show(decide (f.room= -1)&&_)=false
  rw[d]
  rfl
 rw[e,show held (cE R hs)=dq R by simp[held],Qdq c]
 rfl
def xy(c:whs[h]?=some (ts,pr))(a:hs[h]?=some (vs,[aP q]))(g:q<pr.length)(d:(h:Int)∉dq R):h∈rR (rM r whs) (cE R hs):=by
 unfold rR
 refine List.mem_filter.mpr ⟨List.mem_range.mpr (gQs.mp a).1,?_⟩
 have e:pe (rM r whs) (cE R hs) h=false:=by
  have b:uX (cE R hs) h=some (aP q):=by
   show(hs[h]?).bind _=_
   rw[a]
   rfl
  unfold pe
  rw[b]
  show(decide ((aP q).room= -1)&&decide ((aP q).row=(((progOf (rM r whs) h (aP q)).getD []).length:Int)))=false
  rw[nV c]
  show(true&&decide ((q:Int)=(pr.length:Int)))=false
  rw[Qdq (by omega)]
  rfl
 rw[e,show held (cE R hs)=dq R by simp[held],Qdq d]
 rfl
end
abbrev Way:=Option (Bool×Nat)
def p6:Tr:=.two "plus" (.two "plus" (.waits "a") (.two "plus" (.waits "b") (.waits "b"))) (.word "given")
def kh(mn:Str):Rm:=⟨"r",mn,[],[("a","row"),("b","turns")],[("ask",[.tell p6]),("calla",[.call "a"]),("staya",[.wait "a" (.num 0)]),("stayb",[.wait "b" (.word "given")])]⟩
def oB:Way->List Rw
 |none=> [.say (.num 0),.say (.num 1)]
 |some (b,t)=> [.do_ none "r" (if b then "stayb" else "staya") (.num t),.say (.num 1)]
def dN(g:Nat):List Rw:= [.do_ (some "x") "r" "ask" (.num g),.do_ none "r" "calla" (.num 0),.do_ (some "y") "r" "ask" (.num g),.do_ none "r" "calla" (.num 0),.do_ (some "z") "r" "ask" (.num g)]
def wg:List (Str×Nat):= [("x",9),("y",9),("z",9)]
def jv(ways:List Way)(g:Nat):List (List (Str×Nat)×List Rw):=ways.map (λu=>([],oB u))++ [(wg,dN g)]
abbrev w6(mn:Str)(ways:List Way)(g:Nat):cz:=rM (kh mn) (jv ways g)
section
variable{mn:Str}{ways:List Way}{g:Nat}
def Gu(o:mn="at once" \/mn="when free")(w:ways.length<=3)(q:∀b t,some (b,t)∈ways->t<=9)(m:g<=9):cU (w6 mn ways g):=by
 have i:∀d:Str,d∈[("ask":Str),"calla","staya","stayb"]->((("r":Str),d):Str×Str)∈dG [kh mn]:=λd n=>by
  show _∈[((("r":Str),("ask":Str)):Str×Str),("r","calla"),("r","staya"),("r","stayb")]
  simp only[Qsq,QXq,or_false] at n⊢
  rcases n with rfl|rfl|rfl|rfl <;>simp
 refine⟨by simp,by simp,by simp,by simp,by simp[jv];omega,by simp[jv],λp a=>(nomatch a),λp a=>(nomatch a),λr c=> ?_,λp a=> ?_⟩
 ·have c:r=kh mn:=by simpa using c
  subst c
  refine⟨o,λp a=>(nomatch a),by simp[kh],by simp[kh],by simp[kh],λp a=> ?_,λp a=> ?_⟩
  ·have a:p=(("a":Str),("row":Str))\/p=(("b":Str),("turns":Str)):=by simpa [kh] using a
   rcases a with rfl|rfl
   ·exact .inl rfl
   ·exact .inr rfl
  ·have a:p=(("ask":Str),[Rw.tell p6])\/p=(("calla":Str),[Rw.call "a"])\/p=(("staya":Str),[Rw.wait "a" (.num 0)])\/p=(("stayb":Str),[Rw.wait "b" (.word "given")]):=by simpa [kh] using a
   have f:∀{x y:Rw},x∈[y]->x=y:=λh=>by simpa using h
   rcases a with rfl|rfl|rfl|rfl
   ·refine⟨λr c=> ?_,by simp⟩
    rw[f c]
    refine⟨rfl,?_,by decide⟩
    simp[p6,Tr.Ok,kh,ir]
    decide +kernel
   ·refine⟨λr c=> ?_,by simp⟩
    rw[f c]
    exact⟨rfl,by simp[kh]⟩
   ·refine⟨λr c=> ?_,by simp⟩
    rw[f c]
    exact⟨rfl,by simp[kh],by show 0<=9;decide,by decide⟩
   ·refine⟨λr c=> ?_,by simp⟩
    rw[f c]
    exact⟨rfl,by simp[kh],by show _∈_;simp[kh,ir],by decide⟩
 ·have a:p∈ways.map (λu=>(([]:List (Str×Nat)),oB u))++ [(wg,dN g)]:=a
  rcases mQa.mp a with a|a
  ·obtain⟨u,k,rfl⟩:=Qkq.mp a
   refine⟨λp a=>(nomatch a),by simp,?_,?_,λr c=> ?_⟩
   ·cases u <;>simp[oB]
   ·cases u <;>simp[oB]
   ·cases u with
    | none=>
      simp only[oB,Qsq,QXq,or_false] at c
      rcases c with rfl|rfl
      · exact⟨rfl,by show 0<=9;decide,by decide⟩
      · exact⟨rfl,by show 1<=9;decide,by decide⟩
    | some v=>
      obtain⟨b,t⟩:=v
      simp only[oB,Qsq,QXq,or_false] at c
      rcases c with rfl|rfl
      · refine⟨λx j=>(nomatch j),i _ (by cases b <;>simp),q b t k,by show 1<=4;decide⟩
      · exact⟨rfl,by show 1<=9;decide,by decide⟩
  ·have a:p=(wg,dN g):=by simpa using a
   subst a
   refine⟨λp a=> ?_,by simp[wg],by simp[dN],by simp[dN],λr c=> ?_⟩
   ·simp only[wg,Qsq,QXq,or_false] at a
    rcases a with rfl|rfl|rfl <;>simp
   ·simp only[dN,Qsq,QXq,or_false] at c
    have l:∀y:Str,y∈[("x":Str),"y","z"]->∀z,some y=some z->z∈wg.map (·.1)++(([]:List (Str×Nat)).map (·.1)):=λy s z e=>by cases e;simpa [wg] using s
    rcases c with rfl|rfl|rfl|rfl|rfl
    ·exact⟨l _ (by simp),i _ (by simp),m,by show 1<=4;decide⟩
    ·exact⟨λx j=>(nomatch j),i _ (by simp),by show 0<=9;decide,by decide⟩
    ·exact⟨l _ (by simp),i _ (by simp),m,by show 1<=4;decide⟩
    ·exact⟨λx j=>(nomatch j),i _ (by simp),by show 0<=9;decide,by decide⟩
    ·exact⟨l _ (by simp),i _ (by simp),m,by show 1<=4;decide⟩
end
abbrev r6(a:Int)(ag:List Int)(la lb:List (Int×Int)):du:=⟨[],a,[],ag,[la,lb]⟩
def xv(a b:Bool)(g:Nat):Int:=if 9<(if a then(1:Int) else 0)+2*(if b then 1 else 0)+g then 9 else(if a then(1:Int) else 0)+2*(if b then 1 else 0)+g
section
variable{mn:Str}{ways:List Way}{g:Nat}{hs:List (List Int×List bC)}{la lb:List (Int×Int)}{wi:Int}{ag:List Int}{h q:Nat}{vs:List Int}{x:Str}
def iw:dq (r6 wi ag la lb)=ag++(la.map (·.2)++lb.map (·.2)):=by simp[dq]
def kL:(jv ways g)[ways.length]?=some (wg,dN g):=by
 unfold jv
 rw[QQq (by simp)]
 simp
def r9{i:Nat}{u:Way}(hi:ways[i]?=some u):(jv ways g)[i]?=some ([],oB u):=by
 unfold jv
 rw[QHq (by simpa using (gQs.mp hi).1),gQm,hi]
 rfl
def AY{d:Nat}{t:Int}(e:eK (cE (r6 wi ag la lb) hs) h=⟨0,0,d,g,t⟩):cO (w6 mn ways g) (cE (r6 wi ag la lb) hs) h p6=xv (decide (la≠[])) (decide (lb≠[])) g:=by
 unfold cO
 rw[e,Quq (show¬(0:Int)= -1 by decide)]
 have i:mK (yj (w6 mn ways g) ((0:Int)).toNat) (va (cE (r6 wi ag la lb) hs) ((0:Int)).toNat) "a"=la.length:=rfl
 have c:mK (yj (w6 mn ways g) ((0:Int)).toNat) (va (cE (r6 wi ag la lb) hs) ((0:Int)).toNat) "b"=lb.length:=rfl
 have j:DL.numAt (mF (yj (w6 mn ways g) ((0:Int)).toNat) (va (cE (r6 wi ag la lb) hs) ((0:Int)).toNat) (g:Int)) "given"=g:=rfl
 have p:∀x y,Dp "plus" x y=if 9<x+y then 9 else x+y:=λ_ _=>Qhq rfl
 show qy _ _ p6=_
 simp only[p6,qy,i,c,j,p]
 have b:(0<(la.length:Int))↔la≠[]:=by rw[←List.length_pos_iff];omega
 have a:(0<(lb.length:Int))↔lb≠[]:=by rw[←List.length_pos_iff];omega
 simp only[b,a]
 unfold xv
 by_cases f:la= [] <;>by_cases k:lb= [] <;>simp only[f,k,ne_eq,not_true,not_false_eq_true,decide_true,decide_false,if_true,if_false,Bool.false_eq_true] <;>(repeat' split) <;>omega
def rN:cn [(kh mn).name] (kh mn).name=0:=rfl
def DW(o:cU (w6 mn ways g))(i:(dN g)[q]?=some (.do_ (some x) "r" "ask" (.num g)))(a:hs[ways.length]?=some (vs,[aP q]))(e:((ways.length:Nat):Int)∉la.map (·.2)++lb.map (·.2)):
  Wk (w6 mn ways g) (cE (r6 (-1) [] la lb) hs) [ways.length,ways.length,ways.length] (cE (r6 (-1) [] la lb) (hs.set ways.length (bU (wg.map (·.1)) vs x (xv (decide (la≠[])) (decide (lb≠[])) g),[aP (q+1)]))):=by
 have c:=kL (ways:=ways) (g:=g)
 have f:=(gQs.mp i).1
 generalize ways.length=L at a e c⊢
 have r:Wk (w6 mn ways g) (cE (r6 (-1) [] la lb) hs) [L] (cE (r6 L [] la lb) (hs.set L (vs,[aP (q+1),⟨0,(0:Nat),0,g,0⟩]))):=by
  refine Wk.one o (xy c a f (by rw[iw];exact e)) a rfl ?_
  rw[BF (k:=0) c a i rN rfl]
  rfl
 have b:(hs.set L (vs,[aP (q+1),⟨0,(0:Nat),0,g,0⟩]))[L]?=some (vs,[aP (q+1),⟨0,(0:Nat),((0:Nat):Int),g,0⟩]):=bh a
 have n:Wk (w6 mn ways g) (cE (r6 L [] la lb) (hs.set L (vs,[aP (q+1),⟨0,(0:Nat),0,g,0⟩]))) [L] (cE (r6 L [] la lb) (hs.set L (vs,[aP (q+1),⟨0,(0:Nat),(1:Nat),g,xv (decide (la≠[])) (decide (lb≠[])) g⟩]))):=by
  refine Wk.one o (oN b rfl (by rw[iw];exact e)) b rfl ?_
  rw[xW (dn:="ask") (pr:= [.tell p6]) (row:=.tell p6) rfl rfl b rfl]
  have j:eK (cE (r6 L [] la lb) ((hs.set L (vs,[aP (q+1),⟨0,(0:Nat),0,g,0⟩])).set L (vs,[aP (q+1),⟨0,(0:Nat),(0+1:Nat),g,0⟩]))) L=⟨0,0,(1:Nat),g,0⟩:=cZ (bh b) rfl
  show(ij _ _ _ (.tell p6),none)=_
  simp only[ij]
  rw[AY j,j,fQ (bh b),List.set_set,List.set_set]
  rfl
 have d:(hs.set L (vs,[aP (q+1),⟨0,(0:Nat),(1:Nat),g,xv (decide (la≠[])) (decide (lb≠[])) g⟩]))[L]?=some (vs,[aP (q+1),⟨0,(0:Nat),(1:Nat),g,xv (decide (la≠[])) (decide (lb≠[])) g⟩]):=bh a
 have s:Wk (w6 mn ways g) (cE (r6 L [] la lb) (hs.set L (vs,[aP (q+1),⟨0,(0:Nat),(1:Nat),g,xv (decide (la≠[])) (decide (lb≠[])) g⟩]))) [L] (cE (r6 (-1) [] la lb) (hs.set L (bU (wg.map (·.1)) vs x (xv (decide (la≠[])) (decide (lb≠[])) g),[aP (q+1)]))):=by
  refine Wk.one o (oN d rfl (by rw[iw];exact e)) d rfl ?_
  rw[Bg (dn:="ask") (pr:= [.tell p6]) c i rfl rfl rfl d]
  have l:eK (cE (bR (r6 L [] la lb)) ((hs.set L (vs,[aP (q+1),⟨0,(0:Nat),(1:Nat),g,xv (decide (la≠[])) (decide (lb≠[])) g⟩])).set L (vs,[aP (q+1)]))) L=aP (q+1):=cZ (bh d) rfl
  have p:xp (cE (bR (r6 L [] la lb)) ((hs.set L (vs,[aP (q+1),⟨0,(0:Nat),(1:Nat),g,xv (decide (la≠[])) (decide (lb≠[])) g⟩])).set L (vs,[aP (q+1)]))) L=(vs,[aP (q+1)]):=gX (bh d)
  have m:Fe (w6 mn ways g) L=(wg,dN g):=wj c
  show(m3 _ _ _ _ _,none)=_
  unfold m3
  rw[l,Qhq (show(aP (q+1)).room= -1 from rfl),p,m]
  unfold lZ
  rw[Quq (by simp)]
  rw[List.set_set,List.set_set]
  rfl
 exact(r.trans n).trans s
end
section
variable{mn:Str}{ways:List Way}{g:Nat}{hs:List (List Int×List bC)}{la lb:List (Int×Int)}{h q:Nat}{vs:List Int}
def call_in(o:cU (w6 mn ways g))(f:(dN g)[q]?=some (.do_ none "r" "calla" (.num 0)))(a:hs[ways.length]?=some (vs,[aP q]))(e:((ways.length:Nat):Int)∉la.map (·.2)++lb.map (·.2)):
  Wk (w6 mn ways g) (cE (r6 (-1) [] la lb) hs) [ways.length,ways.length] (cE (jE (decide (mn="when free")) (r6 ways.length [] la lb) 0 ways.length) (hs.set ways.length (vs,[aP (q+1),⟨0,(1:Nat),(1:Nat),0,0⟩]))):=by
 have d:=kL (ways:=ways) (g:=g)
 have c:=(gQs.mp f).1
 generalize ways.length=L at a e d⊢
 have j:Wk (w6 mn ways g) (cE (r6 (-1) [] la lb) hs) [L] (cE (r6 L [] la lb) (hs.set L (vs,[aP (q+1),⟨0,(1:Nat),0,(0:Nat),0⟩]))):=by
  refine Wk.one o (xy d a c (by rw[iw];exact e)) a rfl ?_
  rw[BF (k:=1) d a f rN rfl]
  rfl
 have b:(hs.set L (vs,[aP (q+1),⟨0,(1:Nat),0,(0:Nat),0⟩]))[L]?=some (vs,[aP (q+1),⟨0,(1:Nat),((0:Nat):Int),(0:Nat),0⟩]):=bh a
 refine j.trans (Wk.one o (oN b rfl (by rw[iw];exact e)) b rfl ?_)
 rw[xW (dn:="calla") (pr:= [.call "a"]) (row:=.call "a") rfl rfl b rfl]
 have i:eK (cE (r6 L [] la lb) ((hs.set L (vs,[aP (q+1),⟨0,(1:Nat),0,(0:Nat),0⟩])).set L (vs,[aP (q+1),⟨0,(1:Nat),(0+1:Nat),(0:Nat),0⟩]))) L=⟨0,(1:Nat),(1:Nat),(0:Nat),0⟩:=cZ (bh b) rfl
 show(ij _ _ _ (.call "a"),none)=_
 simp only[ij]
 rw[i,List.set_set]
 rfl
def t5(o:cU (w6 mn ways g))(d:(dN g)[q]?=some (.do_ none "r" "calla" (.num 0)))(a:hs[ways.length]?=some (vs,[aP (q+1),⟨0,(1:Nat),(1:Nat),0,0⟩]))(c:((ways.length:Nat):Int)∉la.map (·.2)++lb.map (·.2)):
  Wk (w6 mn ways g) (cE (r6 ways.length [] la lb) hs) [ways.length] (cE (r6 (-1) [] la lb) (hs.set ways.length (vs,[aP (q+1)]))):=by
 have b:=kL (ways:=ways) (g:=g)
 generalize ways.length=L at a c b⊢
 refine Wk.one o (oN a rfl (by rw[iw];exact c)) a rfl ?_
 rw[Bg (dn:="calla") (pr:= [.call "a"]) b d rfl rfl rfl a]
 rfl
def yc(o:cU (w6 mn ways g))(a:mn="when free" \/la= [])(f:(dN g)[q]?=some (.do_ none "r" "calla" (.num 0)))(b:hs[ways.length]?=some (vs,[aP q]))(c:((ways.length:Nat):Int)∉la.map (·.2)++lb.map (·.2)):
  Wk (w6 mn ways g) (cE (r6 (-1) [] la lb) hs) [ways.length,ways.length,ways.length] (cE (r6 (-1) [] (la.drop 1) lb) (hs.set ways.length (vs,[aP (q+1)]))):=by
 have i:=call_in o f b c
 have e:jE (decide (mn="when free")) (r6 ways.length [] la lb) 0 ways.length=r6 ways.length [] (la.drop 1) lb:=by
  cases la with
  |nil=>rfl
  | cons p l=>
    have a:mn="when free":=a.resolve_right (by simp)
    rw[Qeq a]
    rfl
 rw[e] at i
 have d:=t5 (la:=la.drop 1) (lb:=lb) o f (bh (x:=(vs,[aP (q+1),⟨0,(1:Nat),(1:Nat),0,0⟩])) b) (λz=>c (by
  rcases mQa.mp z with z|z
  ·obtain⟨p,j,e⟩:=Qkq.mp z
   exact mQa.mpr (.inl (Qkq.mpr ⟨p,List.mem_of_mem_drop j,e⟩))
  ·exact mQa.mpr (.inr z)))
 rw[List.set_set] at d
 exact i.trans d
def zg{p:Int×Int}{l:List (Int×Int)}{t t':Nat}(o:cU (w6 "at once" ways g))(m:(dN g)[q]?=some (.do_ none "r" "calla" (.num 0)))(r:hs[ways.length]?=some (vs,[aP q]))(i:((ways.length:Nat):Int)∉(p::l).map (·.2)++lb.map (·.2))
  (u:p.2=h) (b:ways[h]?=some (some (false,t))) (d:hs[h]?=some ([],[aP 1,⟨0,(2:Nat),(1:Nat),t',0⟩])) (c:(h:Int)∉l.map (·.2)++lb.map (·.2)):
  Wk (w6 "at once" ways g) (cE (r6 (-1) [] (p::l) lb) hs) [ways.length,ways.length,h,ways.length] (cE (r6 (-1) [] l lb) ((hs.set h ([],[aP 1])).set ways.length (vs,[aP (q+1)]))):=by
 have k:=call_in o m r i
 have s:=(gQs.mp b).1
 have a:ways.length≠h:=by omega
 have e:jE (decide (("at once":Str)="when free")) (r6 ways.length [] (p::l) lb) 0 ways.length=r6 h [(ways.length:Int)] l lb:=by
  rw[Qdq (by decide +kernel),←u]
  rfl
 rw[e] at k
 have f:(hs.set ways.length (vs,[aP (q+1),⟨0,(1:Nat),(1:Nat),0,0⟩]))[h]?=some ([],[aP (0+1),⟨0,(2:Nat),(1:Nat),t',0⟩]):=by rw[QKq a];exact d
 have j:Wk (w6 "at once" ways g) (cE (r6 h [(ways.length:Int)] l lb) (hs.set ways.length (vs,[aP (q+1),⟨0,(1:Nat),(1:Nat),0,0⟩]))) [h] (cE (r6 ways.length [] l lb) ((hs.set ways.length (vs,[aP (q+1),⟨0,(1:Nat),(1:Nat),0,0⟩])).set h ([],[aP 1]))):=by
  refine Wk.one o (oN f rfl (by
   rw[iw]
   intro z
   rcases mQa.mp z with z|z
   ·have:(h:Int)=(ways.length:Int):=by simpa using z
    omega
   ·exact c z)) f rfl ?_
  rw[Bg (dn:="staya") (pr:= [.wait "a" (.num 0)]) (q:=0) (r9 b) rfl rfl rfl rfl f]
  rfl
 rw[List.set_comm _ _ a] at j
 have v:((hs.set h ([],[aP 1])).set ways.length (vs,[aP (q+1),⟨0,(1:Nat),(1:Nat),0,0⟩]))[ways.length]?=some (vs,[aP (q+1),⟨0,(1:Nat),(1:Nat),0,0⟩]):=Qyq (by rw[List.length_set];exact(gQs.mp r).1)
 have n:=t5 (la:=l) (lb:=lb) o m v (λz=>i (by
  rcases mQa.mp z with z|z
  ·exact mQa.mpr (.inl (Qpq _ z))
  ·exact mQa.mpr (.inr z)))
 rw[List.set_set] at n
 exact(k.trans j).trans n
end
def Fh{t x:Int}{l:List (Int×Int)}:(gA l t x).Perm ((t,x)::l):=by
 unfold gA
 generalize (l.filter λp=>decide (p.1<=t)).length=k
 rw[Qvq]
 refine(List.perm_middle (a:=(t,x)) (l₁:=l.take k) (l₂:=l.drop k)).trans ?_
 rw[List.take_append_drop]
def Ft{x:Int}{l:List (Int×Int)}(hz:∀p∈l,p.1=0):gA l 0 x=l++ [(0,x)]:=by
 have e:(l.filter λp=>decide (p.1<=0))=l:=List.filter_eq_self.mpr λp a=>by simp[hz p a]
 unfold gA
 rw[e,QEq,List.drop_length,List.append_nil]
def fH:Way->Bool
 |some (false,_)=>true
 |_=>false
def AN:Way->Bool
 |some (true,_)=>true
 |_=>false
def p_(ways:List Way)(h:Nat):Way:=(ways[h]?).getD none
def iH(ways:List Way)(i:Nat):List Nat:=(List.range i).filter λh=>fH (p_ ways h)
def wv(ways:List Way)(i:Nat):List Nat:=(List.range i).flatMap λh=>if p_ ways h=none then [] else [h,h]
structure B6(ways:List Way)(i:Nat)(la lb:List (Int×Int))(hs:List (List Int×List bC)):Prop where
 last:hs[ways.length]?=some ([9,9,9],[aP 0])
 out:∀h,i<=h->h<ways.length->hs[h]?=some ([],[aP 0])
 az:∀p∈la,p.1=0
 am:la.map (·.2)=(iH ways i).map λh:Nat=>(h:Int)
 aw:∀h∈iH ways i,∃t t':Nat,ways[h]?=some (some (false,t))/\hs[h]?=some ([],[aP 1,⟨0,(2:Nat),(1:Nat),t',0⟩])
 bm:∀p∈lb,∃h:Nat,p.2=h/\h<i/\AN (p_ ways h)=true
 b0:lb≠[]↔∃h,h<i/\AN (p_ ways h)=true
section
variable{mn:Str}{ways:List Way}{g:Nat}{hs:List (List Int×List bC)}{la lb:List (Int×Int)}{i h:Nat}
def Eu{b:Bool}{t:Nat}(o:cU (w6 mn ways g))(hi:ways[i]?=some (some (b,t)))(c:hs[i]?=some ([],[aP 0]))(f:(i:Int)∉la.map (·.2)++lb.map (·.2)):
  Wk (w6 mn ways g) (cE (r6 (-1) [] la lb) hs) [i,i] (cE (r6 (-1) [] (if b then la else gA la 0 i) (if b then gA lb t i else lb)) (hs.set i ([],[aP 1,⟨0,((if b then 3 else 2:Nat):Nat),(1:Nat),t,0⟩]))):=by
 have e:=r9 (g:=g) hi
 cases b with
 | false=>
   have l:Wk (w6 mn ways g) (cE (r6 (-1) [] la lb) hs) [i] (cE (r6 i [] la lb) (hs.set i ([],[aP 1,⟨0,(2:Nat),0,t,0⟩]))):=by
     refine Wk.one o (xy e c (by simp[oB]) (by rw[iw];exact f)) c rfl ?_
     rw[BF (k:=2) (dn:="staya") e c rfl rN rfl]
     rfl
   have a:(hs.set i ([],[aP 1,⟨0,(2:Nat),0,(t:Int),0⟩]))[i]?=some ([],[aP 1,⟨0,(2:Nat),((0:Nat):Int),t,0⟩]):=bh c
   refine l.trans (Wk.one o (oN a rfl (by rw[iw];exact f)) a rfl ?_)
   rw[xW (dn:="staya") (pr:= [.wait "a" (.num 0)]) (row:=.wait "a" (.num 0)) rfl rfl a rfl]
   have d:eK (cE (r6 i [] la lb) ((hs.set i ([],[aP 1,⟨0,(2:Nat),0,(t:Int),0⟩])).set i ([],[aP 1,⟨0,(2:Nat),(0+1:Nat),t,0⟩]))) i=⟨0,(2:Nat),(1:Nat),t,0⟩:=cZ (bh a) rfl
   have j:cO (w6 mn ways g) (cE (r6 i [] la lb) ((hs.set i ([],[aP 1,⟨0,(2:Nat),0,(t:Int),0⟩])).set i ([],[aP 1,⟨0,(2:Nat),(0+1:Nat),t,0⟩]))) i (.num 0)=0:=by
     unfold cO
     rw[d,Quq (show¬(0:Int)= -1 by decide)]
     rfl
   show(ij _ _ _ (.wait "a" (.num 0)),none)=_
   simp only[ij]
   rw[j,d,List.set_set]
   have m:mQ (kh mn) (r6 i [] la lb) "a" 0 i=r6 (-1) [] (gA la 0 i) lb:=by
     unfold mQ
     show bR (r6 i [] (gA la (if ("row":Str)="turns" then 0 else 0) i) lb)=_
     rw[Quq (by decide +kernel)]
     rfl
   show(cE (mQ (kh mn) (r6 i [] la lb) "a" 0 i) _,none)=_
   rw[m]
   rfl
 | true=>
   have l:Wk (w6 mn ways g) (cE (r6 (-1) [] la lb) hs) [i] (cE (r6 i [] la lb) (hs.set i ([],[aP 1,⟨0,(3:Nat),0,t,0⟩]))):=by
     refine Wk.one o (xy e c (by simp[oB]) (by rw[iw];exact f)) c rfl ?_
     rw[BF (k:=3) (dn:="stayb") e c rfl rN rfl]
     rfl
   have a:(hs.set i ([],[aP 1,⟨0,(3:Nat),0,(t:Int),0⟩]))[i]?=some ([],[aP 1,⟨0,(3:Nat),((0:Nat):Int),t,0⟩]):=bh c
   refine l.trans (Wk.one o (oN a rfl (by rw[iw];exact f)) a rfl ?_)
   rw[xW (dn:="stayb") (pr:= [.wait "b" (.word "given")]) (row:=.wait "b" (.word "given")) rfl rfl a rfl]
   have d:eK (cE (r6 i [] la lb) ((hs.set i ([],[aP 1,⟨0,(3:Nat),0,(t:Int),0⟩])).set i ([],[aP 1,⟨0,(3:Nat),(0+1:Nat),t,0⟩]))) i=⟨0,(3:Nat),(1:Nat),t,0⟩:=cZ (bh a) rfl
   have j:cO (w6 mn ways g) (cE (r6 i [] la lb) ((hs.set i ([],[aP 1,⟨0,(3:Nat),0,(t:Int),0⟩])).set i ([],[aP 1,⟨0,(3:Nat),(0+1:Nat),t,0⟩]))) i (.word "given")=t:=by
     unfold cO
     rw[d,Quq (show¬(0:Int)= -1 by decide)]
     rfl
   show(ij _ _ _ (.wait "b" (.word "given")),none)=_
   simp only[ij]
   rw[j,d,List.set_set]
   have m:mQ (kh mn) (r6 i [] la lb) "b" t i=r6 (-1) [] la (gA lb t i):=by
     unfold mQ
     show bR (r6 i [] la (gA lb (if ("turns":Str)="turns" then(t:Int) else 0) i))=_
     rw[Qhq rfl]
     rfl
   show(cE (mQ (kh mn) (r6 i [] la lb) "b" t i) _,none)=_
   rw[m]
   rfl
def B6.nin(a:B6 ways i la lb hs)(hi:i<=h):(h:Int)∉la.map (·.2)++lb.map (·.2):=λz=>by
 rcases mQa.mp z with z|z
 ·rw[a.am] at z
  obtain⟨d,b,e⟩:=Qkq.mp z
  have:=List.mem_range.mp (List.mem_filter.mp b).1
  omega
 ·obtain⟨p,c,e⟩:=Qkq.mp z
  obtain⟨d,f,j,_⟩:=a.bm p c
  have:=f.symm.trans e
  omega
def rJ:wv ways (i+1)=wv ways i++(if p_ ways i=none then [] else [i,i]):=by
 unfold wv
 rw[List.range_succ,List.flatMap_append]
 simp
def kz:iH ways (i+1)=iH ways i++(if fH (p_ ways i) then [i] else []):=by
 unfold iH
 rw[List.range_succ,List.filter_append]
 cases c:fH (p_ ways i) <;>simp[c]
theorem xH(o:cU (w6 mn ways g)):∀i,i<=ways.length->∃la lb hs,Wk (w6 mn ways g) (cv (w6 mn ways g)) (wv ways i) (cE (r6 (-1) [] la lb) hs)/\B6 ways i la lb hs
 | 0,_=>by
   refine⟨[],[],(cv (w6 mn ways g)).af,Wk.refl,?_,λh _ H=> ?_,λp e=>(nomatch e),rfl,λh j=>(nomatch j),λp e=>(nomatch e),?_⟩
   · show((jv ways g).map _)[ways.length]?=_
     rw[gQm,kL]
     rfl
   · show((jv ways g).map _)[h]?=_
     rw[gQm,r9 (gQe H)]
     rfl
   · simp
 | i+1,hi=>by
   obtain⟨la,lb,hs,C,a⟩:=xH o i (by omega)
   have r:i<ways.length:=by omega
   have y:ways[i]?=some ways[i]:=gQe r
   have d:p_ ways i=ways[i]:=by unfold p_;rw[y];rfl
   have n:=a.out i (Qmq _) r
   have w:=a.nin (Qmq i)
   generalize ways[i]=u at y d
   cases u with
   | none=>
     refine⟨la,lb,hs,?_,a.last,λh s f=>a.out h (by omega) f,a.az,?_,?_,λp e=> ?_,?_⟩
     · rw[rJ,d,Qhq rfl,List.append_nil];exact C
     · rw[kz,d];simpa [fH] using a.am
     · rw[kz,d];simpa [fH] using a.aw
     · obtain⟨h,q,A,v⟩:=a.bm p e
       exact⟨h,q,by omega,v⟩
     · rw[a.b0]
       constructor
       · rintro⟨h,s,f⟩
         exact⟨h,by omega,f⟩
       · rintro⟨h,s,f⟩
         refine⟨h,?_,f⟩
         rcases(by omega:h<i\/h=i) with c|rfl
         · exact c
         · rw[d] at f;cases f
   | some I=>
     obtain⟨b,t⟩:=I
     have k:=C.trans (Eu o y n w)
     have m:∀{x} {h},h≠i->(hs.set i x)[h]?=hs[h]? :=λB=>QKq (Ne.symm B)
     refine⟨_,_,_,by rw[rJ,d,Quq (by simp)];exact k,?_,λh s f=> ?_,λp e=> ?_,?_,λh j=> ?_,λp e=> ?_,?_⟩
     · rw[m (by omega)];exact a.last
     · rw[m (by omega)];exact a.out h (by omega) f
     · cases b with
       |true=>exact a.az p e
       | false=>
         have e:p∈gA la 0 i:=e
         rw[Ft a.az] at e
         rcases mQa.mp e with e|e
         · exact a.az p e
         · rw[Qfq.mp e]
     · rw[kz,d]
       cases b with
       |true=>simpa [fH] using a.am
       | false=>
         show(gA la 0 i).map _=_
         rw[Ft a.az,Qzq,a.am]
         simp[fH]
     · rw[kz,d] at j
       rcases mQa.mp j with j|j
       · obtain⟨F,G,q,A⟩:=a.aw h j
         have:=List.mem_range.mp (List.mem_filter.mp j).1
         exact⟨F,G,q,by rw[m (by omega)];exact A⟩
       · cases b with
         |true=>simp[fH] at j
         | false=>
           have j:h=i:=by simpa [fH] using j
           subst j
           exact⟨t,t,y,bh n⟩
     · cases b with
       | false=>
         obtain⟨h,q,A,v⟩:=a.bm p e
         exact⟨h,q,by omega,v⟩
       | true=>
         rcases Qsq.mp (Fh.mem_iff.mp (show p∈gA lb t i from e)) with rfl|e
         · exact⟨i,rfl,by omega,by rw[d];rfl⟩
         · obtain⟨h,q,A,v⟩:=a.bm p e
           exact⟨h,q,by omega,v⟩
     · cases b with
       | false=>
         show lb≠[]↔_
         rw[a.b0]
         constructor
         · rintro⟨h,s,f⟩
           exact⟨h,by omega,f⟩
         · rintro⟨h,s,f⟩
           refine⟨h,?_,f⟩
           rcases(by omega:h<i\/h=i) with c|rfl
           · exact c
           · rw[d] at f;cases f
       | true=>
         refine⟨λ_=>⟨i,by omega,by rw[d];rfl⟩,λ_ z=> ?_⟩
         have:=Fh (t:=(t:Int)) (x:=(i:Int)) (l:=lb)|>.length_eq
         rw[show gA lb t i= [] from z] at this
         simp at this
end
structure T6(ways:List Way)(la lb:List (Int×Int))(left:List Nat)(hs:List (List Int×List bC))(vs:List Int)(q:Nat):Prop where
 last:hs[ways.length]?=some (vs,[aP q])
 am:la.map (·.2)=left.map λh:Nat=>(h:Int)
 lt:∀h∈left,h<ways.length
 nd:left.Nodup
 aw:∀h∈left,∃t t':Nat,ways[h]?=some (some (false,t))/\hs[h]?=some ([],[aP 1,⟨0,(2:Nat),(1:Nat),t',0⟩])
 bm:∀p∈lb,∃h:Nat,p.2=h/\h<ways.length/\AN (p_ ways h)=true
def mH(mn:Str)(L:Nat)(a:List Nat):List Nat:= [L,L]++(if mn="at once" then a.take 1 else [])++ [L,L,L,L]
section
variable{mn:Str}{ways:List Way}{g q:Nat}{hs:List (List Int×List bC)}{la lb:List (Int×Int)}{left:List Nat}{vs:List Int}{x:Str}
def T6.nin(a:T6 ways la lb left hs vs q):((ways.length:Nat):Int)∉la.map (·.2)++lb.map (·.2):=λz=>by
 rcases mQa.mp z with z|z
 ·rw[a.am] at z
  obtain⟨c,b,e⟩:=Qkq.mp z
  have:=a.lt c b
  omega
 ·obtain⟨p,d,e⟩:=Qkq.mp z
  obtain⟨c,f,h,_⟩:=a.bm p d
  have:=f.symm.trans e
  omega
def T6.set{b:List Int}{d:Nat}(a:T6 ways la lb left hs vs q):T6 ways la lb left (hs.set ways.length (b,[aP d])) b d:=by
 refine⟨bh a.last,a.am,a.lt,a.nd,λh c=> ?_,a.bm⟩
 obtain⟨t,i,e,f⟩:=a.aw h c
 have:=a.lt h c
 exact⟨t,i,e,by rw[QKq (by omega)];exact f⟩
def CY(o:cU (w6 mn ways g))(c:(dN g)[q]?=some (.do_ (some x) "r" "ask" (.num g)))(a:T6 ways la lb left hs vs q):
  ∃b,Wk (w6 mn ways g) (cE (r6 (-1) [] la lb) hs) [ways.length,ways.length,ways.length] (cE (r6 (-1) [] la lb) b)/\T6 ways la lb left b (bU (wg.map (·.1)) vs x (xv (decide (la≠[])) (decide (lb≠[])) g)) (q+1):=
 ⟨_,DW o c a.last a.nin,a.set⟩
def Eb(o:cU (w6 mn ways g))(s:mn="at once" \/mn="when free")(C:(dN g)[q]?=some (.do_ none "r" "calla" (.num 0)))(a:T6 ways la lb left hs vs q):
  ∃d,Wk (w6 mn ways g) (cE (r6 (-1) [] la lb) hs) ([ways.length,ways.length]++(if mn="at once" then left.take 1 else [])++ [ways.length]) (cE (r6 (-1) [] (la.drop 1) lb) d)/\T6 ways (la.drop 1) lb (left.drop 1) d vs (q+1):=by
 have L:∀{d},T6 ways la lb left d vs (q+1)->T6 ways (la.drop 1) lb (left.drop 1) d vs (q+1):=λb=>⟨b.last,by rw[List.map_drop,b.am,List.map_drop],λh j=>b.lt h (List.mem_of_mem_drop j),b.nd.sublist (List.drop_sublist ..),λh j=>b.aw h (List.mem_of_mem_drop j),b.bm⟩
 by_cases c:mn="when free" \/la= []
 ·refine⟨_,?_,L a.set⟩
  have e:(if mn="at once" then left.take 1 else [])= []:=by
   rcases c with rfl|rfl
   ·exact Quq (by decide +kernel)
   ·have:left= []:=by
     have:=a.am
     cases left with
     |nil=>rfl
     |cons h l=>simp at this
    rw[this]
    split <;>rfl
  rw[e]
  exact yc o c C a.last a.nin
 ·have s:mn="at once":=s.resolve_right λz=>c (.inl z)
  subst s
  cases la with
  |nil=>exact absurd (.inr rfl) c
  | cons p l=>
    cases left with
    |nil=>have:=a.am;simp at this
    | cons h P=>
      have k:=a.am
      simp only[QDq,List.cons.injEq] at k
      obtain⟨t,N,B,M⟩:=a.aw h (QBq ..)
      have i:=List.nodup_cons.mp a.nd
      have u:(h:Int)∉l.map (·.2)++lb.map (·.2):=λz=>by
        rcases mQa.mp z with z|z
        · rw[k.2] at z
          obtain⟨m,A,e⟩:=Qkq.mp z
          have:m=h:=by omega
          subst this
          exact i.1 A
        · obtain⟨H,w,e⟩:=Qkq.mp z
          obtain⟨m,r,_,y⟩:=a.bm H w
          have:m=h:=by have:=r.symm.trans e;omega
          subst this
          unfold p_ at y
          rw[B] at y
          cases y
      rw[Qhq rfl]
      refine⟨_,zg o C a.last a.nin k.1 B M u,?_⟩
      have G:=a.lt h (QBq ..)
      refine⟨Qyq (by rw[List.length_set];exact(gQs.mp a.last).1),k.2,λh j=>a.lt h (Qpq _ j),i.2,λv f=> ?_,a.bm⟩
      obtain⟨F,J,r,I⟩:=a.aw v (Qpq _ f)
      have K:=a.lt v (Qpq _ f)
      have n:h≠v:=λz=>i.1 (by rw[z];exact f)
      exact⟨F,J,r,by rw[QKq (by omega),QKq n];exact I⟩
def Ap(o:cU (w6 mn ways g))(d:mn="at once" \/mn="when free")(j:(dN g)[q]?=some (.do_ none "r" "calla" (.num 0)))(c:(dN g)[q+1]?=some (.do_ (some x) "r" "ask" (.num g)))(a:T6 ways la lb left hs vs q):
  ∃b,Wk (w6 mn ways g) (cE (r6 (-1) [] la lb) hs) (mH mn ways.length left) (cE (r6 (-1) [] (la.drop 1) lb) b)/\T6 ways (la.drop 1) lb (left.drop 1) b (bU (wg.map (·.1)) vs x (xv (decide (la.drop 1≠[])) (decide (lb≠[])) g)) (q+2):=by
 obtain⟨l,f,e⟩:=Eb o d j a
 obtain⟨k,h,i⟩:=CY o c e
 refine⟨k,?_,i⟩
 have:=f.trans h
 unfold mH
 rw[Qvq _ [ways.length]] at this
 exact this
def vi(mn:Str)(ways:List Way):List Nat:=wv ways ways.length++ [ways.length,ways.length,ways.length]++mH mn ways.length (iH ways ways.length)++mH mn ways.length ((iH ways ways.length).drop 1)
def Bn(ways:List Way):Bool:=ways.any AN
def jr(ways:List Way)(g c:Nat):Int:=xv (decide (c<(iH ways ways.length).length)) (Bn ways) g
def zV(o:cU (w6 mn ways g))(j:mn="at once" \/mn="when free"):∃l,Wk (w6 mn ways g) (cv (w6 mn ways g)) (vi mn ways) l/\∃fs,l.af[ways.length]?=some ([jr ways g 0,jr ways g 1,jr ways g 2],fs):=by
 obtain⟨la,lb,hs,t,a⟩:=xH o ways.length (Qmq _)
 have n:T6 ways la lb (iH ways ways.length) hs [9,9,9] 0:=⟨a.last,a.am,λh C=>List.mem_range.mp (List.mem_filter.mp C).1,List.nodup_range.filter _,a.aw,a.bm⟩
 have d:la.length=(iH ways ways.length).length:=by have:=congrArg List.length a.am;simpa using this
 have A:decide (lb≠[])=Bn ways:=by
  have:(lb≠[])↔Bn ways=true:=by
   rw[a.b0]
   unfold Bn
   rw[List.any_eq_true]
   constructor
   ·rintro⟨h,b,e⟩
    refine⟨ways[h],List.getElem_mem b,?_⟩
    unfold p_ at e
    rw[gQe b] at e
    exact e
   ·rintro⟨u,w,e⟩
    obtain⟨h,b,rfl⟩:=QbQ w
    refine⟨h,b,?_⟩
    unfold p_
    rw[gQe b]
    exact e
  by_cases c:lb≠[]
  ·rw[Qeq c,this.mp c]
  ·rw[Qdq c]
   cases h:Bn ways with
   |false=>rfl
   |true=>exact absurd (this.mpr h) c
 have f:∀c,decide (la.drop c≠[])=decide (c<(iH ways ways.length).length):=λc=>by
  have:(la.drop c≠[])↔c<(iH ways ways.length).length:=by
   rw[←List.length_pos_iff,List.length_drop,d]
   omega
  simp only[this]
 obtain⟨G,s,B⟩:=CY (x:="x") o rfl n
 obtain⟨H,r,v⟩:=Ap (x:="y") o j rfl rfl B
 obtain⟨m,z,y⟩:=Ap (x:="z") o j rfl rfl v
 refine⟨cE (r6 (-1) [] ((la.drop 1).drop 1) lb) m,((t.trans s).trans r).trans z,[aP 5],?_⟩
 show m[ways.length]?=_
 have i:=f 0
 have p:=f 1
 have F:=f 2
 rw[List.drop_zero] at i
 have k:=y.last
 rw[List.drop_drop,A,i,p,F] at k
 rw[k]
 rfl
end
end W28
namespace DL
open PySem PySem.Spec L2
def Hh{n:Nat}{b:cy}{ds:List D}{S:aC}{Q:Res->aC->Prop} (h:T b (ds.map some++List.replicate (n-ds.length) none) S λo=>match o with
   |.nx _ a=>Q (.d .non) a|.rt d a=>Q (.d d) a|.rl l a=>Q (.l l) a|_=>False):Fn (EX n b) ds S Q:=by
 obtain⟨o,c,q⟩:=h
 cases o with
 |nx e a=>exact⟨_,_,by unfold EX;rw[c];rfl,q⟩
 |rt d a=>exact⟨_,_,by unfold EX;rw[c];rfl,q⟩
 |rl d a=>exact⟨_,_,by unfold EX;rw[c];rfl,q⟩
 |bk=>exact q.elim
 |ct=>exact q.elim
theorem CS{α:Type}(d:α):∀n:Nat,(List.replicate n [d]).flatten=List.replicate n d
 |0=>rfl
 |n+1=>by rw[QNq,QNq,List.flatten_cons,CS d n];rfl
def sF{S:aC}{d:D}{n:Nat}{Q:D->Prop}(a:n<=9)(q:Q (.tup (List.replicate n d))):Op (mf S (.tup [d]) (.int n)) Q:=by
 refine⟨_,?_,q⟩
 unfold mf
 rw[show(List.replicate n d)=(List.replicate ((n:Int)).toNat [d]).flatten by rw[show((n:Int)).toNat=n by omega,CS]]
 exact Qhq ⟨by omega,by omega,by simp,nQl (aH (by simp;omega))⟩
end DL
namespace W28
open PySem PySem.Spec L2 DL
def CT{S:aC}{i j:Str}{Q:D->Prop}(q:Q (.bl (!decide (i=j)))):Op (fI true S (.str i) (.str j)) Q:=⟨_,by simp[fI,pQ,tM],q⟩
def e_:Way->Str
 |none=>""
 |some (false,_)=>"staya"
 |some (true,_)=>"stayb"
section
variable{mn:Str}{ways:List Way}{g:Nat}{S S0:aC}{Q:Res->aC->Prop}{k lw:Nat}
theorem ou(f:Way->D):∀(l:List Way) (n:Nat),ib n (l.map f)=(l.zipIdx n).map λp=>D.tup [.int (p.2:Nat),f p.1]
 | [],_=>rfl
 | u::l,n=>by
   show D.tup [.int n,f u]::ib (n+1) (l.map f)=_
   rw[ou f l (n+1),List.zipIdx_cons]
   rfl
def ya(h:ways.length<=3):((ways.zipIdx 0).filter λp=>fH p.1).map (·.2)=iH ways ways.length:=by
 rcases ways with _|⟨a,_|⟨b,_|⟨c,_|⟨d,r⟩⟩⟩⟩
 ·rfl
 ·cases e:fH a <;>simp[iH,p_,List.range_succ,e]
 ·cases e:fH a <;>cases f:fH b <;>simp[iH,p_,List.range_succ,e,f]
 ·cases e:fH a <;>cases f:fH b <;>cases i:fH c <;>simp[iH,p_,List.range_succ,e,f,i]
 ·simp at h
def zt{u:Way}:decide (e_ u="staya")=fH u:=by
 rcases u with _|⟨_|_,t⟩
 ·show decide (("":Str)="staya")=false
  decide +kernel
 ·show decide (("staya":Str)="staya")=true
  decide +kernel
 ·show decide (("stayb":Str)="staya")=false
  decide +kernel
def kZ(mn:Str)(ways:List Way):Nat->List Nat
 |0=>wv ways ways.length++ [ways.length,ways.length,ways.length]
 |j+1=>kZ mn ways j++mH mn ways.length ((iH ways ways.length).drop j)
def vq(i:Nat):(wv ways i).length<=2*i:=by
 have:=gn (f:=λh=>if p_ ways h=none then [] else [h,h]) (n:=2) (l:=List.range i) λa _=>by split <;>simp
 unfold wv
 rwa [QVq] at this
theorem sY(a:ways.length<=3):∀j,(kZ mn ways j).length<=9+7*j
 | 0=>by
   have:=vq (ways:=ways) ways.length
   simp only[kZ,lQa,Qnq,QGq]
   omega
 | j+1=>by
   have:=sY a j
   have b:(mH mn ways.length ((iH ways ways.length).drop j)).length<=7:=by
     unfold mH
     split <;>simp <;>omega
   simp only[kZ,lQa]
   omega
def wy(Z:ways.length<=3)(G:S[lw]?=some (.lst (ways.map λu=>.str (e_ u))))(q:Q (.d (.tup ((vi mn ways).map cb))) S):Fn eh [(w6 mn ways g).d,.ref lw] S Q:=by
 refine bD ?_
 unfold fW
 symm
 refine⟨by show 0<=_;decide,?_⟩
 symm
 apply kC (q_ ?_)
 refine dF G ?_
 refine⟨λi m r=>(∃U M,m= [some (w6 mn ways g).d,some (.ref lw),some (.tup ((wv ways i).map cb)),U,M,none,none,none])/\r=S,⟨⟨_,_,rfl⟩,rfl⟩,λ_ _ _ h=>by rw[h.2];exact G,?_,?_⟩
 ·rintro i d m r P ⟨⟨U,M,rfl⟩,rfl⟩
  obtain⟨z,hz,rfl⟩:=jl P
  rw[gQm] at hz
  obtain⟨u,Y,rfl⟩:=oQm.mp hz
  rw[Nat.zero_add]
  apply dE rfl (ay (aQ (ay (aQ (a7 ?_)))))
  refine⟨by show 1<=_;decide,?_⟩
  symm
  apply CT ?_
  refine iX ?_
  refine mM (.inl ⟨by decide,by decide⟩) ?_
  have N:p_ ways i=u:=by unfold p_;rw[Y];rfl
  have a0:=vq (ways:=ways) i
  have a1:=(gQs.mp Y).1
  obtain⟨n,hn,a6,hr⟩:∃n:Nat,(2:Int)*(if (!decide (e_ u=""))=true then 1 else 0)=n/\n<=2/\List.replicate n (cb i)=(if p_ ways i=none then [] else [i,i]).map cb:=by
   rw[N]
   cases u with
   |none=>exact⟨0,by decide +kernel,by omega,rfl⟩
   | some bt=>
     obtain⟨b,t⟩:=bt
     cases b with
     |false=>exact⟨2,by rw[Qdq (show¬e_ (some (false,t))="" by show¬("staya":Str)="";decide +kernel)];rfl,by omega,rfl⟩
     |true=>exact⟨2,by rw[Qdq (show¬e_ (some (true,t))="" by show¬("stayb":Str)="";decide +kernel)];rfl,by omega,rfl⟩
  rw[hn]
  refine sF (by omega) ?_
  refine bK (by rw[lQm,QIq];exact nQl (aH (by omega))) ?_
  rw[show(D.int ((i:Nat):Int))=cb i from rfl,hr,←Qzq,←rJ]
  exact⟨⟨_,_,rfl⟩,rfl⟩
 ·rintro m r ⟨⟨U,M,rfl⟩,rfl⟩
  have el:(ib 0 (ways.map λu=>D.str (e_ u))).length=ways.length:=by rw[ou];simp
  rw[el]
  have a2:=vq (ways:=ways) ways.length
  symm
  refine dF G ?_
  rw[lQm]
  symm
  refine⟨by show 1<=_;decide,?_⟩
  symm
  refine sF (n:=3) (by omega) ?_
  refine bK (by rw[lQm,QIq];exact nQl (aH (by omega))) ?_
  have e0:(wv ways ways.length).map cb++List.replicate 3 (D.int (ways.length:Nat))=(kZ mn ways 0).map cb:=by simp[kZ,cb,List.replicate]
  rw[e0]
  symm
  refine nB (α:=Way×Nat) (λm=>∃a b,m= [a,b]) (λp=>D.tup [.int (p.2:Nat),.str (e_ p.1)]) (λp=>cb p.2) (λp=>fH p.1) ⟨_,_,rfl⟩ ?_
  apply q_ ?_
  refine dF G ?_
  refine⟨ways.zipIdx 0,ou _ _ _,G,by simp;omega,λp hp m W=> ?_,?_⟩
  ·obtain⟨a,b,rfl⟩:=W
   refine dE rfl (ay (aQ (ay (aQ (a7 ?_)))))
   refine⟨rfl,⟨_,_,rfl⟩,?_⟩
   refine sI (D_ (da rfl (Hr (eQ ?_))))
   refine⟨rfl,zt,λ_=>da rfl ⟨rfl,rfl⟩⟩
  rw[show((ways.zipIdx 0).filter λp=>fH p.1).map (λp=>cb p.2)=(((ways.zipIdx 0).filter λp=>fH p.1).map (·.2)).map cb by rw[QPq];rfl,ya Z]
  symm
  refine kC (xf (Hr ⟨(2:Nat),rfl,by decide,?_⟩))
  refine⟨λj m K=>(∃A y H,m= [some (w6 mn ways g).d,some (.ref lw),some (.tup ((kZ mn ways j).map cb)),A,y,some (.int (ways.length:Nat)),some (.ref r.length),H])/\K=r++ [.lst (((iH ways ways.length).drop j).map cb)],⟨⟨_,_,_,rfl⟩,by rw[List.drop_zero]⟩,λ_ _ _ _=>trivial,?_,?_⟩
  ·rintro j d m K P ⟨⟨A,y,H,rfl⟩,rfl⟩
   obtain⟨rfl,hj⟩:=kr (j:=2) P
   have a5:=sY (mn:=mn) Z j
   apply aQ ?_
   refine⟨by show 2<=_;decide,?_⟩
   refine bK (by rw[lQm];exact nQl (aH (by show _+2<=1000;omega))) ?_
   symm
   have a9:r.length<(r++ [O.lst (((iH ways ways.length).drop j).map cb)]).length:=by simp
   have e2:(kZ mn ways j).map cb++ [.int (ways.length:Nat),.int (ways.length:Nat)]=(kZ mn ways j++ [ways.length,ways.length]).map cb:=by simp[cb]
   rw[e2]
   have B:∀(f:List Nat) (a b:Option D),f.length<=1->f=(if mn="at once" then((iH ways ways.length).drop j).take 1 else [])->T (aS 2 (aW bE (av 2) (aW mf (aK (ar (av 5) ax)) (cF (.int 4))))) [some (w6 mn ways g).d,some (.ref lw),some (.tup ((kZ mn ways j++ [ways.length,ways.length]++f).map cb)),a,b,some (.int (ways.length:Nat)),some (.ref r.length),some (.int j)] (r++ [.lst (((iH ways ways.length).drop (j+1)).map cb)])
     λo=>∃w J,o=.nx w J/\(∃A y H,w= [some (w6 mn ways g).d,some (.ref lw),some (.tup ((kZ mn ways (j+1)).map cb)),A,y,some (.int (ways.length:Nat)),some (.ref r.length),H])/\J=r++ [.lst (((iH ways ways.length).drop (j+1)).map cb)]:=λf a b L he=>by
    symm
    refine⟨by show 1<=_;decide,?_⟩
    symm
    refine sF (n:=4) (by omega) ?_
    refine bK (by rw[lQm,QIq,lQa,lQa];exact nQl (aH (by show _+2+_+4<=1000;omega))) ?_
    have e4:(kZ mn ways j++ [ways.length,ways.length]++f).map cb++List.replicate 4 (.int (ways.length:Nat))=(kZ mn ways (j+1)).map cb:=by
     simp only[kZ,mH]
     rw[←he]
     simp[cb,List.replicate]
    rw[e4]
    exact⟨_,_,rfl,⟨_,_,_,rfl⟩,rfl⟩
   refine dF bq ⟨⟨rfl,bq⟩,?_⟩
   cases C:(iH ways ways.length).drop j with
   | nil=>
     have s:(iH ways ways.length).drop (j+1)= []:=by rw[←List.drop_drop,C];rfl
     refine bu (λc=>by cases c) (λ_=>cD ?_)
     have:=B [] A y (by simp) (by rw[C];split <;>rfl)
     rw[s] at this
     rw[List.append_nil] at this
     exact this.mono λo ⟨w,J,e,v,x⟩=>by subst e;exact⟨v,by rw[s];exact x⟩
   | cons h l=>
     have s:(iH ways ways.length).drop (j+1)=l:=by rw[←List.drop_drop,C];rfl
     apply bu (λ_=> ?_) (λc=>by cases c)
     apply AQ ?_
     apply⟨_,_,rfl,bq,?_⟩
     refine⟨_,bq,?_⟩
     refine Ha (d:=(l.map cb,cb h)) ?_ ?_
     · simp only[nO]
       have a8:l.length<900:=by
         have v:=congrArg List.length C
         have x:=List.length_filter_le (λh=>fH (p_ ways h)) (List.range ways.length)
         rw[List.length_drop,Qnq] at v
         rw[QVq] at x
         unfold iH at v
         omega
       have e5:seqIndex? (0:Int) ((h::l).map cb).length=some 0:=FN (j:=0) (by simp) (by rw[lQm,Qnq];omega)
       rw[Qhq ⟨by decide,by decide⟩,e5]
       rfl
     rw[show(r++ [O.lst ((h::l).map cb)]).set r.length (.lst (l.map cb))=r++ [.lst (l.map cb)] by simp]
     symm
     refine⟨by show 1<=_;decide,?_⟩
     symm
     apply au rfl ?_
     apply au (d:=(kh mn).d) rfl ?_
     apply au (d:=.str mn) rfl ?_
     apply eQ ?_
     refine iX ?_
     have F:∀f:List Nat,f=(if mn="at once" then((iH ways ways.length).drop j).take 1 else [])->List.replicate f.length (cb h)=f.map cb->f.length<=1->(if decide (mn="at once")=true then(1:Int) else 0)=(f.length:Nat)->Op (mf (r++ [O.lst (l.map cb)]) (.tup [cb h]) (.int (if decide (mn="at once")=true then 1 else 0))) λd=>d=.tup (f.map cb):=λf _ v x R=>by
       rw[R]
       refine sF (by omega) ?_
       rw[v]
     obtain⟨f,L,v,x,R⟩:∃f:List Nat,f=(if mn="at once" then((iH ways ways.length).drop j).take 1 else [])/\List.replicate f.length (cb h)=f.map cb/\f.length<=1/\(if decide (mn="at once")=true then(1:Int) else 0)=(f.length:Nat):=by
       by_cases I:mn="at once"
       · exact⟨[h],by rw[Qhq I,C];rfl,rfl,by simp,by rw[Qeq I];rfl⟩
       · exact⟨[],by rw[Quq I],rfl,by simp,by rw[Qdq I];rfl⟩
     obtain⟨d,X,rfl⟩:=F f L v x R
     refine⟨_,X,?_⟩
     refine bK (by rw[lQm,lQm,lQa];exact nQl (aH (by show _+2+_<=1000;omega))) ?_
     rw[←Qzq]
     have:=B f (some (cb h)) y x L
     rw[s] at this
     exact this.mono λo ⟨w,J,e,v,x⟩=>by subst e;exact⟨v,by rw[s];exact x⟩
  ·rintro m K ⟨⟨A,y,H,rfl⟩,rfl⟩
   symm
   refine uS nq.refl.app (λk z=>(nomatch z)) ?_ q
   simp only[bJ]
   exact bo λ_ _=>rfl
end
section
variable{mn:Str}{ways:List Way}{g:Nat}{S S0:aC}{Q:Res->aC->Prop}{k lw:Nat}
def FG(f:ways.length<=3):((ways.map e_).map V.str).countP (λz=>kb z (.str "staya"))=(iH ways ways.length).length:=by
 have e:∀u:Way,kb (.str (e_ u)) (.str "staya")=fH u:=λu=>by rw[←zt];by_cases c:e_ u="staya" <;>simp[kb,c]
 rw[←ya f,lQm,←List.countP_eq_length_filter]
 rcases ways with _|⟨a,_|⟨b,_|⟨c,_|⟨d,r⟩⟩⟩⟩
 ·rfl
 ·simp[List.countP_cons,e]
 ·simp[List.countP_cons,e]
 ·simp[List.countP_cons,e]
 ·simp at f
def zB{u:Way}:decide (e_ u="stayb")=AN u:=by
 rcases u with _|⟨_|_,t⟩
 ·show decide (("":Str)="stayb")=false
  decide +kernel
 ·show decide (("staya":Str)="stayb")=false
  decide +kernel
 ·show decide (("stayb":Str)="stayb")=true
  decide +kernel
def Es(t:ways.length<=3)(x:g<=9)(r:S[lw]?=some (.lst (ways.map λu=>.str (e_ u))))(q:Q (.d (.tup [.int (jr ways g 0),.int (jr ways g 1),.int (jr ways g 2)])) S):Fn i_ [.ref lw,.int g] S Q:=by
 have p:S[lw]?=some (.lst ((ways.map e_).map D.str)):=by rw[r,QPq];rfl
 have w:=(gQs.mp r).1
 refine bD ?_
 unfold l8
 symm
 apply⟨by decide,?_⟩
 refine kC (xf (Hr ⟨(3:Nat),rfl,by decide,?_⟩))
 refine⟨λj b n=>(∃o l i,b= [some (.ref lw),some (.int g),some (.ref S.length),o,l,i])/\n=S++ [.lst ((List.range j).map λc=>.int (jr ways g c))],⟨⟨_,_,_,rfl⟩,rfl⟩,λ_ _ _ _=>trivial,?_,?_⟩
 ·rintro j d b n s ⟨⟨o,l,i,rfl⟩,rfl⟩
  obtain⟨rfl,hj⟩:=kr (j:=3) s
  have a:(S++ [O.lst ((List.range j).map λc=>.int (jr ways g c))])[lw]?=some (.lst ((ways.map e_).map D.str)):=gW p
  apply aQ ?_
  apply Ef ?_
  apply dF a ⟨rfl,?_⟩
  refine⟨a,_,_,rfl,fq _,?_⟩
  rw[FG t]
  symm
  apply iX ?_
  apply Bw ?_
  refine dF a ⟨_,_,rfl,fq _,?_⟩
  have f:(if false=true then !xD (.str "stayb") ((ways.map e_).map V.str) else xD (.str "stayb") ((ways.map e_).map V.str))=Bn ways:=by
   show xD _ _=_
   rw[xI]
   unfold Bn
   by_cases c:("stayb":Str)∈ways.map e_
   ·rw[Qeq c]
    obtain⟨u,m,e⟩:=Qkq.mp c
    exact(List.any_eq_true.mpr ⟨u,m,by rw[←zB];exact Qeq e⟩).symm
   ·rw[Qdq c]
    refine(List.any_eq_false.mpr λu m h=>c ?_).symm
    rw[←zB] at h
    exact Qkq.mpr ⟨u,m,QZq h⟩
  rw[f]
  symm
  refine iX ?_
  apply mM (.inl ⟨by decide,by decide⟩) ?_
  apply AQ ?_
  apply⟨_,_,rfl,bq,?_⟩
  apply xw ?_
  refine⟨_,bq,vo (aH (by rw[lQm,QVq];omega)) ?_⟩
  have v:(if (if decide ((j:Int)<((iH ways ways.length).length:Nat))=true then(1:Int) else 0)+2*(if Bn ways=true then 1 else 0)+(g:Int)<9 then(if decide ((j:Int)<((iH ways ways.length).length:Nat))=true then(1:Int) else 0)+2*(if Bn ways=true then 1 else 0)+(g:Int) else 9)=jr ways g j:=by
   unfold jr xv
   have:decide ((j:Int)<((iH ways ways.length).length:Nat))=decide (j<(iH ways ways.length).length):=by simp
   rw[this]
   generalize (if decide (j<(iH ways ways.length).length)=true then(1:Int) else 0)+2*(if Bn ways=true then 1 else 0)+(g:Int)=z
   split <;>split <;>omega
  rw[v]
  refine⟨⟨_,_,_,rfl⟩,?_⟩
  rw[List.range_succ,Qzq]
  simp
 ·rintro b n ⟨⟨o,l,i,rfl⟩,rfl⟩
  symm
  refine dF bq ⟨rfl,?_⟩
  refine uS nq.refl.app (λk z=>(nomatch z)) ?_ q
  rfl
end
section
variable{S S0:aC}{Q:Res->aC->Prop}{k:Nat}
def Dm{a c:Str}{v:Nat}(h:(v:Int)<2):∃x:Str,(x=a\/x=c)/\lM ([.str a,.str c]:List D) (v:Int)=some (.str x):=by
 rcases(by omega:v=0\/v=1) with rfl|rfl
 ·exact⟨a,.inl rfl,rfl⟩
 ·exact⟨c,.inr rfl,rfl⟩
def w3:List Str:= ["staya","stayb",""]
def qK(u:Way):D:=fA ([],oB u)
def DJ{s:Str}(h:s∈w3)(t:Nat):∃u:Way,e_ u=s/\(u=none↔s="")/\∀b t',u=some (b,t')->t'=t:=by
 simp only[w3,Qsq,QXq,or_false] at h
 rcases h with rfl|rfl|rfl
 ·exact⟨some (false,t),rfl,⟨λz=>(nomatch z),λz=>absurd z (by decide +kernel)⟩,λb t' e=>by cases e;rfl⟩
 ·exact⟨some (true,t),rfl,⟨λz=>(nomatch z),λz=>absurd z (by decide +kernel)⟩,λb t' e=>by cases e;rfl⟩
 ·exact⟨none,rfl,⟨λ_=>rfl,λ_=>rfl⟩,λb t' e=>(nomatch e)⟩
def yg{n:Nat}(x:Ex k S0 S)(hn:3<=n)(c6:n<=4)
  (h:∀(mn:Str) (ways:List Way) (g w:Nat) (q:aC),(mn="at once" \/mn="when free")->ways.length=n-1->(∀b t,some (b,t)∈ways->t<=9)->g<=7->Ex k S0 q->w≠k->q[w]?=some (.lst (ways.map λu=>.str (e_ u)))->Q (.d (.tup [(w6 mn ways g).d,.ref w,.int g])) q):
  Fn fJ [.ref k,.int n] S Q:=by
 have y:Ex k S S:=by obtain⟨a,b,c,hh⟩:=x.pot;exact Ex.refl hh
 have kl:=x.lt
 refine Hh ?_
 unfold ix
 symm
 apply⟨by decide,?_⟩
 refine kE (y.app (G:= [O.lst [.str "at once",.str "when free"]])) (by decide) (by decide) λv F hv e1 c0 l1=> ?_
 dsimp only
 obtain⟨mn,b2,ha⟩:=Dm (a:="at once") (c:="when free") (v:=v) hv
 apply k9 (c0.keep _ _ (by omega) bq) ha ?_
 repeat (refine⟨by decide,?_⟩;symm)
 apply CN ?_
 apply⟨_,_,rfl,bq,?_⟩
 repeat (refine⟨by decide,?_⟩;symm)
 refine⟨_,bq,⟨rfl,by show 2+2<=sizeLine;decide⟩,?_⟩
 have c5:F.length=S.length+1:=by simpa using l1
 generalize a4:([D.tup [.str "ask",.tup [.tup [.str "tell",.tup [.str "plus",.tup [.str "plus",.tup [.str "waits",.str "a"],.tup [.str "plus",.tup [.str "waits",.str "b"],.tup [.str "waits",.str "b"]]],.str "given"]]]],.tup [.str "calla",.tup [.tup [.str "call",.str "a"]]]]:List D)=d2
 have b0:∀d4:List D,((F++ [O.lst d2]).set F.length (.lst d4))=F++ [.lst d4]:=λd4=>by simp
 have b1:d2++ [D.tup [.str "staya",.tup [.tup [.str "wait",.str "a",.int 0]]],.tup [.str "stayb",.tup [.tup [.str "wait",.str "b",.str "given"]]]]=(kh mn).ae.map fP:=by rw[←a4];rfl
 rw[b1,b0]
 clear b0 b1 a4
 have e2:Ex k S (F++ [O.lst ((kh mn).ae.map fP)]):=e1.app
 have N:(F++ [O.lst ((kh mn).ae.map fP)])[F.length]?=some (.lst ((kh mn).ae.map fP)):=bq
 have l2:(F++ [O.lst ((kh mn).ae.map fP)]).length=F.length+1:=by simp
 generalize (F++ [O.lst ((kh mn).ae.map fP)])=S2 at e2 N l2⊢
 generalize d3:F.length=ld at N l2⊢
 symm
 apply og (xf ?_)
 rw[show(n:Int)-1=((n-1:Nat):Int) by omega]
 refine⟨((n-1:Nat):Int),rfl,by omega,?_⟩
 have y2:Ex k S2 S2:=by obtain⟨a,b,c,hh⟩:=e2.pot;exact Ex.refl hh
 refine⟨λm p q P=>(∃a,p= [a,some (.ref k)])/\∃i:List Str,P=i.map D.str/\i.length=m/\(∀s∈i,s∈w3)/\Ex k S q/\Ex k S2 q,⟨⟨none,rfl⟩,[],rfl,rfl,λ_ h=>(nomatch h),e2,y2⟩,λ_ _ _ _ _=>trivial,?_,?_⟩
 ·rintro m d p q P L ⟨⟨a,rfl⟩,i,rfl,hlen,h9,J,ex2⟩
  obtain⟨rfl,hm⟩:=kr L
  apply aQ ?_
  rw[Qhq rfl]
  symm
  refine⟨by show 3<=_;decide,?_⟩
  symm
  have lS:=J.len
  refine B5 (xs:=w3.map D.str) (J.app (G:= [O.lst (w3.map D.str)])) (by omega) bq (by decide) (by decide) (λd L=> ?_) (λd L=> ?_) λc8 S4 c2 e4 b8 l4=> ?_
  ·obtain⟨s,_,rfl⟩:=Qkq.mp L
   exact⟨λk z=>(nomatch z),rfl⟩
  ·obtain⟨s,_,rfl⟩:=Qkq.mp L
   rfl
  obtain⟨s,hs,rfl⟩:=Qkq.mp c2
  refine⟨aH (by rw[lQm];omega),⟨_,rfl⟩,i++ [s],by simp,by simp[hlen],λz hz=> ?_,e4,?_⟩
  ·rcases mQa.mp hz with hz|hz
   ·exact h9 z hz
   ·rw[Qfq.mp hz];exact hs
  ·exact ex2.trans ((Ex.refl ex2.pot.choose_spec.choose_spec.choose_spec).app.trans b8)
 rintro p r P ⟨-,i,rfl,hlen,h9,e3,e3'⟩
 rw[AX] at hlen
 symm
 refine⟨by show 0<=_;decide,?_⟩
 have d6:=e3.len
 have c4:=e3'.len
 have e4:Ex k S (r++ [O.lst (i.map D.str)]++ [O.lst []]):=e3.app.app
 have K:(r++ [O.lst (i.map D.str)]++ [O.lst []])[r.length]?=some (.lst (i.map D.str)):=gW bq
 have U:(r++ [O.lst (i.map D.str)]++ [O.lst []])[(r++ [O.lst (i.map D.str)]).length]?=some (.lst []):=bq
 have a2:(r++ [O.lst (i.map D.str)]++ [O.lst []])[ld]?=some (.lst ((kh mn).ae.map fP)):=gW (gW (e3'.keep _ _ (by omega) N))
 have a3:(r++ [O.lst (i.map D.str)]).length=r.length+1:=by simp
 generalize (r++ [O.lst (i.map D.str)]++ [O.lst []])=S4 at e4 K U a2⊢
 generalize (r++ [O.lst (i.map D.str)]).length=lm at U a3⊢
 generalize d1:r.length=w at K a3⊢
 refine bZ (kC (vj ?_))
 refine Fw (da rfl (dF K ?_))
 refine⟨λj p q=>∃(f:List Way) (Z b4 a8 I:Option D),p= [some (.ref k),some (.int n),some (.str mn),Z,b4,some (.ref ld),some (.ref w),some (.ref lm),a8,I,none,none,none]/\f.map e_=i.take j/\f.length=j/\(∀b t,some (b,t)∈f->t<=9)/\q[lm]?=some (.lst (f.map qK))/\q[w]?=some (.lst (i.map D.str))/\q[ld]?=some (.lst ((kh mn).ae.map fP))/\Ex k S q,⟨[],_,_,_,_,rfl,rfl,rfl,λ_ _ h=>(nomatch h),U,K,a2,e4⟩,λ_ _ _ ⟨_,_,_,_,_,_,_,_,_,_,h,_⟩=>h,?_,?_⟩
 ·rintro j d p q L ⟨f,Z,b4,a8,I,rfl,B,H,hu9,M,hW,Y,J⟩
  rw[gQm] at L
  obtain⟨s,hs,rfl⟩:=oQm.mp L
  have hj:=(gQs.mp hs).1
  have c3:=h9 s (mQg hs)
  have R:∀(u:Way) (A:aC) (I:Option D),e_ u=s->(∀b t,u=some (b,t)->t<=9)->A[lm]?=some (.lst (f.map qK))->A[w]?=some (.lst (i.map D.str))->A[ld]?=some (.lst ((kh mn).ae.map fP))->Ex k S A->T (yD (Ak nN (av 7) (ar (aK (ar (aK ax) (ar (av 9) ax))) ax))) [some (.ref k),some (.int n),some (.str mn),Z,b4,some (.ref ld),some (.ref w),some (.ref lm),some (.str s),some (.tup ((oB u).map Rw.d)),none,none,none] A
    λo=>∃C W,o=.nx C W/\∃(f:List Way) (Z b4 a8 I:Option D),C= [some (.ref k),some (.int n),some (.str mn),Z,b4,some (.ref ld),some (.ref w),some (.ref lm),a8,I,none,none,none]/\f.map e_=i.take (j+1)/\f.length=j+1/\(∀b t,some (b,t)∈f->t<=9)/\W[lm]?=some (.lst (f.map qK))/\W[w]?=some (.lst (i.map D.str))/\W[ld]?=some (.lst ((kh mn).ae.map fP))/\Ex k S W:=λu A I h1 h2 M hW Y J=>by
   symm
   apply AQ ?_
   apply⟨_,_,rfl,M,?_⟩
   refine⟨by show 0<=_;decide,?_⟩
   symm
   refine⟨by show 2<=_;decide,?_⟩
   symm
   refine⟨_,M,vo (aH (by rw[lQm];omega)) ?_⟩
   refine⟨_,_,rfl,f++ [u],_,_,_,_,rfl,?_,by simp[H],λb t hb=> ?_,?_,q0 (by omega) hW,q0 (by omega) Y,J.put (by omega) kl⟩
   ·rw[Qzq,B,QYq,hs]
    simp[h1]
   ·rcases mQa.mp hb with hb|hb
    ·exact hu9 b t hb
    ·exact h2 b t (Qfq.mp hb).symm
   ·rw[qU M]
    simp[qK,fA]
  apply aQ ?_
  repeat (refine⟨by decide,?_⟩;symm)
  refine CT ?_
  by_cases c:s=""
  ·subst c
   refine bu (λc=>by simp at c) (λ_=>cD ?_)
   exact(R none q I rfl (λ_ _ z=>(nomatch z)) M hW Y J).mono λo ⟨C,r,e,h⟩=>by subst e;exact h
  ·apply bu (λ_=> ?_) (λc'=>by simp[c] at c')
   apply kE J (by decide) (by decide) λt9 A d5 e5 l l5=> ?_
   repeat (refine⟨by decide,?_⟩;symm)
   apply⟨nQl (aH (by simp)),?_⟩
   apply⟨nQl (aH (by simp)),?_⟩
   refine⟨nQl (aH (by simp)),?_⟩
   obtain⟨u,b5,c1,b6⟩:=DJ c3 t9
   have X:=l.keep _ _ (show lm≠k by omega) M
   have kW:=l.keep _ _ (show w≠k by omega) hW
   have kD:=l.keep _ _ (show ld≠k by omega) Y
   rcases u with _|⟨b,t'⟩
   ·exact absurd (c1.mp rfl) c
   ·have b7:=b6 b t' rfl
    subst b7
    have a0:t'<=9:=by omega
    subst b5
    cases b with
    | false=>
      refine T.mono (R (some (false,t')) A I rfl (λb t z=>by cases z;exact a0) X kW kD e5) ?_
      rintro o ⟨C,r,rfl,h⟩
      exact h
    | true=>
      refine T.mono (R (some (true,t')) A I rfl (λb t z=>by cases z;exact a0) X kW kD e5) ?_
      rintro o ⟨C,r,rfl,h⟩
      exact h
 ·rintro p q ⟨f,Z,b4,a8,I,rfl,B,H,hu9,M,hW,Y,J⟩
  have H:f.length=(i.map D.str).length:=H
  rw[lQm] at H
  have B:f.map e_=i.take (i.map D.str).length:=B
  rw[lQm,QEq] at B
  symm
  refine kE J (by decide) (by decide) λg A hg e5 l l5=> ?_
  have X:=l.keep _ _ (show lm≠k by omega) M
  have kW:=l.keep _ _ (show w≠k by omega) hW
  have kD:=l.keep _ _ (show ld≠k by omega) Y
  symm
  repeat (refine⟨nQl (aH (by simp)),?_⟩;symm)
  refine bK (by show 3+2<=sizeLine;decide) ?_
  symm
  apply AQ ?_
  apply⟨_,_,rfl,X,?_⟩
  repeat (refine⟨nQl (aH (by simp)),?_⟩;symm)
  refine⟨_,X,vo (aH (by rw[lQm];omega)) ?_⟩
  have hl:f.map qK++ [fA (wg,dN g)]=(jv f g).map fA:=by unfold jv;rw[Qzq,QPq];rfl
  show T _ _ (A.set lm (.lst (f.map qK++ [fA (wg,dN g)]))) _
  rw[hl]
  have e6:Ex k S (A.set lm (.lst ((jv f g).map fA))):=e5.put (by omega) kl
  have a6:=qU (o':=.lst ((jv f g).map fA)) X
  have a1:=q0 (k:=lm) (o':=.lst ((jv f g).map fA)) (show w≠lm by omega) kW
  have a5:=q0 (k:=lm) (o':=.lst ((jv f g).map fA)) (show ld≠lm by omega) kD
  generalize A.set lm (.lst ((jv f g).map fA))=W at e6 a6 a1 a5⊢
  symm
  repeat (refine⟨nQl (aH (by simp)),?_⟩;symm)
  apply dF a5 ⟨rfl,?_⟩
  repeat (refine⟨nQl (aH (by simp)),?_⟩;symm)
  apply dF a6 ⟨rfl,?_⟩
  repeat (refine⟨nQl (aH (by simp)),?_⟩;symm)
  refine h mn f g w W b2 (by omega) hu9 (by omega) (x.trans e6) (by omega) ?_
  rw[a1,←B,QPq]
  rfl
end
def AE:∀ns:List Int,ns.length<=63->∃i,BJ [.ref 0] [.frz (ns.map D.int)]=some (.d (.bl true),i):=by
 intro ns a8
 suffices h:Fn BJ [.ref 0] [.frz (ns.map D.int)] λr _=>r=.d (.bl true) by
  obtain⟨r,i,e,rfl⟩:=h
  exact⟨i,e⟩
 refine bD ?_
 unfold EI
 refine bZ (kC ?_)
 apply xf ?_
 apply Af rfl ?_
 apply xw ?_
 refine CM ?_
 obtain⟨m,W,a9⟩:∃m:Nat,(if (if (8:Int)<((ns.map D.int).length:Nat) then(8:Int) else((ns.map D.int).length:Nat))>(1:Int) then(if (8:Int)<((ns.map D.int).length:Nat) then(8:Int) else((ns.map D.int).length:Nat)) else 1)=(m:Int)/\m<=8:=by
  refine⟨(if (if (8:Int)<((ns.map D.int).length:Nat) then(8:Int) else((ns.map D.int).length:Nat))>(1:Int) then(if (8:Int)<((ns.map D.int).length:Nat) then(8:Int) else((ns.map D.int).length:Nat)) else 1).toNat,?_,?_⟩ <;>(repeat' split) <;>omega
 refine⟨m,congrArg D.int W,by omega,?_⟩
 refine⟨λn p i=>(∃L J K I B H,p= [some (.ref 0),L,J,K,I,B,H])/\i[0]?=some (.frz (ns.map D.int)),⟨⟨_,_,_,_,_,_,rfl⟩,rfl⟩,λ_ _ _ _=>trivial,?_,?_⟩
 ·rintro n0 d p S A ⟨⟨L,J,K,I,B,H,rfl⟩,hS⟩
  obtain⟨rfl,_⟩:=kr A
  apply aQ ?_
  apply Dl hS λs y=> ?_
  have f:Ex S.length (S++ [lT s y 0]) (S++ [lT s y 0]):=Ex.refl bq
  have w:(S++ [lT s y 0])[0]?=some (.frz (ns.map D.int)):=gW hS
  have N:0≠S.length:=by
   have:=(gQs.mp hS).1
   omega
  show Fn cq [.ref S.length,.int 2] (S++ [lT s y 0]) _
  generalize S.length=kp at f N⊢
  generalize S++ [lT s y 0]=S1 at f w⊢
  apply kE f (by decide) (by decide) λv S2 hv e2 U l2=> ?_
  rw[show(3:Int)+(v:Int)=((3+v:Nat):Int) by omega]
  refine yg e2 (by omega) (by omega) λmn b g lw S3 q a0 h9 hg e3 Q G=> ?_
  refine dE rfl (ay (aQ (ay (aQ (ay (aQ (a7 ?_)))))))
  have ok:cU (w6 mn b g):=Gu q (by omega) h9 (by omega)
  have j:b.length<=3:=by omega
  symm
  apply wy j G ?_
  obtain⟨Z,Y,R,C⟩:=zV ok q
  have X:(vi mn b).length<=30:=by
   have:=sY (mn:=mn) j 2
   exact QAq this (by decide)
  obtain⟨xs,x⟩:=Y 1 (by omega) (yM ok)
  obtain⟨F,t,M,u⟩:=x [] (λn h Z e z=>by simp at z) rfl
  rw[List.nil_append] at M u
  rw[←t]
  refine yI ok M (by have:=congrArg List.length t;simp at this;omega) ?_
  symm
  refine au (d:=(i9 (w6 mn b g) F).d) rfl ?_
  rw[u]
  symm
  apply au rfl ?_
  refine dF G ?_
  rw[lQm]
  refine au (d:=xK ([jr b g 0,jr b g 1,jr b g 2],R)) (aL (by rw[gQm,C];rfl)) ?_
  symm
  apply au rfl ?_
  apply Es j (by omega) G ?_
  refine xS 10 (.tup [.int (jr b g 0),.int (jr b g 1),.int (jr b g 2)]) ⟨by simp,λd A=>by
   simp only[Qsq,QXq,or_false] at A
   rcases A with rfl|rfl|rfl <;>trivial⟩ ?_
  refine vQ ?_
  refine bu (λc=>by cases c) (λ_=>cD ?_)
  exact⟨⟨_,_,_,_,_,_,rfl⟩,e3.keep _ _ N w⟩
 ·rintro p i ⟨⟨L,J,K,I,B,H,rfl⟩,hS⟩
  symm
  have hl:=(gQs.mp hS).1
  refine eW (S2:= [.frz (ns.map D.int)]) ⟨by show 1<=i.length;omega,λk o P e=> ?_⟩ ?_ (λk z=>(nomatch z)) rfl rfl
  ·have P:k<1:=P
   have:k=0:=by omega
   subst this
   rw[hS] at e
   exact .inl e
  ·cases i with
   |nil=>simp at hl
   | cons a l=>
     simp at hS
     subst hS
     rfl
end W28
open PySem PySem.W PyProof.Rows L2 DL
theorem PySem.Challenge.cw_calledroom_k26_who_waits_told_holds : PySem.Challenge.rw_calledroom_k26_who_waits_told.Holds := by
  w_on; o_law; k_head; (case hw => w_witness2)
  k_fill
  refine DL.uj (l := PySem.Challenge.rw_calledroom_k26_who_waits_told) (k := 14) rfl rfl ⟨rfl, by decide, by decide⟩ (λw h Y => PySem.W.kIn_of Y) (λw => ?nl) ?F
  case nl => rfl
  case F =>
    intro w mg fa h KX G hmg
    refine' W28.all_mk KX G hmg ?_ ?_ ?_ ?_ ?_ ?_ ?_ ?_ ?_ ?_ ?_ ?_ ?_ ?_ ?_ ?_ ?_ ?_ ?_ ?_ ?_ ?_ ?_ ?_ ?_ ?_ ?_ ?_ ?_ ?_ ?_ ?_ ?_ ?_ ?_ ?_ ?_ ?_ ?_ ?_ ?_ ?_ ?_ ?_ ?_ ?_ ?_ ?_ ?_ ?_ ?_ ?_ ?_ ?_ ?_ ?_ ?_ ?_ ?_ ?_ ?_ ?_ ?_ ?_ ?_ ?_ ?_ ?_ ?_ ?_ ?_ ?_ ?_ ?_ ?_ ?_ ?_ W28.AE
    any_goals first | exact DL.aU.of (by k_is) (by k_is) (by k_is) (by k_is) | k_is
