import PyProof.Rows.All
import Wide.All
import OpenK.AllK
import Wide.FinOn
import Lean
import PyProof.EqAt
import PyProof.EqKinds
import PyProof.TupleCall
import PyProof.NeKinds
import PyProof.ListRange
import PyProof.ConsumeWalk
import PyProof.StrWalks
import PyProof.Rows.StrJoin2
import PyProof.Rows.SetFrom
import PyProof.SetNew
import PyProof.DictUpdate
import PyProof.FactsAll.dict_0
import PyProof.FactsAll.dict_1
import PyProof.FactsAll.dict_2
import PyProof.FactsAll.dict_3
import PyProof.FactsAll.dict_4
import PyProof.AttrMissSeq
import PyProof.AttrMissHeap
import KE.KEqDict
import PyProof.TupleKey
import PyProof.SetRoads
import PyProof.SetScanFacts
import PyProof.ForWalkI
import PyProof.FactsAll.set_0
import PyProof.FactsAll.set_1
import PyProof.FactsAll.set_2
import PyProof.CollectWalk
import PyProof.Rows.SortStr
import PyProof.Rows.SortShellK
import PyProof.ZipIter
import KE.KSortTup
import PyProof.ReprRoads
import PyProof.StrLawsRepr
import PyProof.CallFns
import PyProof.FactsAll.zip
import PyProof.DictCompW
import PyProof.EnumFor
import PyProof.EnumStmt
import PyProof.Draws
import KE.KUnpack
import PyProof.P3Eq
import PyProof.NeData
import PyProof.ListMulRoad
import PyProof.FactsAll.tuple
import PySem.Challenge.RW_calledroom_k25_turns_at_bells
set_option Elab.async false
set_option linter.all false
set_option maxRecDepth 100000
set_option maxHeartbeats 8000000
namespace PySem.W.Fast
def tw13530412308123011201:True:=⟨⟩
def tw14371811963986917855:True:=⟨⟩
def tw11490619145550890492:True:=⟨⟩
def tw4813932929815132031:True:=⟨⟩
def tw6434501106576381981:True:=⟨⟩
def tw1455711926161767743:True:=⟨⟩
def tw13884586803985446481:True:=⟨⟩
def tw16642189314296367429:True:=⟨⟩
def tw12127982701379433472:True:=⟨⟩
def tw17869720058626537931:True:=⟨⟩
def tw6654542675584810022:True:=⟨⟩
def tw17452904252576338236:True:=⟨⟩
def tw9174051812618677520:True:=⟨⟩
def tw14335440469709725630:True:=⟨⟩
def tw13158515941689064507:True:=⟨⟩
def tw14274488667277938267:True:=⟨⟩
def tw17121240233605103077:True:=⟨⟩
def tw4517132780975850752:True:=⟨⟩
def tw6730387178024854307:True:=⟨⟩
def tw13841328665363963736:True:=⟨⟩
def tw12644838818615081133:True:=⟨⟩
def tw1848128615518483607:True:=⟨⟩
def tw2851570044423546482:True:=⟨⟩
def tw15281075751461203267:True:=⟨⟩
def tw14769865960753274193:True:=⟨⟩
def tw9714089771945727015:True:=⟨⟩
def tw15918926438840321240:True:=⟨⟩
def tw15182379132899726428:True:=⟨⟩
def tw1772350870807077092:True:=⟨⟩
def tw10144293929154231098:True:=⟨⟩
def tw7877918341377606040:True:=⟨⟩
def tw6493771359245615386:True:=⟨⟩
def tw14459971706199044980:True:=⟨⟩
def tw2061156675068403474:True:=⟨⟩
def tw6445957632170305331:True:=⟨⟩
def tw17606498718054749411:True:=⟨⟩
def tw10150075656689973132:True:=⟨⟩
def tw3738593189767088114:True:=⟨⟩
def tw13920490711896362807:True:=⟨⟩
def tw17474069173715830707:True:=⟨⟩
def tw2745011430777340011:True:=⟨⟩
def tw6695974071557857354:True:=⟨⟩
def tw8118493006841283073:True:=⟨⟩
def tw6389469786528939806:True:=⟨⟩
def tw12981797440102851864:True:=⟨⟩
def tw12789876266147206508:True:=⟨⟩
def tw11518865412802709240:True:=⟨⟩
def tw18040891885422964409:True:=⟨⟩
def tw16242933204035954519:True:=⟨⟩
def tw17456301773911300369:True:=⟨⟩
def tw15951803458195027675:True:=⟨⟩
def tw6090097156574471026:True:=⟨⟩
def tw12929653847396371183:True:=⟨⟩
def tw1947355419254922487:True:=⟨⟩
def tw17079082863571265368:True:=⟨⟩
def tw5193063295638077773:True:=⟨⟩
def tw17312693644536598515:True:=⟨⟩
def tw2104534448994668919:True:=⟨⟩
def tw12316446169153002097:True:=⟨⟩
def tw17892514287939839118:True:=⟨⟩
def tw16507845211135975189:True:=⟨⟩
def tw10992387744350719588:True:=⟨⟩
def tw2072259212298190341:True:=⟨⟩
def tw11427406610513289919:True:=⟨⟩
def tw13311376196366459966:True:=⟨⟩
def tw17458931212755648209:True:=⟨⟩
def tw3368323430899898802:True:=⟨⟩
def tw8718025368491695999:True:=⟨⟩
def tw13575612255876450647:True:=⟨⟩
def tw17587469981130396074:True:=⟨⟩
def tw1483906940170762292:True:=⟨⟩
def tw10817214919857696562:True:=⟨⟩
def tw5573476883907939389:True:=⟨⟩
def tw429032538379431181:True:=⟨⟩
def tw18420776737771140173:True:=⟨⟩
def tw3488708105651723223:True:=⟨⟩
def tw9725937836727198096:True:=⟨⟩
def tw16454041234388099873:True:=⟨⟩
def tw17807531043224112772:True:=⟨⟩
def tw8595803044655477913:True:=⟨⟩
def tw10151539331714901932:True:=⟨⟩
def tw8702273098189038424:True:=⟨⟩
def tw1206494451635054438:True:=⟨⟩
def tw2257974079079944240:True:=⟨⟩
def tw1389438549433609:True:=⟨⟩
def tw17206497845762282326:True:=⟨⟩
def tw16207092682780341164:True:=⟨⟩
def tw7139926959767189093:True:=⟨⟩
def tw2410852963706796044:True:=⟨⟩
def tw16225884205033908063:True:=⟨⟩
def tw12332299553648056437:True:=⟨⟩
def tw16728044492849834685:True:=⟨⟩
def tw4942432851263522235:True:=⟨⟩
def tw3417719722190975749:True:=⟨⟩
def tw9973183109775645103:True:=⟨⟩
def tw2257537731311678597:True:=⟨⟩
def tw9178443486038201906:True:=⟨⟩
def tw12695787574789763749:True:=⟨⟩
def tw10445289261022677667:True:=⟨⟩
def tw12757383016681712605:True:=⟨⟩
def tw16438322064701815231:True:=⟨⟩
def tw3800221131772208519:True:=⟨⟩
def tw16025126038763827911:True:=⟨⟩
def tw6491322634123355374:True:=⟨⟩
def tw536514880380044357:True:=⟨⟩
def tw10353149016516364563:True:=⟨⟩
def tw12834655585180798045:True:=⟨⟩
def tw10638751778560202259:True:=⟨⟩
def tw9577623406022891714:True:=⟨⟩
def tw15442617536651569223:True:=⟨⟩
def tw5646992116017529340:True:=⟨⟩
def tw16409346547446508748:True:=⟨⟩
def tw9384816957305417376:True:=⟨⟩
def tw15067283718456506079:True:=⟨⟩
def tw11046741715183734356:True:=⟨⟩
def tw2154404411175870654:True:=⟨⟩
def tw11531856900481644710:True:=⟨⟩
def tw17257881744800736547:True:=⟨⟩
def tw3691270230284176641:True:=⟨⟩
def tw14953485203214019941:True:=⟨⟩
def tw16850603628201725671:True:=⟨⟩
def tw12801785844552139354:True:=⟨⟩
def tw9239601635845873299:True:=⟨⟩
def tw4230823866402950735:True:=⟨⟩
def tw3283609370880882505:True:=⟨⟩
def tw8077957963228963402:True:=⟨⟩
def tw2101847893248493207:True:=⟨⟩
def tw17400870808315123955:True:=⟨⟩
def tw15513807070162024979:True:=⟨⟩
def tw3174309842383795448:True:=⟨⟩
end PySem.W.Fast
set_option bootstrap.genMatcherCode false
set_option compiler.extract_closed false
noncomputable section
local macro_rules|`(tactic|omega)=>`(tactic|lia)
abbrev gQm:=@List.getElem?_map
abbrev lQm:=@List.length_map
abbrev mQg:=@List.mem_of_getElem?
abbrev oQm:=@Option.map_eq_some_iff
abbrev gQe:=@List.getElem?_eq_getElem
abbrev gQs:=@List.getElem?_eq_some_iff
abbrev lQa:=@List.length_append
abbrev nQl:=@Nat.le_of_lt
abbrev mQa:=@List.mem_append
abbrev Qaq:=@PySem.wpAny_bind
abbrev Qbq:=@Option.bind_some
abbrev Qcq:=@PySem.Heap.get?_push_of_some
abbrev Qdq:=@decide_eq_false
abbrev Qeq:=@decide_eq_true
abbrev Qfq:=@List.mem_singleton
abbrev Qgq:=@PySem.wpAny_pure
abbrev Qhq:=@if_pos
abbrev Qiq:=@PySem.Heap.lt_size
abbrev Qjq:=@List.size_toArray
abbrev Qkq:=@List.mem_map
abbrev Qlq:=@List.getD_eq_getElem?_getD
abbrev Qmq:=@Nat.le_refl
abbrev Qnq:=@List.length_cons
abbrev Qoq:=@List.mem_append_right
abbrev Qpq:=@List.mem_cons_of_mem
abbrev Qqq:=@Nat.lt_of_lt_of_le
abbrev Qrq:=@PySem.Heap.get?_push_size
abbrev Qsq:=@List.mem_cons
abbrev Qtq:=@Bool.false_ne_true
abbrev Quq:=@if_neg
abbrev Qvq:=@List.append_assoc
abbrev Qwq:=@Nat.ne_of_lt
abbrev Qxq:=@List.length_take
abbrev Qyq:=@List.getElem?_set_self
abbrev Qzq:=@List.map_append
abbrev QAq:=@Nat.le_trans
abbrev QBq:=@List.mem_cons_self
abbrev QCq:=@Bool.and_eq_true
abbrev QDq:=@List.map_cons
abbrev QEq:=@List.take_length
abbrev QFq:=@PySem.W.mg_none_of
abbrev QGq:=@List.length_nil
abbrev QHq:=@List.getElem?_append_left
abbrev QIq:=@List.length_replicate
abbrev QJq:=@List.Perm.append_right
abbrev QKq:=@List.getElem?_set_ne
abbrev QLq:=@PySem.wpAny_holding
abbrev QMq:=@PySem.wpAny_field
abbrev QNq:=@List.replicate_succ
abbrev QOq:=@List.mem_flatMap
abbrev QPq:=@List.map_map
abbrev QQq:=@List.getElem?_append_right
abbrev QRq:=@PySem.wpAny_mono
abbrev QSq:=@List.flatMap_cons
abbrev QTq:=@List.mem_or_eq_of_mem_set
abbrev QUq:=@List.all_eq_true
abbrev QVq:=@List.length_range
abbrev QWq:=@List.drop_eq_getElem_cons
abbrev QXq:=@List.not_mem_nil
abbrev QYq:=@List.take_add_one
abbrev QZq:=@of_decide_eq_true
abbrev QaQ:=@of_decide_eq_false
abbrev QbQ:=@List.getElem_of_mem
abbrev QcQ:=@List.mem_of_getLast?
abbrev QdQ:=@Option.some.inj
abbrev QeQ:=@List.of_mem_zip
abbrev QfQ:=@List.getLast?_map
abbrev QgQ:=@PySem.wpAny_ite_false
abbrev QhQ:=@PySem.wpAny_newObj_type
abbrev QiQ:=@PySem.wpAny_callSpecial?_slot
abbrev QjQ:=@List.Sublist.refl
abbrev QkQ:=@List.eq_of_mem_replicate
abbrev QlQ:=@List.map_replicate
namespace L2
open PySem PySem.Spec PyProof.Rows
abbrev Key:=Sum Int Str
def oZ:Key->Value->Bool
 |.inl k,v=>Value.isInt k v
 |.inr x,v=>Value.isStrOf x v
def KM(w:World):Key->Int
 |.inl k=>hashInt k
 |.inr x=>hashStr w x
def da:∀{k:Key} {v:Value},oZ k v=true->(∃i t,k=Sum.inl i/\v=Value.int i t)\/(∃x t,k=Sum.inr x/\v=Value.str x t)
 | .inl i,v,h=>by
   obtain⟨t,e⟩:=Value.isInt_shape (k:=i) (v:=v) h
   exact .inl ⟨i,t,rfl,e⟩
 | .inr x,v,h=>by
   obtain⟨t,e⟩:=Value.isStrOf_shape (x:=x) (v:=v) h
   exact .inr ⟨x,t,rfl,e⟩
def B5(i:Int)(t:Tok):oZ (.inl i) (.int i t)=true:=by simp[oZ,Value.isInt]
def nN(x:Str)(t:Tok):oZ (.inr x) (.str x t)=true:=by simp[oZ,Value.isStrOf]
def Hc(a b:Int):decide ((Sum.inl a:Key)=Sum.inl b)=(a==b):=by
 by_cases e:a=b
 ·subst e;simp
 ·have h:¬(Sum.inl a:Key)=Sum.inl b:=λq=>e (Sum.inl.inj q)
  rw[Qdq h]
  exact(beq_eq_false_iff_ne.mpr e).symm
def GW(a b:Str):decide ((Sum.inr a:Key)=Sum.inr b)=decide (a=b):=by
 by_cases e:a=b
 ·subst e;simp
 ·have h:¬(Sum.inr a:Key)=Sum.inr b:=λq=>e (Sum.inr.inj q)
  rw[Qdq h,Qdq e]
def HW(a:Int)(b:Str):decide ((Sum.inl a:Key)=Sum.inr b)=false:=Qdq (λq=>nomatch q)
def HG(a:Str)(b:Int):decide ((Sum.inr a:Key)=Sum.inl b)=false:=Qdq (λq=>nomatch q)
def bN(prog:Program)(w:World):PySem.KeyKind prog w Key where
 is:=oZ
 hash:=KM w
 inj:=λv a b g f=>by
  rcases da g with⟨i,t,rfl,rfl⟩|⟨x,t,rfl,rfl⟩
  ·rcases da f with⟨j,u,rfl,e⟩|⟨y,u,rfl,e⟩
   ·injection e with c _;rw[c]
   ·exact nomatch e
  ·rcases da f with⟨j,u,rfl,e⟩|⟨y,u,rfl,e⟩
   ·exact nomatch e
   ·injection e with c _;rw[c]
 byValue:=λk v h=>by
  rcases da h with⟨i,t,rfl,rfl⟩|⟨x,t,rfl,rfl⟩ <;>rfl
 pyHash:=λd h=>by
  rcases da d with⟨i,t,rfl,rfl⟩|⟨x,t,rfl,rfl⟩
  ·exact wpAny_pyHash_int h
  ·exact wpAny_pyHash_str h
 eqBool:=λl d h=>by
  rcases da l with⟨i,t,rfl,rfl⟩|⟨x,t,rfl,rfl⟩
  ·rcases da d with⟨j,u,rfl,rfl⟩|⟨y,u,rfl,rfl⟩
   ·rw[Hc] at h;exact wpAny_eqBool_int h
   ·rw[HW] at h;exact SeqAt.EqAt.int_str i t y u _ _ _ _ h
  ·rcases da d with⟨j,u,rfl,rfl⟩|⟨y,u,rfl,rfl⟩
   ·rw[HG] at h;exact SeqAt.EqAt.str_int x t j u _ _ _ _ h
   ·rw[GW] at h;exact wpAny_eqBool_str h
 «strs»:=λk x t v h=>by
  rcases da h with⟨i,u,rfl,e⟩|⟨y,u,rfl,e⟩
  ·exact nomatch e
  ·injection e with c _
   subst c
   cases v <;>rfl
def yc(prog:Program)(w:World)(i:Int)(t:Tok):(bN prog w).is (.inl i) (.int i t)=true:=B5 i t
def xG(prog:Program)(w:World)(x:Str)(t:Tok):(bN prog w).is (.inr x) (.str x t)=true:=nN x t
inductive V where
 |non|bl (b:Bool)|int (i:Int)|str (x:Str)|byt (b:Array UInt8)|flt (b:UInt64)|ref (a:Addr)|ty (n:String)
 deriving DecidableEq
def RelV:V->Value->Prop
 |.non,u=>u=Value.none
 |.bl b,u=>u=Value.bool b
 |.int i,u=>∃t,u=Value.int i t
 |.str x,u=>∃t,u=Value.str x t
 |.byt b,u=>∃t,u=Value.bytes b t
 |.flt b,u=>∃t,u=Value.float b t
 |.ref a,u=>u=Value.ref a
 |.ty n,u=>u=Value.type n
abbrev bD:List V->List Value->Prop:=Paired RelV
def bD.length{xs:List V}{a:List Value}(r:bD xs a):xs.length=a.length:=Paired.length r
theorem bD.get:∀{xs:List V} {a:List Value} {i:Nat} {x:V},bD xs a->xs[i]?=some x->∃u,a[i]?=some u/\RelV x u
 |_,_,_,_,.nil,e=>by simp at e
 |_,_,0,_,.cons r _,e=>by simp at e;subst e;exact⟨_,rfl,r⟩
 | _,_,i+1,x,.cons _ t,e=>by
   obtain⟨u,b,c⟩:=bD.get (i:=i) (x:=x) t (by simpa using e)
   exact⟨u,by simpa using b,c⟩
theorem bD.set{x:V}{u:Value}(r:RelV x u):∀{xs:List V} {a:List Value} (i:Nat),bD xs a->bD (xs.set i x) (a.set i u)
 |_,_,_,.nil=>.nil
 |_,_,0,.cons _ t=>.cons r t
 |_,_,i+1,.cons q t=>.cons q (bD.set r i t)
theorem bD.append:∀{xs ys:List V} {a ws:List Value},bD xs a->bD ys ws->bD (xs++ys) (a++ws)
 |_,_,_,_,.nil,s=>s
 |_,_,_,_,.cons r t,s=>.cons r (bD.append t s)
theorem bD.take:∀{xs:List V} {a:List Value} (n:Nat),bD xs a->bD (xs.take n) (a.take n)
 |_,_,0,_=>.nil
 |_,_,_+1,.nil=>.nil
 |_,_,n+1,.cons r t=>.cons r (bD.take n t)
theorem bD.drop:∀{xs:List V} {a:List Value} (n:Nat),bD xs a->bD (xs.drop n) (a.drop n)
 |_,_,0,r=>r
 |_,_,_+1,.nil=>.nil
 |_,_,n+1,.cons _ t=>bD.drop n t
def qy:Option V->Option Value->Prop
 |some v,some u=>RelV v u
 |none,none=>True
 |_,_=>False
def KV{κ:Type}:List (κ×V)->List (κ×Value)->Prop:=Paired λ(p:κ×V) (q:κ×Value)=>p.1=q.1/\RelV p.2 q.2
def kV:Key->V
 |.inl i=>.int i
 |.inr x=>.str x
inductive HO where
 |lst (xs:List V)
 |tup (xs:List V)
 |dK (kvs:List (Key×V))|dT (kvs:List (List Key×V))
 |set (S:Int->Bool) (n:Nat)
 |ins (C dx:Addr) (fs:List (Str×V))
 |own (x:Addr)
 |xd (fs:List (Str×V))
 |met (f x:Addr)
 |rng (lo hi:Int)
 |frz (o:Obj) (u:HO)
 |tbl (ps:Array Value)
 |ext (φ:Heap->Prop)
abbrev Hp:=Addr->Option HO
def upd(H:Hp)(a:Addr)(o:HO):Hp:=λb=>if b=a then some o else H b
def bQ{H:Hp}{a:Addr}{o:HO}:upd H a o a=some o:=by unfold upd;rw[Qhq rfl]
def bj{H:Hp}{a b:Addr}{o:HO}(h:b≠a):upd H a o b=H b:=by unfold upd;rw[Quq h]
def D8{H:Hp}{a b:Addr}{o u:HO}(h:H a=some o)(h':H b=some u)(d:o≠u):a≠b:=by
 intro e;subst e;rw[h] at h';exact d (QdQ h')
def eX{H:Hp}{a b:Addr}{o:HO}(h:H a=some o)(h':H b=none):a≠b:=by
 intro e;subst e;rw[h] at h';cases h'
def vf(h:Heap)(a:Addr)(items:Array Value):Prop:=∃o,h.get? a=some o/\o.cls=.type "tuple" /\o.dict=none/\∃n,o.data=.seq items n
def vf.it{h:Heap}{a:Addr}{items:Array Value}(x:vf h a items):IsTup h a items:=by
 obtain⟨o,e,c,_,d⟩:=x
 exact⟨o,e,c,d⟩
def vf.new(h:Heap)(items:Array Value):vf (h.push {cls:=.type "tuple",data:=.seq items}) h.objs.size items:=⟨_,Qrq _ rfl,rfl,rfl,_,rfl⟩
section
variable(P:Program)(w:World)
def cY(H:Hp)(h:Heap)(a:Addr):HO->Prop
 |.lst d=>d.length<=sizeLine/\∃(c:List Value) (n:Nat),bD d c/\h.get? a=some {cls:=.type "list",data:=.seq c.toArray n}
 |.tup d=>d.length<=sizeLine/\∃c:List Value,bD d c/\vf h a c.toArray
 |.dK b=>b.length<=sizeLine/\(a==sysModules)=false/\∃k,KV b k/\h.DictOf (bN P w) a k
 |.dT b=>b.length<=sizeLine/\(a==sysModules)=false/\∃d:List (List Key×Addr×Value),
   Paired (λ(p:List Key×V) (q:List Key×Addr×Value)=>p.1=q.1/\H q.2.1=some (.tup (p.1.map kV))/\RelV p.2 q.2.2) b d∧
   ∃o l A,h.get? a=some o/\o.ExactDict/\o.data=.dict l A/\l.toList=d.map (entryOfKey (tupleKind (bN P w)))/\(d.map (·.1)).Nodup
 |.set S n=>h.SetOf (intKind P w) a S n
 |.ins C i g=>H i=some (.own a)/\g.length<=1000/\i≠a/\h.get? a=some (PySem.W.instObj C i)∧
   ∃e,h.Ns1 i e/\(∀f,qy (g.lookup f) (e f))/\PySem.Within e (g.map (·.1))
 |.own _=>∃o,h.get? a=some o
 |.xd g=>∃e,h.Ns1 a e/\∀f,qy (g.lookup f) (e f)
 |.rng z y=>∃t u v,h.get? a=some {cls:=.type "range",data:=.fields #[.int z t,.int y u,.int 1 v]}
 |.frz o u=>h.get? a=some o/\cY H h a u
 |.tbl s=>h.get? a=some {cls:=.none,data:=.fields s}
 |.met f x=>h.get? a=some (PySem.W.methodObj (.ref f) (.ref x))
 |.ext j=>j h/\(∃o,h.get? a=some o)/\∀r m:Heap,j r->(∀o,r.get? a=some o->m.get? a=some o)->j m
def me(H:Hp)(h:Heap):Prop:=∀a o,H a=some o->cY P w H h a o
end
section
variable{P:Program}{w:World}{H H':Hp}{h h':Heap}{a:Addr}{o:HO}
theorem cY.lt(x:cY P w H h a o):a<h.objs.size:=by
 cases o with
 |lst c=>obtain⟨_,_,_,_,e⟩:=x;exact Qiq e
 |tup c=>obtain⟨_,_,_,p⟩:=x;exact p.it.lt
 |dK b=>obtain⟨_,_,_,_,o,_,_,e,_⟩:=x;exact Qiq e
 |dT b=>obtain⟨_,_,_,_,o,_,_,e,_⟩:=x;exact Qiq e
 |set S n=>obtain⟨o,_,_,_,e,_⟩:=x;exact Qiq e
 |ins C k d=>obtain⟨_,_,_,e,_⟩:=x;exact Qiq e
 |own y=>obtain⟨_,e⟩:=x;exact Qiq e
 |xd d=>obtain⟨_,⟨_,_,_,e,_⟩,_⟩:=x;exact Qiq e
 |rng m i=>obtain⟨_,_,_,e⟩:=x;exact Qiq e
 |frz l u=>obtain⟨e,_⟩:=x;exact Qiq e
 |tbl g=>exact Qiq (show h.get? a=some _ from x)
 |met f y=>exact Qiq (show h.get? a=some _ from x)
 |ext j=>obtain⟨_,⟨_,e⟩,_⟩:=x;exact Qiq e
theorem Paired.mapP{α c:Type}{F G:α->c->Prop}:∀{l₁:List α} {l₂:List c},Paired F l₁ l₂->(∀a b,F a b->G a b)->Paired G l₁ l₂
 |_,_,.nil,_=>.nil
 |_,_,.cons r t,f=>.cons (f _ _ r) (Paired.mapP t f)
def cY.stay(x:cY P w H h a o)(k:∀b u,(b=a\/H b=some (.own a))->h.get? b=some u->h'.get? b=some u)
  (L:∀b,H b=some (.own a)->H' b=some (.own a)) (ht:∀b xs,H b=some (.tup xs)->H' b=some (.tup xs)):cY P w H' h' a o:=by
 induction o with
 |lst xs=>obtain⟨z,l,n,r,e⟩:=x;exact⟨z,l,n,r,k _ _ (.inl rfl) e⟩
 |tup xs=>obtain⟨z,l,r,g,e,c⟩:=x;exact⟨z,l,r,g,k _ _ (.inl rfl) e,c⟩
 |dK s=>obtain⟨z,y,I,r,g,i,j,e,c⟩:=x;exact⟨z,y,I,r,g,i,j,k _ _ (.inl rfl) e,c⟩
 | dT s=>
   obtain⟨z,y,xs,r,g,i,j,e,c⟩:=x
   exact⟨z,y,xs,Paired.mapP r λp q z=>⟨z.1,ht _ _ z.2.1,z.2.2⟩,g,i,j,k _ _ (.inl rfl) e,c⟩
 |set S n=>obtain⟨g,i,j,t,e,c⟩:=x;exact⟨g,i,j,t,k _ _ (.inl rfl) e,c⟩
 | ins C R K=>
   obtain⟨d,z,G,e,A,⟨m,i,j,J,c⟩,r⟩:=x
   exact⟨L _ d,z,G,k _ _ (.inl rfl) e,A,⟨m,i,j,k _ _ (.inr d) J,c⟩,r⟩
 |own y=>obtain⟨g,e⟩:=x;exact⟨g,k _ _ (.inl rfl) e⟩
 |xd K=>obtain⟨A,⟨m,i,j,e,c⟩,r⟩:=x;exact⟨A,⟨m,i,j,k _ _ (.inl rfl) e,c⟩,r⟩
 |rng U N=>obtain⟨t,u,v,e⟩:=x;exact⟨t,u,v,k _ _ (.inl rfl) e⟩
 |frz g u M=>obtain⟨e,q⟩:=x;exact⟨k _ _ (.inl rfl) e,M q⟩
 | tbl B=>
   have e:h.get? a=some {cls:=.none,data:=.fields B}:=x
   show h'.get? a=some {cls:=.none,data:=.fields B}
   exact k a _ (.inl rfl) e
 | met f y=>
   have e:h.get? a=some (PySem.W.methodObj (.ref f) (.ref y)):=x
   show h'.get? a=some (PySem.W.methodObj (.ref f) (.ref y))
   exact k a _ (.inl rfl) e
 |ext Q=>obtain⟨p,⟨o,e⟩,F⟩:=x;exact⟨F _ _ p λo q=>k _ _ (.inl rfl) q,⟨o,k _ _ (.inl rfl) e⟩,F⟩
def me.lt(x:me P w H h)(e:H a=some o):a<h.objs.size:=(x a o e).lt
def me.fresh(x:me P w H h)(e:h.objs.size<=a):H a=none:=by
 cases q:H a with
 |none=>rfl
 |some u=>exact absurd (Qqq (x.lt q) e) (Nat.lt_irrefl _)
def me.kept(x:me P w H h)(k:∀b u,h.get? b=some u->h'.get? b=some u):me P w H h':=λa o e=>
 (x a o e).stay (λb u _ q=>k b u q) (λ_ q=>q) λ_ _ q=>q
def me.laid(x:me P w H h)(k:∀b u,h.get? b=some u->h'.get? b=some u)(g:h.objs.size<=a)(new:cY P w (upd H a o) h' a o):me P w (upd H a o) h':=λb u e=>by
 have f:=x.fresh g
 by_cases d:b=a
 ·subst d;rw[bQ] at e;cases e;exact new
 ·rw[bj d] at e
  exact(x b u e).stay (λc v _ q=>k c v q) (λc q=>by rw[bj (eX q f)];exact q) λc i q=>by rw[bj (eX q f)];exact q
end
def Rd(H:Hp)(a:Addr)(u:HO):Prop:=H a=some u\/∃o,H a=some (.frz o u)
def Rd.ok{P:Program}{w:World}{H:Hp}{h:Heap}{a:Addr}{u:HO}(r:Rd H a u)(x:me P w H h):cY P w H h a u:=by
 rcases r with r|⟨o,r⟩
 ·exact x a u r
 ·obtain⟨_,q⟩:=x a _ r
  exact q
def J3:Option HO->Prop
 |some (.lst _)=>True
 |some (.dK _)=>True
 |some (.dT _)=>True
 |some (.set _ _)=>True
 |some (.ins _ _ _)=>True
 |some (.ext _)=>True
 |_=>False
section
variable{P:Program}{w:World}{H:Hp}{h h':Heap}{x e:Addr}{o':HO}
def me.write(ok:me P w H h)(l:J3 (H x))(he:e=x\/H e=some (.own x))(k:∀b u,b≠e->h.get? b=some u->h'.get? b=some u)(m:∃u,h'.get? e=some u)
  (new:cY P w (upd H x o') h' x o'):me P w (upd H x o') h':=λb u q=>by
 have d:∀c y,H c=some (.own y)->c≠x:=λc y r z=>by subst z;rw[r] at l;exact l
 have f:∀c i,H c=some (.tup i)->c≠x:=λc i r z=>by subst z;rw[r] at l;exact l
 by_cases j:b=x
 ·subst j;rw[bQ] at q;cases q;exact new
 ·rw[bj j] at q
  by_cases a:b=e
  ·have n:H b=some (.own x):=by
    rcases he with z|z
    ·exact absurd (a.trans z) j
    ·rw[a];exact z
   rw[q] at n;cases n
   obtain⟨v,o⟩:=m
   exact⟨v,by rw[a];exact o⟩
  ·refine(ok b u q).stay (λc v g r=>k c v ?_ r) (λc r=>by rw[bj (d c b r)];exact r) λc i r=>by rw[bj (f c i r)];exact r
   rcases g with rfl|g
   ·exact a
   ·rintro rfl
    rcases he with z|z
    ·exact d c b g z
    ·rw[g] at z;cases z;exact j rfl
end
structure Un(fs ex:List Addr)(H H':Hp)(h h':Heap):Prop where
 keep:∀b o,h.get? b=some o->H b=none->b∉fs->b∉ex->h'.get? b=some o
 slot:∀b o,h.get? b=some o->H b=none->b∈fs->b∉ex->∃sl,h'.get? b=some {o with slots:=sl}
 free:∀b o,h.get? b=some o->H b=none->b∉ex->H' b=none
 there:∀b o,h.get? b=some o->b∉ex->∃o',h'.get? b=some o'
 tups:∀b xs,H b=some (.tup xs)->H' b=some (.tup xs)
 frzs:∀b o u,H b=some (.frz o u)->H' b=some (.frz o u)
 tbls:∀b ps,H b=some (.tbl ps)->∃more,H' b=some (.tbl (ps++more))
section
variable{fs fs' ex ex':List Addr}{H H1 H2:Hp}{h h1 h2 h':Heap}{a x e:Addr}{o:HO}
def Un.any(u:Un fs ex H H1 h h1){b:Addr}{c:Obj}(q:h.get? b=some c)(n:H b=none)(f:b∉ex):∃g,h1.get? b=some {c with slots:=g}:=by
 by_cases d:b∈fs
 ·exact u.slot b c q n d f
 ·exact⟨c.slots,u.keep b c q n d f⟩
def Un.kept(k:∀b u,h.get? b=some u->h'.get? b=some u):Un fs ex H H h h':=
 ⟨λb c q _ _ _=>k b c q,λb c q _ _ _=>⟨c.slots,k b c q⟩,λ_ _ _ n _=>n,λb c q _=>⟨c,k b c q⟩,λ_ _ q=>q,λ_ _ _ q=>q,λ_ d q=>⟨#[],by rw[q];simp⟩⟩
def Un.refl:Un fs ex H H h h:=Un.kept λ_ _ q=>q
def Un.laid(k:∀b u,h.get? b=some u->h'.get? b=some u)(d:h.objs.size<=a)(c:H a=none):Un fs ex H (upd H a o) h h' where
 keep:=λb u q _ _ _=>k b u q
 slot:=λb u q _ _ _=>⟨u.slots,k b u q⟩
 free:=λb u q n _=>by rw[bj (Qwq (Qqq (Qiq q) d))];exact n
 there:=λb u q _=>⟨u,k b u q⟩
 tups:=λb f q=>by rw[bj (eX q c)];exact q
 frzs:=λb u f q=>by rw[bj (eX q c)];exact q
 tbls:=λb g q=>⟨#[],by rw[bj (eX q c),q];simp⟩
def Un.write(d:J3 (H x))(he:e=x\/H e=some (.own x))(k:∀b u,b≠e->h.get? b=some u->h'.get? b=some u)(f:∃u,h'.get? e=some u):Un fs ex H (upd H x o) h h':=by
 have j:∀b,H b=none->b≠x:=λb n z=>by subst z;rw[n] at d;exact d
 have i:∀b,H b=none->b≠e:=λb n z=>by
  subst z
  rcases he with r|r
  ·exact j b n r
  ·rw[n] at r;cases r
 have g:∀b u,H b=some u->¬J3 (some u)->b≠x:=λb u q m z=>by subst z;rw[q] at d;exact m d
 refine⟨λb u q n _ _=>k b u (i b n) q,λb u q n _ _=>⟨u.slots,k b u (i b n) q⟩,λb u q n _=>by rw[bj (j b n)];exact n,λb u q _=> ?_,
  λb l q=>by rw[bj (g b _ q λz=>z)];exact q,λb u l q=>by rw[bj (g b _ q λz=>z)];exact q,λb p q=>⟨#[],by rw[bj (g b _ q λz=>z),q];simp⟩⟩
 by_cases c:b=e
 ·subst c;exact f
 ·exact⟨u,k b u c q⟩
end
def Ke(h:Heap)(H:Hp):List Addr:=(List.range h.objs.size).filter λa=>(H a).isSome
def uw(h:Heap)(H:Hp):Heap:=PySem.W.hideAll h (Ke h H)
def Br(h:Heap)(H:Hp):(uw h H).objs.size=h.objs.size:=PySem.W.hideAll_size _ _
def CC{h:Heap}{H:Hp}{b:Addr}{o:Obj}(e:h.get? b=some o)(n:H b=none):(uw h H).get? b=some o:=
 PySem.W.hideAll_get _ e λa=>by
  have q:(H b).isSome=true:=(List.mem_filter.mp a).2
  rw[n] at q;simp at q
def EI{h:Heap}{H:Hp}{b:Addr}{o:Obj}(e:(uw h H).get? b=some o):h.get? b=some o/\H b=none:=by
 have a:h.get? b=some o:=PySem.W.of_hideAll (Ke h H) e
 refine⟨a,?_⟩
 cases q:H b with
 |none=>rfl
 | some x=>
   have c:b∈Ke h H:=List.mem_filter.mpr ⟨List.mem_range.mpr (Qiq a),by simp[q]⟩
   have z:(uw h H).get? b=none:=PySem.W.hideAll_none (Ke h H) c
   rw[z] at e;cases e
structure Mod(K:PySem.W.Frag)(mg:Str->Option Value)(base:Heap):Prop where
 kin:K.In base
 glob:base.Ns mainGlobals mg
 blt:∃mb,base.Ns builtinsNs mb/\∀x:Str,x≠"__name__" ->mb x=bootBuiltins x
 nolimit:base.NoLimit
structure Cx where
 prog:Program
 w:World
 K:PySem.W.Frag
 mg:Str->Option Value
 base:Heap
 A:Around
 N:List Str
 s₀:Shared
 H₀:Hp
 env:Env
 outer:List Env
 stack:List Env
 ex:List Addr
 fn:Str->Bool
 calm:Bool
 pn:List (Addr×Obj)
 xe:Value->Shared->Prop
def Eb(l:List Env):List Addr:=l.filterMap (·.frame)
abbrev Cx.fs(X:Cx):List Addr:=Eb X.outer
def F_(a:Scope)(x:Str):Prop:=a.names.lookup x=some .local\/a.names.lookup x=some .cell\/a.names.lookup x=some .free
def Loc(a:Scope)(x:Str):Prop:=a.names.lookup x=some .local\/a.names.lookup x=some .cell
def Look(env:Env)(h:Heap)(m:Str->Option Value)(x:Str)(u:Value):Prop:=
 (env.kindOf x=some .local/\m x=some u)\/((env.kindOf x=some .cell\/env.kindOf x=some .free)/\∃c,env.cells.lookup x=some c/\h.IsCell c (some u))
structure Cx.Ok(X:Cx):Prop where
 mod:Mod X.K X.mg X.base
 kind:X.env.scope.kind=.function
 glob:X.env.globals=mainGlobals
 blt:X.env.builtins=builtinsNs
 above:X.s₀.heap.objs.size<=X.env.locals
 inj:∀x y c,X.env.cells.lookup x=some c->X.env.cells.lookup y=some c->x=y
 has:∀x,(X.env.kindOf x=some .cell\/X.env.kindOf x=some .free)->∃c,X.env.cells.lookup x=some c
 cab:∀x c,X.fn x=true->X.env.cells.lookup x=some c->X.s₀.heap.objs.size<=c
 hd:X.calm=true->X.A.handled=none
 frames:X.A.frames=some X.stack
 stk:X.stack=X.outer\/(X.stack=X.env::X.outer/\X.env.frame=some X.env.locals)
 exf:∀b∈X.ex,b≠X.env.locals/\∀x c,X.env.cells.lookup x=some c->c≠b
 bs:∀b o,X.base.get? b=some o->X.s₀.heap.get? b=some o/\X.H₀ b=none
 bsz:X.base.objs.size<=X.s₀.heap.objs.size
 noex:∀b o,X.base.get? b=some o->b∉X.ex
 exfs:∀b∈X.ex,b∉X.fs
 funs:X.s₀.heap.FunFrames X.base X.outer
 frf:∀b∈X.fs,X.H₀ b=none
structure Inv(X:Cx)(pins:List (Addr×Obj))(σ:List (Option V))(H:Hp)(s:Shared):Prop where
 ok:X.Ok
 os:s.os=X.s₀.os
 bare:AllBare s.gens
 base:Un X.fs X.ex X.H₀ H X.s₀.heap s.heap
 loc:∃m,s.heap.Ns X.env.locals m/\∀(i:Nat) (x:Str) (v:V),X.N[i]?=some x->σ[i]?=some (some v)->F_ X.env.scope x->∃u,RelV v u/\Look X.env s.heap m x u
 cell:∀x c,X.env.cells.lookup x=some c->∃v,s.heap.IsCell c v
 free:H X.env.locals=none
 freeC:∀x c,X.env.cells.lookup x=some c->H c=none
 pin:∀p∈X.pn++pins,s.heap.get? p.1=some p.2/\H p.1=none/\p.1≠X.env.locals/\p.1∉X.fs/\∀v,p.2.data≠.cell v
 hok:me X.prog X.w H s.heap
 len:σ.length=X.N.length
section
variable{X:Cx}{pins:List (Addr×Obj)}{σ:List (Option V)}{H H':Hp}{s:Shared}{h':Heap}
def Cx.Ok.nofr(ok:X.Ok){b:Addr}{o:Obj}(e:X.base.get? b=some o):b∉X.fs:=λa=>by
 have:=(ok.funs.mem a).1
 rw[e] at this;cases this
def Inv.bs(I:Inv X pins σ H s):∀b o,X.base.get? b=some o->s.heap.get? b=some o/\H b=none:=λb o e=>
 ⟨I.base.keep b o (I.ok.bs b o e).1 (I.ok.bs b o e).2 (I.ok.nofr e) (I.ok.noex b o e),I.base.free b o (I.ok.bs b o e).1 (I.ok.bs b o e).2 (I.ok.noex b o e)⟩
def Inv.bk(I:Inv X pins σ H s):∀b o,X.base.get? b=some o->s.heap.get? b=some o:=λb o e=>(I.bs b o e).1
def Inv.mod(I:Inv X pins σ H s):Mod X.K X.mg X.base:=I.ok.mod
def Inv.kIn(I:Inv X pins σ H s):X.K.In s.heap:=I.ok.mod.kin.keeps I.bk
def Inv.lt(I:Inv X pins σ H s):X.env.locals<s.heap.objs.size:=let ⟨_,hn,_⟩:=I.loc;hn.lt
def Inv.sz(I:Inv X pins σ H s):X.s₀.heap.objs.size<=s.heap.objs.size:=QAq I.ok.above (nQl I.lt)
def Inv.nofs(I:Inv X pins σ H s){a:Addr}(h:s.heap.objs.size<=a):a∉X.fs:=λb=>by
 obtain⟨_,o,c,_⟩:=I.ok.funs.mem b
 exact absurd (Qqq (Qiq c) (QAq I.sz h)) (Nat.lt_irrefl _)
def Inv.cne(I:Inv X pins σ H s):∀x c,X.env.cells.lookup x=some c->c≠X.env.locals:=λx c e z=>by
 obtain⟨v,o,f,d⟩:=I.cell x c e
 obtain⟨m,⟨h,i,g,a,b,_⟩,_⟩:=I.loc
 rw[z,a] at f;cases f;rw[b] at d;cases d
theorem Inv.funs(I:Inv X pins σ H s):s.heap.FunFrames X.base X.outer:=by
 have f:∀(l:List Env),(∀b∈Eb l,b∈X.fs)->X.s₀.heap.FunFrames X.base l->s.heap.FunFrames X.base l:=by
  intro l
  induction l with
  |nil=>intro _ _;trivial
  | cons h r q=>
    intro g j
    obtain⟨n,⟨L,o,a,i,p,k⟩,m⟩:=j
    have c:L∈X.fs:=g L (by unfold Eb;rw[List.filterMap_cons,a];exact QBq)
    obtain⟨t,e⟩:=I.base.slot L o p (I.ok.frf L c) c λz=>I.ok.exfs L z c
    exact⟨n,⟨L,_,a,i,e,k⟩,q (λb d=>g b (by unfold Eb;rw[List.filterMap_cons,a];exact Qpq _ d)) m⟩
 exact f X.outer (λ_ d=>d) I.ok.funs
def Inv.stack(I:Inv X pins σ H s):s.heap.FunFrames X.base X.stack:=by
 rcases I.ok.stk with e|⟨e,a⟩
 ·rw[e];exact I.funs
 ·rw[e]
  obtain⟨m,b,_⟩:=I.loc
  refine .cons (by rw[I.ok.kind];decide) a b ?_ I.funs
  exact Heap.get?_none_of_le (QAq I.ok.bsz I.ok.above)
def Inv.stkSub(I:Inv X pins σ H s):∀b∈Eb X.stack,b∈X.env.locals::X.fs:=λb a=>by
 rcases I.ok.stk with e|⟨e,c⟩
 ·rw[e] at a;exact Qpq _ a
 ·rw[e] at a
  unfold Eb at a
  rw[List.filterMap_cons,c] at a
  exact a
def Inv.stkFree(I:Inv X pins σ H s):∀b∈Eb X.stack,H b=none:=λb a=>by
 rcases Qsq.mp (I.stkSub b a) with e|a
 ·rw[e];exact I.free
 ·obtain⟨_,o,c,_⟩:=I.ok.funs.mem a
  exact I.base.free b o c (I.ok.frf b a) λz=>I.ok.exfs b z a
def Inv.step{g':Array GenState}{t':Nat}{d':Drawn}{ch:List Addr}(I:Inv X pins σ H s)
  (h:∀b∈ch,(b∈X.ex\/X.s₀.heap.objs.size<=b)/\b≠X.env.locals/\(∀x c,X.env.cells.lookup x=some c->c≠b)/\∀p∈X.pn++pins,p.1≠b)
  (keep:∀b o,b≠X.env.locals->b∉X.fs->b∉ch->s.heap.get? b=some o->H b=none->h'.get? b=some o)
  (slot:∀b o,b≠X.env.locals->b∈X.fs->b∉ch->s.heap.get? b=some o->H b=none->∃J,h'.get? b=some {o with slots:=J}) (free:∀b o,b∉ch->s.heap.get? b=some o->H b=none->H' b=none)
  (there:∀b o,b∉ch->s.heap.get? b=some o->∃o',h'.get? b=some o')
  (tups:∀b xs,H b=some (.tup xs)->H' b=some (.tup xs)) (frzs:∀b o u,H b=some (.frz o u)->H' b=some (.frz o u)) (tbls:∀b ps,H b=some (.tbl ps)->∃more,H' b=some (.tbl (ps++more)))
  (ns:∀m,s.heap.Ns X.env.locals m->h'.Ns X.env.locals m) (K:me X.prog X.w H' h') (S:AllBare g'):
  Inv X pins σ H' {s with heap:=h',gens:=g',drawn:=d',toks:=t'}:=by
 have C:∀b o,X.s₀.heap.get? b=some o->b≠X.env.locals:=λb o e=>Qwq (Qqq (Qiq e) I.ok.above)
 have t:∀b o,X.s₀.heap.get? b=some o->b∉X.ex->b∉ch:=λb o e a y=>by
  rcases(h b y).1 with z|z
  ·exact a z
  ·exact absurd (Qqq (Qiq e) z) (Nat.lt_irrefl _)
 have f:∀x c,X.env.cells.lookup x=some c->∀v,s.heap.IsCell c v->h'.IsCell c v:=λx c e v U=>by
  obtain⟨o,A,G⟩:=U
  have g:c∉ch:=λz=>(h c z).2.2.1 x c e rfl
  by_cases N:c∈X.fs
  ·obtain⟨J,q⟩:=slot c o (I.cne x c e) N g A (I.freeC x c e)
   exact⟨_,q,G⟩
  ·exact⟨o,keep c o (I.cne x c e) N g A (I.freeC x c e),G⟩
 refine⟨I.ok,I.os,S,⟨λb o e n y a=> ?_,λb o e n y a=> ?_,λb o e n a=> ?_,λb o e a=> ?_,λb xs e=>tups b xs (I.base.tups b xs e),λb o xs e=>frzs b o xs (I.base.frzs b o xs e),λb ps e=> ?_⟩,?_,λx c e=> ?_,?_,λx c e=> ?_,λp M=> ?_,K,I.len⟩
 ·exact keep b o (C b o e) y (t b o e a) (I.base.keep b o e n y a) (I.base.free b o e n a)
 ·obtain⟨J,j⟩:=I.base.slot b o e n y a
  obtain⟨F,B⟩:=slot b _ (C b o e) y (t b o e a) j (I.base.free b o e n a)
  exact⟨F,B⟩
 ·obtain⟨o',j⟩:=I.base.there b o e a
  exact free b o' (t b o e a) j (I.base.free b o e n a)
 ·obtain⟨o',j⟩:=I.base.there b o e a
  exact there b o' (t b o e a) j
 ·obtain⟨Y,j⟩:=I.base.tbls b ps e
  obtain⟨Z,B⟩:=tbls b _ j
  exact⟨Y++Z,by rw[B,Array.append_assoc]⟩
 ·obtain⟨m,Q,R⟩:=I.loc
  refine⟨m,ns m Q,λi x v j B W=> ?_⟩
  obtain⟨u,r,l⟩:=R i x v j B W
  refine⟨u,r,?_⟩
  rcases l with l|⟨k,c,e,z⟩
  ·exact .inl l
  ·exact .inr ⟨k,c,e,f x c e _ z⟩
 ·obtain⟨v,z⟩:=I.cell x c e
  exact⟨v,f x c e v z⟩
 ·obtain⟨m,⟨o,_,_,A,_⟩,_⟩:=I.loc
  exact free _ o (λz=>(h _ z).2.1 rfl) A I.free
 ·obtain⟨v,o,A,G⟩:=I.cell x c e
  exact free c o (λz=>(h c z).2.2.1 x c e rfl) A (I.freeC x c e)
 ·obtain⟨e,n,L,P,d⟩:=I.pin p M
  have g:p.1∉ch:=λz=>(h p.1 z).2.2.2 p M rfl
  exact⟨keep p.1 p.2 L P g e n,free p.1 p.2 g e n,L,P,d⟩
def Inv.un{t':Nat}(I:Inv X pins σ H s)(u:Un X.fs [] H H' s.heap h')(g:me X.prog X.w H' h'):Inv X pins σ H' {s with heap:=h',toks:=t'}:=by
 obtain⟨m,⟨o,q,v,h,r⟩,_⟩:=id I.loc
 obtain⟨t,i⟩:=u.any h I.free (by simp)
 exact I.step (g':=s.gens) (d':=s.drawn) (ch:= []) (λ_ z=>nomatch z) (λb o _ f _ e n=>u.keep b o e n f (by simp)) (λb o _ f _ e n=>u.slot b o e n f (by simp)) (λb o _ e n=>u.free b o e n (by simp)) (λb o _ e=>u.there b o e (by simp)) u.tups u.frzs u.tbls (λl k=>by
  obtain⟨p,c,d,a,j⟩:=k
  rw[h] at a;cases a
  exact⟨_,c,d,i,j⟩) g I.bare
def Inv.call{g':Array GenState}{t':Nat}{d':Drawn}{ch:List Addr}(I:Inv X pins σ H s)(u:Un (Eb X.stack) ch H H' s.heap h')(j:me X.prog X.w H' h')(l:AllBare g')
  (f:∀b∈ch,(b∈X.ex\/X.s₀.heap.objs.size<=b)/\b≠X.env.locals/\(∀x c,X.env.cells.lookup x=some c->c≠b)/\∀p∈X.pn++pins,p.1≠b):
  Inv X pins σ H' {s with heap:=h',gens:=g',drawn:=d',toks:=t'}:=by
 obtain⟨m,⟨o,B,F,k,r⟩,_⟩:=id I.loc
 obtain⟨C,i⟩:=u.any k I.free λz=>(f _ z).2.1 rfl
 exact I.step (ch:=ch) f (λb o i q a e n=>u.keep b o e n (λz=>(Qsq.mp (I.stkSub b z)).elim i q) a) (λb o _ _ a e n=>u.any e n a) (λb o a e n=>u.free b o e n a) (λb o a e=>u.there b o e a) u.tups u.frzs u.tbls (λy v=>by
  obtain⟨A,g,h,d,t⟩:=v
  rw[k] at d;cases d
  exact⟨_,g,h,i,t⟩) j l
def Inv.turned{t':Nat}{it:Addr}(I:Inv X pins σ H s)(k:∀b o,b≠it->s.heap.get? b=some o->h'.get? b=some o)(g:H it=none)(f:it≠X.env.locals)
  (l:it∈X.ex\/X.s₀.heap.objs.size<=it) (i:∀x c,X.env.cells.lookup x=some c->c≠it) (y:∀p∈X.pn++pins,p.1≠it):Inv X pins σ H {s with heap:=h',toks:=t'}:=by
 have d:∀b u,H b=some u->b≠it:=λb u e z=>by rw[z,g] at e;cases e
 refine I.step (g':=s.gens) (d':=s.drawn) (ch:= [it]) (λb j=> ?_) (λb o _ _ a e _=>k b o (λz=>a (by simp[z])) e) (λb o _ _ a e _=>⟨o.slots,k b o (λz=>a (by simp[z])) e⟩) (λ_ _ _ _ n=>n)
  (λb o a e=>⟨o,k b o (λz=>a (by simp[z])) e⟩) (λ_ _ e=>e) (λ_ _ _ e=>e) (λb B e=>⟨#[],by rw[e];simp⟩) (λm A=> ?_) (λb u e=> ?_) I.bare
 ·have e:b=it:=by simpa using j
  subst e
  exact⟨l,f,i,y⟩
 ·obtain⟨o,h,w,t,r⟩:=A
  exact⟨o,h,w,k _ o (Ne.symm f) t,r⟩
 ·refine(I.hok b u e).stay (λc v a q=>k c v ?_ q) (λ_ q=>q) λ_ _ q=>q
  rcases a with z|z
  ·rw[z];exact d b u e
  ·exact d c _ z
def Inv.tok(I:Inv X pins σ H s)(t:Nat):Inv X pins σ H {s with toks:=t}:=I.un (h':=s.heap) (t':=t) Un.refl I.hok
def Inv.kept{t':Nat}(I:Inv X pins σ H s)(k:∀b u,s.heap.get? b=some u->h'.get? b=some u):Inv X pins σ H {s with heap:=h',toks:=t'}:=I.un (Un.kept k) (I.hok.kept k)
def Inv.laid{a:Addr}{o:HO}{t':Nat}(I:Inv X pins σ H s)(k:∀b u,s.heap.get? b=some u->h'.get? b=some u)(c:s.heap.objs.size<=a)(new:cY X.prog X.w (upd H a o) h' a o):
  Inv X pins σ (upd H a o) {s with heap:=h',toks:=t'}:=I.un (Un.laid k c (I.hok.fresh c)) (I.hok.laid k c new)
def Inv.write{x e:Addr}{o:HO}{t':Nat}(I:Inv X pins σ H s)(c:J3 (H x))(he:e=x\/H e=some (.own x))(k:∀b u,b≠e->s.heap.get? b=some u->h'.get? b=some u)(a:∃u,h'.get? e=some u)
  (new:cY X.prog X.w (upd H x o) h' x o):Inv X pins σ (upd H x o) {s with heap:=h',toks:=t'}:=I.un (Un.write c he k a) (I.hok.write c he k a new)
def Inv.pins_of{a:List (Addr×Obj)}(I:Inv X pins σ H s)(h:∀p∈a,s.heap.get? p.1=some p.2/\H p.1=none/\p.1≠X.env.locals/\p.1∉X.fs/\∀v,p.2.data≠.cell v):Inv X a σ H s:=
 ⟨I.ok,I.os,I.bare,I.base,I.loc,I.cell,I.free,I.freeC,λp b=>(mQa.mp b).elim (λz=>I.pin p (List.mem_append_left _ z)) (h p),I.hok,I.len⟩
def xO{N:List Str}(d:N.Nodup){i j:Nat}{x:Str}(a:N[i]?=some x)(b:N[j]?=some x):i=j:=by
 obtain⟨f,c⟩:=gQs.mp a
 obtain⟨g,e⟩:=gQs.mp b
 exact(List.getElem_inj d).mp (c.trans e.symm)
def Bg{M:Model}{A:Around}{E:Value->Shared->Prop}{i:Nat}{x:Str}{v:V}{u:Value}{Q:Unit->Shared->Prop}(I:Inv X pins σ H s)(hN:X.N.Nodup)(hi:X.N[i]?=some x)(B:Loc X.env.scope x)(r:RelV v u)
  (h:∀s',Inv X pins (σ.set i (some v)) H s'->(∃a,Heap.SameBut a s.heap s'.heap/\(a=X.env.locals\/X.env.cells.lookup x=some a))->Q () s') (hf:X.fn x=true\/X.env.scope.names.lookup x=some .local:=by first|exact .inl rfl|exact .inr rfl|assumption):wpAny M A (storeName X.env x u) Q E s:=by
 obtain⟨m,hn,hl⟩:=id I.loc
 have Z:(X.env.scope.kind==.class||(X.env.scope.kind==.module&&X.env.locals !=X.env.globals))=false:=by rw[I.ok.kind];rfl
 have G:i<σ.length:=by rw[I.len];exact(gQs.mp hi).1
 have K:=I.cne
 have g:∀{a:Addr} {h':Heap},(∃o,s.heap.get? a=some o/\H a=none)->Heap.SameBut a s.heap h'->me X.prog X.w H h':=λ{a h'} ha f b ob e=>by
  obtain⟨_,_,C⟩:=ha
  refine(I.hok b ob e).stay (λc w' t q=>(f.2 c ?_).trans q) (λ_ q=>q) λ_ _ q=>q
  rintro rfl
  rcases t with rfl|t
  ·rw[C] at e;cases e
  ·rw[C] at t;cases t
 rcases B with J|J
 ·refine wpAny_storeName_local J hn (λh' a0 f=> ?_) Z
  obtain⟨oL,_,_,a1,_⟩:=id hn
  refine h _ ⟨I.ok,I.os,I.bare,⟨λb o e n L B=> ?_,λb o e n L B=> ?_,I.base.free,λb o e B=> ?_,I.base.tups,I.base.frzs,I.base.tbls⟩,⟨_,a0,λj y v' l F e3=> ?_⟩,λy c e=> ?_,I.free,I.freeC,λp hp=> ?_,g ⟨oL,a1,I.free⟩ f,by simpa using I.len⟩ ⟨_,f,.inl rfl⟩
  ·exact(f.2 b (Qwq (Qqq (Qiq e) I.ok.above))).trans (I.base.keep b o e n L B)
  ·obtain⟨sl,l⟩:=I.base.slot b o e n L B
   exact⟨sl,(f.2 b (Qwq (Qqq (Qiq e) I.ok.above))).trans l⟩
  ·obtain⟨o',l⟩:=I.base.there b o e B
   exact⟨o',(f.2 b (Qwq (Qqq (Qiq e) I.ok.above))).trans l⟩
  ·by_cases P:j=i
   ·subst P
    rw[hi] at l;cases l
    rw[Qyq G] at F
    cases F
    exact⟨u,r,.inl ⟨J,by simp⟩⟩
   ·rw[QKq (Ne.symm P)] at F
    obtain⟨u',r',q⟩:=hl j y v' l F e3
    refine⟨u',r',?_⟩
    rcases q with⟨k,e⟩|⟨k,c,e,z⟩
    ·refine .inl ⟨k,?_⟩
     have:y≠x:=λe=>P (xO hN l (e▸hi))
     simp[this,e]
    ·exact .inr ⟨k,c,e,z.sameBut f (K y c e)⟩
  ·obtain⟨w',z⟩:=I.cell y c e
   exact⟨w',z.sameBut f (K y c e)⟩
  ·obtain⟨e,n,ne,nf,d⟩:=I.pin p hp
   exact⟨(f.2 p.1 ne).trans e,n,ne,nf,d⟩
 ·have R:X.fn x=true:=by
   rcases hf with z|z
   ·exact z
   ·rw[z] at J;cases J
  obtain⟨c,t⟩:=I.ok.has x (.inl J)
  obtain⟨w',z⟩:=I.cell x c t
  refine wpAny_storeName_cell I.ok.kind J t z (λh' Y f=> ?_)
  obtain⟨oc,U,S⟩:=id z
  refine h {s with heap:=h'} ⟨I.ok,I.os,I.bare,⟨λb o e n L B=> ?_,λb o e n L B=> ?_,I.base.free,λb o e B=> ?_,I.base.tups,I.base.frzs,I.base.tbls⟩,⟨m,hn.sameBut f (Ne.symm (K x c t)),λj y v' l F e3=> ?_⟩,λy c' e=> ?_,I.free,I.freeC,λp hp=> ?_,g ⟨oc,U,I.freeC x c t⟩ f,by simpa using I.len⟩ ⟨c,f,.inr t⟩
  ·exact(f.2 b (Qwq (Qqq (Qiq e) (I.ok.cab x c R t)))).trans (I.base.keep b o e n L B)
  ·obtain⟨sl,l⟩:=I.base.slot b o e n L B
   exact⟨sl,(f.2 b (Qwq (Qqq (Qiq e) (I.ok.cab x c R t)))).trans l⟩
  ·obtain⟨o',l⟩:=I.base.there b o e B
   exact⟨o',(f.2 b (Qwq (Qqq (Qiq e) (I.ok.cab x c R t)))).trans l⟩
  ·by_cases P:j=i
   ·subst P
    rw[hi] at l;cases l
    rw[Qyq G] at F
    cases F
    exact⟨u,r,.inr ⟨.inl J,c,t,Y⟩⟩
   ·rw[QKq (Ne.symm P)] at F
    obtain⟨u',r',q⟩:=hl j y v' l F e3
    refine⟨u',r',?_⟩
    rcases q with q|⟨k,c',e,z'⟩
    ·exact .inl q
    ·refine .inr ⟨k,c',e,z'.sameBut f ?_⟩
     rintro rfl
     exact P (xO hN l (I.ok.inj _ _ _ e t▸hi))
  ·by_cases W:c'=c
   ·subst W;exact⟨_,Y⟩
   ·obtain⟨w2,z2⟩:=I.cell y c' e
    exact⟨w2,z2.sameBut f W⟩
  ·obtain⟨e,n,ne,nf,d⟩:=I.pin p hp
   refine⟨(f.2 p.1 ?_).trans e,n,ne,nf,d⟩
   intro q
   rw[q,U] at e
   have q':oc=p.2:=QdQ e
   exact d w' (by rw[←q'];exact S)
def mH{M:Model}{A:Around}{E:Value->Shared->Prop}{i:Nat}{x:Str}{v:V}{u:Value}{Q:Unit->Shared->Prop}(I:Inv X pins σ H s)(c:X.N.Nodup)(hi:X.N[i]?=some x)(d:Loc X.env.scope x)(r:RelV v u)
  (h:∀s',Inv X pins (σ.set i (some v)) H s'->Q () s') (b:X.fn x=true\/X.env.scope.names.lookup x=some .local:=by first|exact .inl rfl|exact .inr rfl|assumption):wpAny M A (storeName X.env x u) Q E s:=
 Bg I c hi d r (λs' a _=>h s' a) b
def Inv.call'{s':Shared}{ch:List Addr}(I:Inv X pins σ H s)(h:s'.os=s.os)(u:Un (Eb X.stack) ch H H' s.heap s'.heap)(d:me X.prog X.w H' s'.heap)(f:AllBare s'.gens)
  (a:∀b∈ch,(b∈X.ex\/X.s₀.heap.objs.size<=b)/\b≠X.env.locals/\(∀x c,X.env.cells.lookup x=some c->c≠b)/\∀p∈X.pn++pins,p.1≠b):Inv X pins σ H' s':=by
 obtain⟨h',g',d',t',g⟩:=s'
 have e:g=s.os:=h
 subst e
 exact I.call (g':=g') (t':=t') (d':=d') u d f a
end
abbrev XK:=Value->Option Addr->Hp->Prop
abbrev St:=List (Option V)
abbrev VK:=V->Hp->Prop
abbrev TE:=St->Hp->VK->Prop
abbrev TT:=St->Hp->(Bool->Hp->Prop)->Prop
abbrev TA:=St->Hp->(List V->Hp->Prop)->Prop
structure Ends where
 nx:St->Hp->Prop
 rt:VK
 bk:St->Hp->Prop:=λ_ _=>False
 ct:St->Hp->Prop:=λ_ _=>False
abbrev TS:=Ends->St->Hp->Prop
def EP(X:Cx)(a:List (Addr×Obj))(c:St)(Q:VK)(u:Value)(s':Shared):Prop:=∃v b,Inv X a c b s'/\RelV v u/\Q v b
def TP(X:Cx)(a:List (Addr×Obj))(d:St)(Q:Bool->Hp->Prop)(b:Bool)(s':Shared):Prop:=∃c,Inv X a d c s'/\Q b c
def AP(X:Cx)(a:List (Addr×Obj))(e:St)(Q:List V->Hp->Prop)(d:List Value)(s':Shared):Prop:=∃b c,Inv X a e c s'/\bD b d/\Q b c
def SP(X:Cx)(b:List (Addr×Obj))(D:Ends)(f:Flow)(s':Shared):Prop:=
 match f with
 |.next=>∃a c,Inv X b a c s'/\D.nx a c
 |.brk=>∃a c,Inv X b a c s'/\D.bk a c
 |.cont=>∃a c,Inv X b a c s'/\D.ct a c
 |.ret u=>∃v a c,Inv X b a c s'/\RelV v u/\D.rt v c
def PE(X:Cx)(e:Expr)(t:TE):Prop:=
 ∀(a:List (Addr×Obj)) (s:Shared) (b:St) (H:Hp) (Q:VK),Inv X a b H s->t b H Q->wpAny (model X.prog X.w) X.A (eval e X.env) (EP X a b Q) X.xe s
def PT(X:Cx)(e:Expr)(t:TT):Prop:=
 ∀(a:List (Addr×Obj)) (s:Shared) (b:St) (H:Hp) (Q:Bool->Hp->Prop),Inv X a b H s->t b H Q->wpAny (model X.prog X.w) X.A (isTrue e X.env (eval e X.env)) (TP X a b Q) X.xe s
def PW(X:Cx)(e:Expr)(t:TT):Prop:=
 ∀(b:Sem Value) (a:List (Addr×Obj)) (s:Shared) (c:St) (H:Hp) (Q:Bool->Hp->Prop),Inv X a c H s->t c H Q->wpAny (model X.prog X.w) X.A (isTrue e X.env b) (TP X a c Q) X.xe s
def PW.pt{X:Cx}{e:Expr}{t:TT}(h:PW X e t):PT X e t:=h _
def PA(X:Cx)(d:List Expr)(t:TA):Prop:=
 ∀(c:Pos) (a:List (Addr×Obj)) (s:Shared) (b:St) (H:Hp) (Q:List V->Hp->Prop),Inv X a b H s->t b H Q->wpAny (model X.prog X.w) X.A (spliced (backTo c (starEach d X.env))) (AP X a b Q) X.xe s
def PS(X:Cx)(st:Stmt)(t:TS):Prop:=
 ∀(a:List (Addr×Obj)) (s:Shared) (b:St) (H:Hp) (D:Ends),Inv X a b H s->t D b H->wpAny (model X.prog X.w) X.A (exec st X.env) (SP X a D) X.xe s
def pO(X:Cx)(st:List Stmt)(t:TS):Prop:=
 ∀(a:List (Addr×Obj)) (s:Shared) (b:St) (H:Hp) (D:Ends),Inv X a b H s->t D b H->wpAny (model X.prog X.w) X.A (execs st X.env) (SP X a D) X.xe s
def cP{α:Type}{t:Sem α}{Q b:α->Shared->Prop}{M:Model}{A:Around}{E:Value->Shared->Prop}{s:Shared}(h:wpAny M A t Q E s)(c:∀a s,Q a s->b a s):wpAny M A t b E s:=QRq h c λ_ _ x=>x
section
variable{X:Cx}
def HE(i:Nat):TE:=λa H Q=>∃v,a[i]?=some (some v)/\Q v H
def tC(v:V):TE:=λ_ H Q=>Q v H
def CS{i:Nat}{x:Str}{pos:Pos}(q:X.N[i]?=some x)(p:F_ X.env.scope x)(hd:(x==("__debug__":Str))=false:=by decide)(g:(x==("__classdict__":Str))=false:=by decide):PE X (.Name x pos) (HE i):=by
 intro f s n H Q I h
 obtain⟨v,e,h⟩:=h
 obtain⟨m,k,o⟩:=I.loc
 obtain⟨u,r,l⟩:=o i x v q e p
 have d:EP X f n Q u s:=⟨v,H,I,r,h⟩
 rcases l with⟨b,t⟩|⟨b,c,j,a⟩
 ·exact wpAny_Name (wpAny_loadName_local I.ok.kind b k t d) hd
 ·rcases b with b|b
  ·exact wpAny_Name (wpAny_loadName_cell I.ok.kind b j a d) hd
  ·exact wpAny_Name (wpAny_loadName_free I.ok.kind b j a d g) hd
def GL{i j pos}:PE X (.Constant (.int i) j pos) (tC (.int i)):=λ_ _ _ H _ I h=>wpAny_Constant_int ⟨.int i,H,I.tok _,⟨_,rfl⟩,h⟩
def I_{b j pos}:PE X (.Constant (.bool b) j pos) (tC (.bl b)):=λ_ _ _ H _ I h=>Constant_bool ⟨.bl b,H,I,rfl,h⟩
def Hw{j pos}:PE X (.Constant .none j pos) (tC .non):=λ_ _ _ H _ I h=>Constant_none ⟨.non,H,I,rfl,h⟩
def HU{x j pos}:PE X (.Constant (.str x) j pos) (tC (.str x)):=λ_ _ _ H _ I h=>Calls.Constant_str ⟨.str x,H,I.tok _,⟨_,rfl⟩,h⟩
def Gl(X:Cx)(x:Str):Prop:=X.env.kindOf x=some .globalImplicit
def u9{E:Value->Shared->Prop}{a:List (Addr×Obj)}{s:Shared}{b:St}{H:Hp}{x:Str}{u:Value}{pos:Pos}{Q:Value->Shared->Prop}(I:Inv X a b H s)(d:Gl X x)(c:X.mg x=some u)(h:Q u s)
  (hd:(x==("__debug__":Str))=false:=by decide):wpAny (model X.prog X.w) X.A (eval (.Name x pos) X.env) Q E s:=
 Calls.Name_function_global I.ok.kind d (Calls.loadGlobal_global (by rw[I.ok.glob];exact I.mod.glob.keeps I.bk) c h) hd
def j8{E:Value->Shared->Prop}{a:List (Addr×Obj)}{s:Shared}{c:St}{H:Hp}{x:Str}{u:Value}{pos:Pos}{Q:Value->Shared->Prop}(I:Inv X a c H s)(f:Gl X x)(i:X.mg x=none)(d:bootBuiltins x=some u)(h:Q u s)
  (b:x≠"__name__":=by decide) (hd:(x==("__debug__":Str))=false:=by decide):wpAny (model X.prog X.w) X.A (eval (.Name x pos) X.env) Q E s:=by
 obtain⟨j,g,e⟩:=I.mod.blt
 exact Calls.Name_function_global I.ok.kind f (Calls.loadGlobal_builtin (by rw[I.ok.glob];exact I.mod.glob.keeps I.bk) i (by rw[I.ok.blt];exact g.keeps I.bk) ((e x b).trans d) h) hd
def eB{x:Str}{v:V}{u:Value}{pos:Pos}(a:Gl X x)(b:X.mg x=some u)(r:RelV v u)(hd:(x==("__debug__":Str))=false:=by decide):PE X (.Name x pos) (tC v):=
 λ_ _ _ H _ I h=>u9 I a b ⟨v,H,I,r,h⟩ hd
def gN{x:Str}{v:V}{u:Value}{pos:Pos}(a:Gl X x)(b:X.mg x=none)(c:bootBuiltins x=some u)(r:RelV v u)(d:x≠"__name__":=by decide)(hd:(x==("__debug__":Str))=false:=by decide):PE X (.Name x pos) (tC v):=
 λ_ _ _ H _ I h=>j8 I a b c ⟨v,H,I,r,h⟩ d hd
variable{a b:Expr}{ta tb:TE}{pos:Pos}
variable{tA tB':TT}{rest:List Expr}
def Kz(t u:TT):TT:=λd H Q=>t d H λc H1=>if c=true then u d H1 Q else Q false H1
def LF(t u:TT):TT:=λd H Q=>t d H λc H1=>if c=true then Q true H1 else u d H1 Q
def K6(t:TT):TT:=λd H Q=>t d H λc H1=>Q (!c) H1
def FF(f:PT X a tA):PW X (.BoolOp .And [a] pos) tA:=by
 intro j d s g H Q I h
 refine isTrue_and (cP (f d s g H Q I h) λc i e=> ?_)
 cases c with
 |true=>exact isTrue_and_nil e
 |false=>exact e
def G3(f:PT X a tA):PW X (.BoolOp .Or [a] pos) tA:=by
 intro j d s g H Q I h
 refine isTrue_or (cP (f d s g H Q I h) λc i e=> ?_)
 cases c with
 |false=>exact isTrue_or_nil e
 |true=>exact e
def Hx(l:PT X a tA)(k:PW X (.BoolOp .And (b::rest) pos) tB'):PW X (.BoolOp .And (a::b::rest) pos) (Kz tA tB'):=by
 intro m d s e H Q I h
 refine isTrue_and (cP (l d s e H _ I h) λc i j=> ?_)
 obtain⟨H1,f,g⟩:=j
 cases c with
 |true=>exact k m d i e H1 Q f g
 |false=>exact⟨H1,f,g⟩
def ID(l:PT X a tA)(k:PW X (.BoolOp .Or (b::rest) pos) tB'):PW X (.BoolOp .Or (a::b::rest) pos) (LF tA tB'):=by
 intro m d s e H Q I h
 refine isTrue_or (cP (l d s e H _ I h) λc i j=> ?_)
 obtain⟨H1,f,g⟩:=j
 cases c with
 |true=>exact⟨H1,f,g⟩
 |false=>exact k m d i e H1 Q f g
def HR(e:PT X a tA):PT X (.UnaryOp .Not a pos) (K6 tA):=by
 intro d s f H Q I h
 exact isTrue_not (e d s f H (λc H1=>Q (!c) H1) I h)
def JG(ta tb:TE):TE:=λd H Q=>ta d H λx H1=>∃c,x=.bl c/\if c=true then tb d H1 Q else Q (.bl false) H1
def IA(ta:TE):TE:=λd H Q=>ta d H λx H1=>∃c,x=.bl c/\Q (.bl (!c)) H1
def HK{op}{t:TE}(h:PE X a t):PE X (.BoolOp op [a] pos) t:=λc s e H Q I d=>BoolOp_one (h c s e H Q I d)
def GP(k:PE X a ta)(j:PE X (.BoolOp .And (b::rest) pos) tb):PE X (.BoolOp .And (a::b::rest) pos) (JG ta tb):=by
 intro d s g H Q I h
 refine BoolOp_and (cP (k d s g H _ I h) λv i m=> ?_)
 obtain⟨x,H1,f,l,e⟩:=m
 obtain⟨c,rfl,e⟩:=e
 cases l
 refine wpAny_truthy_bool ?_
 cases c with
 |true=>exact j d i g H1 Q f e
 |false=>exact⟨.bl false,H1,f,rfl,e⟩
def HD(g:PE X a ta):PE X (.UnaryOp .Not a pos) (IA ta):=by
 intro d s i H Q I h
 refine UnaryOp_ (cP (g d s i H _ I h) λv l f=> ?_)
 obtain⟨x,H1,j,k,e⟩:=f
 obtain⟨c,rfl,e⟩:=e
 cases k
 exact not_of (wpAny_truthy_bool ⟨.bl (!c),H1,j,rfl,e⟩)
def LM(t:TT)(ta tb:TE):TE:=λd H Q=>t d H λc H1=>if c=true then ta d H1 Q else tb d H1 Q
def D3{c:Expr}(k:PT X c tA)(n:PE X a ta)(m:PE X b tb):PE X (.IfExp c a b pos) (LM tA ta tb):=by
 intro e s f H Q I h
 refine wpAny_IfExp (cP (k e s f H _ I h) λd g l=> ?_)
 obtain⟨H1,i,j⟩:=l
 cases d with
 |true=>exact n e g f H1 Q i j
 |false=>exact m e g f H1 Q i j
end
def iM(K:PySem.W.Frag)(H:Hp)(a:Addr)(xs:List V):Prop:=
 Rd H a (.lst xs)∨
  ∃(o:Obj) (b:Array Value) (n:Nat),K.lookup a=some o/\o.cls=.type "list" /\o.dict=none/\o.data=.seq b n/\b.size<=sizeLine/\bD xs b.toList
def ic(K:PySem.W.Frag)(H:Hp)(a:Addr)(xs:List V):Prop:=
 Rd H a (.tup xs)∨
  ∃(o:Obj) (b:Array Value) (n:Nat),K.lookup a=some o/\o.cls=.type "tuple" /\o.data=.seq b n/\b.size<=sizeLine/\bD xs b.toList
def Ld:Value->Option V
 |.none=>some .non
 |.bool b=>some (.bl b)
 |.int i _=>some (.int i)
 |.str x _=>some (.str x)
 |.bytes b _=>some (.byt b)
 |.float b _=>some (.flt b)
 |.ref a=>some (.ref a)
 |.type n=>some (.ty n)
 |_=>none
def RelV.abs{x:V}{u:Value}(r:RelV x u):Ld u=some x:=by
 cases x with
 |non=>cases r;rfl
 |bl _=>cases r;rfl
 |int _=>obtain⟨t,rfl⟩:=r;rfl
 |str _=>obtain⟨t,rfl⟩:=r;rfl
 |byt _=>obtain⟨t,rfl⟩:=r;rfl
 |flt _=>obtain⟨t,rfl⟩:=r;rfl
 |ref _=>cases r;rfl
 |ty _=>cases r;rfl
def RelV.inj{x y:V}{u:Value}(r:RelV x u)(q:RelV y u):x=y:=QdQ (r.abs.symm.trans q.abs)
theorem bD.inj:∀{xs ys:List V} {a:List Value},bD xs a->bD ys a->xs=ys
 |_,_,_,.nil,.nil=>rfl
 |_,_,_,.cons r t,.cons r' t'=>by rw[r.inj r',bD.inj t t']
section
variable{X:Cx}{pins:List (Addr×Obj)}{σ:St}{H:Hp}{s:Shared}{a:Addr}{xs ys:List V}
def iM.of{K:PySem.W.Frag}(h:H a=some (.lst xs)):iM K H a xs:=.inl (.inl h)
def ic.of{K:PySem.W.Frag}(h:H a=some (.tup xs)):ic K H a xs:=.inl (.inl h)
def Inv.list(I:Inv X pins σ H s)(h:iM X.K H a xs):∃b:List Value,bD xs b/\PlainL s.heap a b.toArray/\xs.length<=sizeLine:=by
 rcases h with h|⟨o,b,n,f,c,g,d,i,r⟩
 ·obtain⟨z,b,n,r,e⟩:=h.ok I.hok
  exact⟨b,r,⟨_,n,e,rfl,rfl,rfl⟩,z⟩
 ·refine⟨b.toList,r,⟨o,n,I.kIn a o f,c,g,by simpa using d⟩,?_⟩
  have e:=r.length
  simp only[Array.length_toList] at e
  omega
def Inv.tuple(I:Inv X pins σ H s)(h:ic X.K H a xs):∃b:List Value,bD xs b/\IsTup s.heap a b.toArray/\xs.length<=sizeLine:=by
 rcases h with h|⟨o,b,n,f,c,d,g,r⟩
 ·obtain⟨z,b,r,p⟩:=h.ok I.hok
  exact⟨b,r,p.it,z⟩
 ·refine⟨b.toList,r,⟨o,I.kIn a o f,c,n,by simpa using d⟩,?_⟩
  have e:=r.length
  simp only[Array.length_toList] at e
  omega
def Inv.list_inj(I:Inv X pins σ H s)(h:iM X.K H a xs)(h':iM X.K H a ys):xs=ys:=by
 obtain⟨c,r,⟨o,n,e,_,_,d⟩,_⟩:=I.list h
 obtain⟨b,i,⟨k,l,g,_,_,f⟩,_⟩:=I.list h'
 rw[e] at g;cases g
 rw[d] at f
 injection f with j _
 have:c=b:=by simpa using congrArg Array.toList j
 subst this
 exact r.inj i
def Inv.tuple_inj(I:Inv X pins σ H s)(h:ic X.K H a xs)(h':ic X.K H a ys):xs=ys:=by
 obtain⟨c,r,⟨o,e,_,n,d⟩,_⟩:=I.tuple h
 obtain⟨b,i,⟨k,g,_,l,f⟩,_⟩:=I.tuple h'
 rw[e] at g;cases g
 rw[d] at f
 injection f with j _
 have:c=b:=by simpa using congrArg Array.toList j
 subst this
 exact r.inj i
end
abbrev Cx.wish(X:Cx)(E:Value->Shared->Prop):Cx:={X with xe:=E}
abbrev Cx.nox(X:Cx):Cx:=X.wish λ_ _=>False
def Cx.Ok.wish{X:Cx}(ok:X.Ok)(E:Value->Shared->Prop):(X.wish E).Ok:=
 ⟨ok.mod,ok.kind,ok.glob,ok.blt,ok.above,ok.inj,ok.has,ok.cab,ok.hd,ok.frames,ok.stk,ok.exf,ok.bs,ok.bsz,ok.noex,ok.exfs,ok.funs,ok.frf⟩
def Cx.Ok.unwish{X:Cx}{E:Value->Shared->Prop}(ok:(X.wish E).Ok):X.Ok:=
 ⟨ok.mod,ok.kind,ok.glob,ok.blt,ok.above,ok.inj,ok.has,ok.cab,ok.hd,ok.frames,ok.stk,ok.exf,ok.bs,ok.bsz,ok.noex,ok.exfs,ok.funs,ok.frf⟩
section
variable{X:Cx}{pins:List (Addr×Obj)}{σ:St}{H:Hp}{s:Shared}{E:Value->Shared->Prop}
def Inv.wish(I:Inv X pins σ H s)(E:Value->Shared->Prop):Inv (X.wish E) pins σ H s:=⟨I.ok.wish E,I.os,I.bare,I.base,I.loc,I.cell,I.free,I.freeC,I.pin,I.hok,I.len⟩
def Inv.unwish(I:Inv (X.wish E) pins σ H s):Inv X pins σ H s:=⟨I.ok.unwish,I.os,I.bare,I.base,I.loc,I.cell,I.free,I.freeC,I.pin,I.hok,I.len⟩
theorem SP.unwish{D:Ends}{f:Flow}{s':Shared}(h:SP (X.wish E) pins D f s'):SP X pins D f s':=by
 cases f with
 |next=>obtain⟨a,b,I,q⟩:=h;exact⟨a,b,I.unwish,q⟩
 |brk=>obtain⟨a,b,I,q⟩:=h;exact⟨a,b,I.unwish,q⟩
 |cont=>obtain⟨a,b,I,q⟩:=h;exact⟨a,b,I.unwish,q⟩
 |ret u=>obtain⟨v,a,b,I,r,q⟩:=h;exact⟨v,a,b,I.unwish,r,q⟩
def pO.nox{st:List Stmt}{t:TS}(h:pO X.nox st t):pO X st t:=λpins s σ H D I a=>
 QRq (h pins s σ H D (I.wish _) a) (λ_ _ q=>q.unwish) λ_ _ z=>False.elim z
end
section
variable{X:Cx}{st:Stmt}{rest:List Stmt}{t u:TS}{e:Expr}{te:TE}{pos:Pos}
def Jm:TS:=λD a H=>D.nx a H
def Kw(t u:TS):TS:=λD a H=>t {D with nx:=u D} a H
def FM:pO X [] Jm:=λ_ _ a H _ I h=>wpAny_execs_nil ⟨a,H,I,h⟩
def CB(g:PS X st t)(j:pO X rest u):pO X (st::rest) (Kw t u):=by
 intro a s i H D I h
 refine wpAny_execs_cons (cP (g a s i H {D with nx:=u D} I h) λf c q=> ?_)
 cases f with
 | next=>
   obtain⟨b,k,d,q⟩:=q
   exact j a c b k D d q
 |ret v=>exact q
 |brk=>exact q
 |cont=>exact q
def Fg(b:PS X st t):pO X [st] t:=by
 intro a s c H D I h
 refine wpAny_execs_cons (cP (b a s c H D I h) λf d q=> ?_)
 cases f with
 |next=>exact wpAny_execs_nil q
 |ret v=>exact q
 |brk=>exact q
 |cont=>exact q
def Inv.quiet{a:List (Addr×Obj)}{b:St}{H:Hp}{s:Shared}(I:Inv X a b H s):interactive X.env=false:=by simp[interactive,I.ok.kind]
def JO(te:TE):TS:=λD a H=>te a H λ_ H1=>D.nx a H1
def E4(he:PE X e te)(d:swapsWith e none pos.line X.env=pure false:=by rfl):PS X (.Expr e pos) (JO te):=by
 intro a s b H D I h
 exact wpAny_Expr_any (cP (he a s b H _ I h) λv g ⟨x,H1,f,i,c⟩=>⟨b,H1,f,c⟩) I.quiet d
def K9(te:TE):TS:=λD a H=>te a H D.rt
def Dv(he:PE X e te):PS X (.Return (some e) pos) (K9 te):=by
 intro a s b H D I h
 exact wpAny_Return_some (cP (he a s b H _ I h) λv g ⟨x,H1,d,f,c⟩=>⟨x,b,H1,d,f,c⟩)
def KB(c:TT)(t u:TS):TS:=λD a H=>c a H λb H1=>if b=true then t D a H1 else u D a H1
def JJ{c:Expr}{a b:List Stmt}{j:TT}(m:PT X c j)(o:pO X a t)(n:pO X b u):PS X (.If c a b pos) (KB j t u):=by
 intro f s g H D I h
 refine wpAny_If (cP (m f s g H _ I h) λd i p=> ?_)
 obtain⟨H1,k,l⟩:=p
 cases d with
 |true=>exact o f i g H1 D k l
 |false=>exact n f i g H1 D k l
def HV:TS:=λ_ _ _=>False
def Cr:PS X st HV:=λ_ _ _ _ _ _ h=>h.elim
end
abbrev TG:=V->St->Hp->(St->Hp->Prop)->Prop
abbrev Fj:=List V->St->Hp->(St->Hp->Prop)->Prop
def PG(X:Cx)(a:Expr)(t:TG):Prop:=
 ∀ (b:List (Addr×Obj)) (s:Shared) (d:St) (H:Hp) (v:V) (u:Value) (Q:St->Hp->Prop),Inv X b d H s->RelV v u->t v d H Q→
   wpAny (model X.prog X.w) X.A (assign a X.env u) (λ_ f=>∃c e,Inv X b c e f/\Q c e) X.xe s
def Em(X:Cx)(ts:List Expr)(t:Fj):Prop:=
 ∀ (a:List (Addr×Obj)) (s:Shared) (e:St) (H:Hp) (d:List V) (c:List Value) (Q:St->Hp->Prop),Inv X a e H s->bD d c->t d e H Q→
   wpAny (model X.prog X.w) X.A (assignInOrder ((assignEach ts X.env).map (·.2)) c) (λ_ g=>∃b f,Inv X a b f g/\Q b f) X.xe s
abbrev CL:=V->V->V->Hp->(Hp->Prop)->Prop
def GI(X:Cx)(t:CL):Prop:=
 ∀ (a:List (Addr×Obj)) (s:Shared) (c:St) (H:Hp) (o i v:V) (d b u:Value) (Q:Hp->Prop),Inv X a c H s->RelV o d->RelV i b->RelV v u->t o i v H Q→
   wpAny (model X.prog X.w) X.A (setItem d b u) (λ_ f=>∃e,Inv X a c e f/\Q e) X.xe s
abbrev Km:=V->V->Hp->VK->Prop
def Lr(X:Cx)(c:Operator)(t:Km):Prop:=
 ∀ (a:List (Addr×Obj)) (s:Shared) (b:St) (H:Hp) (x y:V) (v u:Value) (Q:VK),Inv X a b H s->RelV x v->RelV y u->t x y H Q→
   wpAny (model X.prog X.w) X.A (inplaceOp c v u) (EP X a b Q) X.xe s
section
variable{X:Cx}{pos:Pos}
def qz(i:Nat):TG:=λv a H Q=>Q (a.set i (some v)) H
def ve{i:Nat}{x:Str}(d:X.N.Nodup)(hi:X.N[i]?=some x)(e:Loc X.env.scope x)(c:X.fn x=true\/X.env.scope.names.lookup x=some .local:=by first|exact .inl rfl|exact .inr rfl|assumption):PG X (.Name x pos) (qz i):=by
 intro a s f H v u Q I r h
 exact wpAny_assign_Name (mH I d hi e r (λg b=>⟨_,H,b,h⟩) c)
def Kt:Fj:=λb a H Q=>b= []/\Q a H
def Jn(t:TG)(u:Fj):Fj:=λb c H Q=>∃v r,b=v::r/\t v c H λa d=>u r a d Q
def E1:Em X [] Kt:=by
 intro a s b H d c Q I r h
 obtain⟨e,h⟩:=h
 subst e
 cases r
 exact assignInOrder_nil ⟨b,H,I,h⟩
def CK{e:Expr}{b:List Expr}{t:TG}{u:Fj}(l:PG X e t)(k:Em X b u)
  (o:(assignEach (e::b) X.env).map (·.2)=assign e X.env::(assignEach b X.env).map (·.2):=by rfl):Em X (e::b) (Jn t u):=by
 intro a s j H q p Q I r h
 obtain⟨v,w,i,h⟩:=h
 subst i
 cases r with
 | cons r g=>
   rw[o]
   refine assignInOrder_cons (cP (l a s j H _ _ _ I r h) λ_ d n=> ?_)
   obtain⟨c,H1,f,m⟩:=n
   exact k a d c H1 _ _ Q f g m
def KA(K:PySem.W.Frag)(n:Nat)(t:Fj):TG:=λv c H Q=>∃a b,v=.ref a/\ic K H a b/\b.length=n/\t b c H Q
def Hq{d:List Expr}{k:Nat}{t:Fj}{n:Nat}(l:X.calm=true)(h:Em X d t)
  (q:(assignEach d X.env).length=n:=by rfl) (g:(assignEach d X.env).findIdx? (·.1)=none:=by rfl):PG X (.Tuple d k pos) (KA X.K n t):=by
 intro c s i H v u Q I r f
 obtain⟨a,m,x,p,y,f⟩:=f
 subst x
 cases r
 obtain⟨B,j,C,F⟩:=I.tuple p
 refine assign_Tuple_tuple (I.ok.hd l) C (by simp[q,←y,j.length]) g λz A=> ?_
 have w:Inv X c i H {s with heap:=z}:=I.kept (t':=s.toks) λb o e=>A b o (Qwq (Qiq e)) e
 exact h c _ i H m _ Q w (by simpa using j) f
def JV(b c:TE)(t:CL):TG:=λv a H Q=>b a H λo H1=>c a H1 λi H2=>t o i v H2 λH3=>Q a H3
def GR{o i:Expr}{f g:TE}{t:CL}(A:PE X o f)(hi:PE X i g)(F:GI X t)
  (q:∀v,assign (.Subscript o i pos) X.env v=(do
   let b←holding [v] (eval o X.env)
   let c←holding [v,b] (eval i X.env)
   standAt pos
   holding [v,b,c] (setItem b c v)
   release [v,b,c] []):=by intro _;rfl):PG X (.Subscript o i pos) (JV f g t):=by
 intro a s e H v u Q I r h
 rw[q]
 refine Qaq (QLq (cP (A a s e H _ I h) λb j d=> ?_))
 obtain⟨x,H1,k,B,C⟩:=d
 refine Qaq (QLq (cP (hi a j e H1 _ k C) λc z d=> ?_))
 obtain⟨y,H2,w,n,m⟩:=d
 refine Qaq (wpAny_standAt (Qaq (QLq (cP (F a z e H2 x y v b c u _ w B n r m) λ_ G d=> ?_))))
 obtain⟨H3,l,p⟩:=d
 exact wpAny_release ⟨e,H3,l,p⟩
def BS(b:TE)(g:TG):TS:=λD a H=>b a H λx H1=>g x a H1 D.nx
def HF{b e:Expr}{c:TE}{g:TG}(he:PE X e c)(k:PG X b g)(o:swapsWithSole [b] e pos.line X.env=pure false:=by rfl)(j:swappedStores [b] e X.env=pure none:=by rfl)
  (l:(assignEach [b] X.env).map (·.2)= [assign b X.env]:=by rfl):PS X (.Assign [b] e pos) (BS c g):=by
 intro a s d H D I h
 refine wpAny_Assign_stores (cP (he a s d H _ I h) λv f ⟨x,H1,i,m,n⟩=> ?_) o j
 rw[l]
 exact cP (k a f d H1 x v _ i m n) λ_ p q=>q
def HJ{i:Nat}{x:Str}{e:Expr}{c:TE}{a:Pos}(j:X.N.Nodup)(hi:X.N[i]?=some x)(k:Loc X.env.scope x)(he:PE X e c)(o:swapsWith e (some (.Name x a)) pos.line X.env=pure false:=by rfl)(d:X.fn x=true\/X.env.scope.names.lookup x=some .local:=by first|exact .inl rfl|exact .inr rfl|assumption):
  PS X (.Assign [.Name x a] e pos) (BS c (qz i)):=by
 intro b s g H D I h
 refine wpAny_Assign_Name (cP (he b s g H _ I h) λv p ⟨y,H1,f,m,n⟩=> ?_) o
 exact mH f j hi k m (λq l=>⟨_,H1,l,n⟩) d
def IZ(i j:Nat)(c:TA):TS:=λD a H=>c a H λb H1=>∃v w,b= [v,w]/\D.nx ((a.set i (some v)).set j (some w)) H1
def GF{i j:Nat}{x y:Str}{a b:Expr}{u:TA}{n m l:Pos}{kt k2 pt2}(J:X.calm=true)(B:X.N.Nodup)(hi:X.N[i]?=some x)(hj:X.N[j]?=some y)(k:i≠j)
  (C:X.env.scope.names.lookup x=some .local) (G:X.env.scope.names.lookup y=some .local) (W:PA X [a,b] u)
  (R:swappedStores [.Tuple [.Name x n,.Name y m] kt l] (.Tuple [a,b] k2 pt2) X.env=pure (some [x,y]))
  (hs:swapsWithSole [.Tuple [.Name x n,.Name y m] kt l] (.Tuple [a,b] k2 pt2) pos.line X.env=pure false:=by rfl):
  PS X (.Assign [.Tuple [.Name x n,.Name y m] kt l] (.Tuple [a,b] k2 pt2) pos) (IZ i j u):=by
 intro c s z H D I h
 rw[exec_Assign_arm]
 refine Qaq (wpAny_standAt ?_)
 rw[hs]
 refine Qaq (Qgq ?_)
 rw[Quq (by decide)]
 refine Qaq (Tuple_ (cP (W _ c s z H _ I h) λK d qr=> ?_))
 obtain⟨vs,H1,L,Z,t⟩:=qr
 obtain⟨v,w,Q,t⟩:=t
 subst Q
 obtain⟨f,g,rfl,rv,rw'⟩:∃f g,K= [f,g]/\RelV v f/\RelV w g:=by
  cases Z with
  | cons p q=>
    cases q with
    | cons S P=>
      cases P
      exact⟨_,_,rfl,p,S⟩
 refine QhQ ?_ (by show 2<=_;decide)
 have Y:Inv X c z H1 {d with heap:=d.heap.push {cls:=.type "tuple",data:=.seq [f,g].toArray}}:=L.kept (t':=d.toks) λb o e=>Qcq _ e
 rw[R]
 refine Qaq (Qgq ?_)
 show wpAny (model X.prog X.w) X.A (do rule "assign.swapped-stores";let items←unpackItems (.ref d.heap.objs.size) 2 none;assignInOrder [λv=>bindName X.env y v,λv=>bindName X.env x v] items.reverse;pure Flow.next) _ _ _
 refine Qaq (wpAny_rule (Qaq (unpackItems_tuple (items:= #[f,g]) (I.ok.hd J) (IsTup.new d.heap _) λh' r=> ?_)))
 have M:=Y.kept (h':=h') (t':=d.toks) λb o e=>r b o (Qwq (Qiq e)) e
 show wpAny _ _ (assignInOrder [λv=>bindName X.env y v,λv=>bindName X.env x v] [g,f] >>= λ_=>pure Flow.next) _ _ _
 refine Qaq (assignInOrder_cons (wpAny_bindName (mH M B hj (.inl G) rw' (λs2 U=> ?_) (.inr G))))
 refine assignInOrder_cons (wpAny_bindName (mH U B hi (.inl C) rv (λs3 F=>assignInOrder_nil (Qgq ?_)) (.inr C)))
 rw[List.set_comm _ _ (Ne.symm k)] at F
 exact⟨_,H1,F,t⟩
def Jt(e g f:TE)(b:V->V->Hp->VK->Prop)(d:Km)(a:CL):TS:=λD c H=>e c H λo H1=>g c H1 λi H2=>b o i H2 λx H3=>f c H3 λy H4=>d x y H4 λz H5=>a o i z H5 λh=>D.nx c h
def JR(X:Cx)(t:V->V->Hp->VK->Prop):Prop:=
 ∀ (a:List (Addr×Obj)) (s:Shared) (c:St) (H:Hp) (o i:V) (d b:Value) (Q:VK),Inv X a c H s->RelV o d->RelV i b->t o i H Q→
   wpAny (model X.prog X.w) X.A (getItem d b) (EP X a c Q) X.xe s
def FR{o i e:Expr}{n w r:TE}{c:V->V->Hp->VK->Prop}{k:Km}{b:CL}{p:Operator}{l:Pos}(Z:PE X o n)(hi:PE X i w)(N:JR X c)(he:PE X e r)(y:Lr X p k)(hs:GI X b)
  (S:∀f d new,augStore i f d new=(do holding [new,f,d] (setItem f d new);release [new,f,d] [];pure .next):=by intros;rfl):PS X (.AugAssign (.Subscript o i l) p e pos) (Jt n w r c k b):=by
 intro a s g H D I h
 refine wpAny_AugAssign_SubscriptAny (cP (Z a s g H _ I h) λf z ⟨q,H1,F,x,q1⟩=> ?_) S
 refine cP (hi a z g H1 _ F q1) λd Y j=> ?_
 obtain⟨u,H2,W,t,J⟩:=j
 refine cP (N a Y g H2 q u f d _ W x t J) λm s3 j=> ?_
 obtain⟨x3,H3,G,A,M⟩:=j
 refine cP (he a s3 g H3 _ G M) λv B j=> ?_
 obtain⟨Q,H4,P,C,q4⟩:=j
 refine cP (y a B g H4 x3 Q m v _ P A C q4) λnew s5 j=> ?_
 obtain⟨K,H5,U,r5,L⟩:=j
 exact cP (hs a s5 g H5 q u K f d new _ U x t r5 L) λ_ s6 ⟨H6,I6,R⟩=>⟨g,H6,I6,R⟩
def LK(f:Int->Int->Int):Km:=λx y H Q=>∃i j,x=.int i/\y=.int j/\Q (.int (f i j)) H
def Ic:Lr X .Add (LK λi j=>i+j):=by
 intro a s f H x y v u Q I e d h
 obtain⟨i,j,c,b,q⟩:=h
 subst c;subst b
 obtain⟨t,rfl⟩:=e
 obtain⟨g,rfl⟩:=d
 exact iadd_int ⟨.int _,H,I.tok _,⟨_,rfl⟩,q⟩
end
section
variable{X:Cx}{pos:Pos}
def GZ(c:TT)(g:TS):TS:=λD a H=>∃W:Nat->St->Hp->Prop,(∃m,W m a H)/\∀m a H,W m a H→
 c a H λb H1=>if b=true then∃N:St->Hp->Prop,(∀d f,N d f->∃e,e<m/\W e d f)/\g {D with nx:=N,ct:=N,bk:=D.nx} a H1 else D.nx a H1
def D_{c:Expr}{g:List Stmt}{x:TT}{u:TS}(t:PassesOwn (model X.prog X.w) X.A X.env X.xe)(C:PT X c x)(L:pO X g u):PS X (.While c g [] pos) (GZ x u):=by
 intro a s J H D I h
 obtain⟨W,⟨S,M⟩,i⟩:=h
 refine wpAny_While (codeAny_whileLoop (λn K=>∃j y,Inv X a j y K/\W n j y) ?_ S ⟨J,H,I,M⟩)
 rintro n F ⟨e,H1,G,R⟩
 refine wpAny_passesOwn t (cP (C a F e H1 _ G (i n e H1 R)) λb P Q=> ?_)
 obtain⟨H2,B,k⟩:=Q
 cases b with
 | true=>
   obtain⟨N,z,k⟩:=k
   rw[Qhq rfl]
   refine wpAny_passesOwn t (cP (L a P e H2 _ B k) λf U l=> ?_)
   cases f with
   | next=>
     obtain⟨d,H3,p,q⟩:=l
     obtain⟨o,r,m⟩:=z d H3 q
     exact⟨o,r,d,H3,p,m⟩
   | cont=>
     obtain⟨d,H3,p,q⟩:=l
     obtain⟨o,r,m⟩:=z d H3 q
     exact⟨o,r,d,H3,p,m⟩
   |brk=>exact l
   |ret v=>exact l
 | false=>
   rw[Quq Qtq]
   exact wpAny_execs_nil ⟨e,H2,B,k⟩
end
structure It where
 go:Nat->Hp->Prop
 yld:Nat->Hp->V->Hp->Prop
 stop:Nat->Hp->Prop
def nX(X:Cx)(a:List (Addr×Obj))(H:Hp)(b:Addr):Prop:=
 H b=none/\b≠X.env.locals/\b∉X.fs/\(b∈X.ex\/X.s₀.heap.objs.size<=b)/\(∀x c,X.env.cells.lookup x=some c->c≠b)/\∀p∈X.pn++a,p.1≠b
def Inv.fpOk{X:Cx}{a:List (Addr×Obj)}{h:St}{H f:Hp}{s:Shared}{b:Addr}(I:Inv X a h H s)(d:s.heap.objs.size<=b)(i:f b=none):nX X a f b:=by
 refine⟨i,Nat.ne_of_gt (Qqq I.lt d),I.nofs d,.inr (QAq I.sz d),λx c e z=> ?_,λp g z=> ?_⟩
 ·obtain⟨v,q⟩:=I.cell x c e
  exact absurd (Qqq q.lt (by rw[z];exact d)) (Nat.lt_irrefl _)
 ·exact absurd (Qqq (Qiq (I.pin p g).1) (by rw[z];exact d)) (Nat.lt_irrefl _)
structure Turn(P:Program)(w:World)(K:PySem.W.Frag)(tg:Expr)(J:It)(fp:List Addr)(it:Addr)(tn:Nat->Heap->Prop):Prop where
 mem:it∈fp
 obj:∀i h,tn i h->∀b∈fp,∃o,h.get? b=some o/\∀v,o.data≠.cell v
 keep:∀i h h',tn i h->(∀b∈fp,∀o,h.get? b=some o->h'.get? b=some o)->tn i h'
 item:∀(X:Cx),X.prog=P->X.w=w->X.K=K->X.calm=true->∀(i:Nat) (pins:List (Addr×Obj)) (s:Shared) (σ:St) (H:Hp) (E:Value->Shared->Prop),Inv X pins σ H s->(∀b∈fp,nX X pins H b)->tn i s.heap->J.go i H→
  wpAny (model P w) X.A (pyNext (.ref it)) (λr s1=>∃u,r=some u∧
   wpAny (model P w) X.A (letOwnedTupleGo tg (.ref it) u) (λ_ s2=>∃x H',Inv X pins σ H' s2/\RelV x u/\J.yld i H x H'/\tn (i+1) s2.heap/\∀b∈fp,H' b=none) E s1) E s
 done:∀(X:Cx),X.prog=P->X.w=w->X.K=K->X.calm=true->∀(i:Nat) (pins:List (Addr×Obj)) (s:Shared) (σ:St) (H:Hp) (E:Value->Shared->Prop),Inv X pins σ H s->(∀b∈fp,nX X pins H b)->tn i s.heap->J.stop i H→
  wpAny (model P w) X.A (pyNext (.ref it)) (λr s1=>r=none/\Inv X pins σ H s1) E s
 self:∀(A:Around) (i:Nat) (s:Shared) (Q:Value->Shared->Prop) (E:Value->Shared->Prop),tn i s.heap->Q (.ref it) s->wpAny (model P w) A (pyIter (.ref it)) Q E s
abbrev TI:=St->Hp->(It->Hp->Prop)->Prop
def Lm(X:Cx)(a:List (Addr×Obj))(j:St)(i:Expr)(R:It->Hp->Prop)(d:Value)(h:Shared):Prop:=
 ∃(e:Addr) (f:List Addr) (g:Nat->Heap->Prop) (J:It) (c:Hp),d=.ref e/\Inv X a j c h/\Turn X.prog X.w X.K i J f e g/\g 0 h.heap/\(∀b∈f,nX X a c b)/\R J c
def PI(X:Cx)(e b:Expr)(f:TI):Prop:=
 ∀ (a:List (Addr×Obj)) (s:Shared) (c:St) (H:Hp) (R:It->Hp->Prop),Inv X a c H s->f c H R→
   wpAny (model X.prog X.w) X.A (eval b X.env) (λv d=>wpAny (model X.prog X.w) X.A (pyIter v) (Lm X a c e R) X.xe d) X.xe s
def DB{M:Model}{A:Around}{E:Value->Shared->Prop}{s:Shared}{b:Expr}{it:Addr}{u:Value}{o:Obj}{n:String}{vs:Array Value}{Q:Unit->Shared->Prop}(e:s.heap.get? it=some o)(c:o.cls=.type n)(hd:o.data=.fields vs)
    (d: ["enumerate","zip","dict_itemiterator","dict_reverseitemiterator","odict_iterator","itertools.zip_longest","itertools.pairwise"].contains n=false) (a:Q () s):wpAny M A (letOwnedTupleGo b (.ref it) u) Q E s:=by
  unfold letOwnedTupleGo
  cases b <;>first
    |exact Qgq a
    |(cases u <;>first
        |exact Qgq a
        |(refine Qaq (wpAny_load e ?_)
          rw[c,hd]
          show wpAny M A (if (["enumerate","zip","dict_itemiterator","dict_reverseitemiterator","odict_iterator","itertools.zip_longest","itertools.pairwise"].contains n&&vs[0]? ==some (rawInt _))=true then _ else _) Q E s
          rw[Quq (by intro h;rw[d,Bool.false_and] at h;cases h)]
          exact Qgq a))
def LA(K:PySem.W.Frag)(a:Addr):It:=
 ⟨λi H=>∃b x,iM K H a b/\b[i]?=some x,λi H x c=>c=H/\∀b,iM K H a b->b[i]?=some x,λi H=>∃b,iM K H a b/\b.length<=i⟩
def Lw(K:PySem.W.Frag)(a:Addr):It:=
 ⟨λi H=>∃b x,ic K H a b/\b[i]?=some x,λi H x c=>c=H/\∀b,ic K H a b->b[i]?=some x,λi H=>∃b,ic K H a b/\b.length<=i⟩
def Kq(lo:Int)(n:Nat):It:=⟨λi _=>i<n,λi H x a=>a=H/\x=.int (lo+i),λi _=>n<=i⟩
def Bt{P:Program}{w:World}{K:PySem.W.Frag}{tg:Expr}(a it:Addr):Turn P w K tg (LA K a) [it] it (λi h=>h.IsListIter it a i) where
 mem:=by simp
 obj:=λi h f b j=>by
  have e:b=it:=by simpa using j
  subst e
  obtain⟨o,e,c,d⟩:=f
  exact⟨o,e,λv z=>by rw[d] at z;cases z⟩
 keep:=λi h q f k=>f.at λo e=>k it (by simp) o e
 item:=by
  intro X C y r Q i g s R H E I n f F
  subst C y r
  obtain⟨U,x,m,G⟩:=F
  obtain⟨J,L,p,hz⟩:=I.list m
  obtain⟨u,hu,Y⟩:=L.get G
  obtain⟨N,A,f2,M,B,t⟩:=n it (by simp)
  refine wpAny_pyNext_list_item f p.isList (x:=u) (by simpa using hu) λq l S=> ?_
  have Z:Inv X g R H {s with heap:=q}:=I.turned (t':=s.toks) (λb o j e=>(S.2 b j).trans e) N A M B t
  obtain⟨o,e,c,d⟩:=id l
  exact⟨u,rfl,DB (s:={s with heap:=q}) e c d (by decide) ⟨x,H,Z,Y,⟨rfl,λys hy=>by rw[I.list_inj hy m];exact G⟩,l,λb j=>(n b j).1⟩⟩
 done:=by
  intro X C y r Q i g s R H E I n f F
  subst C y r
  obtain⟨U,m,G⟩:=F
  obtain⟨J,L,p,hz⟩:=I.list m
  obtain⟨N,A,f2,M,B,t⟩:=n it (by simp)
  have hl:=L.length
  exact wpAny_pyNext_list_end (I.ok.hd Q) f p.isList (by simp;omega) λq eb=>⟨rfl,I.turned (t':=s.toks) (λb o j e=>eb b o j e) N A M B t⟩
 self:=λ_ _ _ _ _ f h=>wpAny_pyIter_listiter f h
def zj{P:Program}{w:World}{K:PySem.W.Frag}{tg:Expr}(a it:Addr):Turn P w K tg (Lw K a) [it] it (λi h=>h.IsTupleIter it a i) where
 mem:=by simp
 obj:=λi h f b l=>by
  have e:b=it:=by simpa using l
  subst e
  obtain⟨o,e,c,d⟩:=f
  exact⟨o,e,λv z=>by rw[d] at z;cases z⟩
 keep:=λi h r f k=>f.at λo e=>k it (by simp) o e
 item:=by
  intro X F A t Q i g s R H E I q f G
  subst F A t
  obtain⟨U,x,n,J⟩:=G
  obtain⟨j,L,p,hz⟩:=I.tuple n
  obtain⟨u,hu,Y⟩:=L.get J
  obtain⟨N,B,f2,M,C,y⟩:=q it (by simp)
  refine wpAny_pyNext_tuple_item f (show s.heap.IsTuple a j.toArray from p) (x:=u) (by simpa using hu) λr m S=> ?_
  have Z:Inv X g R H {s with heap:=r}:=I.turned (t':=s.toks) (λb o l e=>(S.2 b l).trans e) N B M C y
  obtain⟨o,e,c,d⟩:=id m
  exact⟨u,rfl,DB (s:={s with heap:=r}) e c d (by decide) ⟨x,H,Z,Y,⟨rfl,λys hy=>by rw[I.tuple_inj hy n];exact J⟩,m,λb l=>(q b l).1⟩⟩
 done:=by
  intro X F A t Q i g s R H E I q f G
  subst F A t
  obtain⟨U,n,J⟩:=G
  obtain⟨j,L,p,hz⟩:=I.tuple n
  obtain⟨N,B,f2,M,C,y⟩:=q it (by simp)
  have hl:=L.length
  exact wpAny_pyNext_tuple_end (I.ok.hd Q) f (show s.heap.IsTuple a j.toArray from p) (by simp;omega) λr eb=>⟨rfl,I.turned (t':=s.toks) (λb o l e=>eb b o l e) N B M C y⟩
 self:=λ_ _ _ _ _ f h=>wpAny_pyIter_tupleiter f h
def yH{P:Program}{w:World}{K:PySem.W.Frag}{N:Expr}(it:Addr)(lo:Int)(n:Nat):Turn P w K N (Kq lo n) [it] it (λi h=>IsRangeIter h it (lo+(i:Nat)*1) ((n:Int)-(i:Nat)) 1) where
 mem:=by simp
 obj:=λi h a b d=>by
  have e:b=it:=by simpa using d
  subst e
  exact⟨_,a,λv z=>by
   have G:Data.fields _=Data.cell v:=z
   cases G⟩
 keep:=λi h j a k=>k it (by simp) _ a
 item:=by
  intro X x q m l i c s C H E I g a y
  subst x q m
  obtain⟨B,r,R,A,u,p⟩:=g it (by simp)
  have W:=Walks.range (prog:=X.prog) (w:=X.w) (I.ok.hd l) it lo 1 n
  refine W.item i s _ _ y a λv j F M f Q=> ?_
  obtain⟨t,rfl⟩:=M
  have J:Inv X c C H {s with heap:=j,toks:=F}:=I.turned (λb o d e=>Q b o (by simpa using d) e) B r A u p
  refine⟨_,rfl,DB (s:={s with heap:=j,toks:=F}) (n:="range_iterator") f rfl rfl (by decide) ⟨.int (lo+i),H,J,⟨t,?_⟩,⟨rfl,rfl⟩,f,λb d=>(g b d).1⟩⟩
  rw[Int.mul_one]
 done:=by
  intro X x q m l i c s C H E I g a y
  subst x q m
  obtain⟨B,r,R,A,u,p⟩:=g it (by simp)
  exact wpAny_pyNext_range_end (I.ok.hd l) a (by have:n<=i:=y;omega) λj L=>⟨rfl,I.turned (t':=s.toks) (λb o d e=>L b o d e) B r A u p⟩
 self:=λ_ _ _ _ _ a h=>wpAny_pyIter_rangeiter a h
section
variable{X:Cx}{tg:Expr}
def CV{a:List (Addr×Obj)}{d:St}{H:Hp}{s:Shared}{R:It->Hp->Prop}{E:Value->Shared->Prop}{lo hi:Int}{t u v:Tok}{f:Nat}(I:Inv X a d H s)(k: -(2^62)<=lo)(i:lo<2^62)(m: -(2^62)<=hi)(l:hi<2^62)
  (q:R (Kq lo (hi-lo).toNat) H):wpAny (model X.prog X.w) X.A (pyIter (.ref s.heap.objs.size)) (Lm X a d tg R) E {s with heap:=s.heap.push {cls:=.type "range",data:=.fields #[.int lo t,.int hi u,.int 1 v]},toks:=f}:=by
 refine wpAny_pyIter_range (IsRange.new ..) (small_one k i m l) ?_
 have c:Inv X a d H {s with heap:=s.heap.push {cls:=.type "range",data:=.fields #[.int lo t,.int hi u,.int 1 v]},toks:=f}:=I.kept λb o e=>Qcq _ e
 refine⟨(s.heap.push {cls:=.type "range",data:=.fields #[.int lo t,.int hi u,.int 1 v]}).objs.size,[(s.heap.push {cls:=.type "range",data:=.fields #[.int lo t,.int hi u,.int 1 v]}).objs.size],_,_,H,rfl,
  c.kept (t':=f) λb o e=>Qcq _ e,yH _ lo (hi-lo).toNat,?_,λb j=> ?_,q⟩
 ·have h:lo+((0:Nat):Int)*1=lo:=by simp
  have g:(((hi-lo).toNat:Nat):Int)-((0:Nat):Int)=Builtin.Range.rangeSize lo hi 1:=by rw[rangeSize_one];split <;>omega
  show IsRangeIter _ _ (lo+((0:Nat):Int)*1) ((((hi-lo).toNat:Nat):Int)-((0:Nat):Int)) 1
  rw[h,g]
  exact Qrq _ rfl
 ·have e:b=(s.heap.push {cls:=.type "range",data:=.fields #[.int lo t,.int hi u,.int 1 v]}).objs.size:=by simpa using j
  subst e
  exact c.fpOk (Qmq _) (c.hok.fresh (Qmq _))
def JC(b:TA):TI:=λc H R=>b c H λa H1=>∃j:Int,a= [.int j]/\ -(2^62)<=j/\j<2^62/\R (Kq 0 j.toNat) H1
def BH{a:Expr}{d:TA}{p pos:Pos}(l:Gl X "range")(u:X.mg "range"=none)(m:PA X [a] d)(o:starEach [a] X.env= [(false,eval a X.env)]:=by rfl):PI X tg (.Call (.Name "range" p) [a] [] pos) (JC d):=by
 intro b s k H R I h
 refine Call_ (j8 I l u boot_range (PyProof.Rows.callWith_type1 (cP (m pos b s k H _ I h) λw v ⟨x,H1,f,n,c⟩=> ?_) o rfl))
 obtain⟨j,e,c,g,q⟩:=c
 subst e
 cases n with
 | cons r i=>
   cases i
   obtain⟨t,rfl⟩:=r
   exact call_range_1 (CV f (by omega) (by omega) c g (by simpa using q))
def KG(h:TI)(g:TG)(f:TS):TS:=λD a H=>h a H λJ H1=>∃W:Nat->Nat->St->Hp->Prop,(∃m,W 0 m a H1)/\∀i m a H,W i m a H→
 (J.stop i H/\D.nx a H)\/(J.go i H/\∃N:St->Hp->Prop,(∀c b,N c b->∃e,e<m/\W (i+1) e c b)/\∀x b,J.yld i H x b->g x a b λd H2=>f {D with nx:=N,ct:=N,bk:=D.nx} d H2)
def l9(fp:List Addr)(h:Heap):List (Addr×Obj):=fp.filterMap λb=>(h.get? b).map λo=>(b,o)
def dm{fp:List Addr}{h:Heap}{b:Addr}{o:Obj}(a:b∈fp)(e:h.get? b=some o):(b,o)∈l9 fp h:=List.mem_filterMap.mpr ⟨b,a,by rw[e];rfl⟩
def B7{fp:List Addr}{h:Heap}{p:Addr×Obj}(a:p∈l9 fp h):p.1∈fp/\h.get? p.1=some p.2:=by
 obtain⟨b,c,e⟩:=List.mem_filterMap.mp a
 cases q:h.get? b with
 |none=>rw[q] at e;cases e
 | some o=>
   rw[q] at e
   have d:(b,o)=p:=QdQ e
   subst d
   exact⟨c,q⟩
def Inv.pinned{a:List (Addr×Obj)}{c:St}{H:Hp}{s:Shared}{fp:List Addr}(I:Inv X a c H s)(i:∀b∈fp,nX X a H b)(k:∀b∈fp,∃o,s.heap.get? b=some o/\∀v,o.data≠.cell v):Inv X (a++l9 fp s.heap) c H s:=
 I.pins_of λp h=>(mQa.mp h).elim (λz=>I.pin p (Qoq _ z)) λz=>by
  obtain⟨f,e⟩:=B7 z
  obtain⟨m,j,l,_⟩:=i p.1 f
  obtain⟨o,g,d⟩:=k p.1 f
  rw[e] at g;cases g
  exact⟨e,m,j,l,d⟩
def Inv.unpinned{a c:List (Addr×Obj)}{b:St}{H:Hp}{s:Shared}(I:Inv X (a++c) b H s):Inv X a b H s:=I.pins_of λp d=>I.pin p (Qoq _ (List.mem_append_left _ d))
def G2{k:Expr}{B:List Stmt}{wi:TI}{g:TG}{tb:TS}{pos:Pos}(L:PassesOwn (model X.prog X.w) X.A X.env X.xe)(hc:X.calm=true)(hi:PI X tg k wi)(hg:PG X tg g)(y:pO X B tb)
  (hs:∀x,foldedSetIterable k X.env x=pure x:=by intro _;rfl):PS X (.For tg k B [] pos) (KG wi g tb):=by
 intro c s σ H D I h
 refine wpAny_For (cP (hi c s σ H _ I h) λv s1 h1=>cP h1 λa2 s2 h2=> ?_) hs
 obtain⟨it,S,tn,J,H2,e,I2,T,a1,f2,W,⟨m0,w0⟩,P⟩:=h2
 subst e
 have j:∀{z:Hp},(∀b∈S,z b=none)->∀b∈S,nX X c z b:=λhn b y=>⟨hn b y,(f2 b y).2⟩
 refine codeAny_forLoop_any (λn s'=>∃i q z,Inv X c q z s'/\tn i s'.heap/\(∀b∈S,z b=none)/\W i n q z) ?_ m0 ⟨0,σ,H2,I2,a1,λb y=>(f2 b y).1,w0⟩
 rintro n s3 ⟨i,p,H3,I3,K,Q,w3⟩
 rcases P i n p H3 w3 with⟨stop,qn⟩|⟨go,N,hN,R⟩
 ·refine wpAny_passesOwn L (cP (T.done X rfl rfl rfl hc i c s3 p H3 X.xe I3 (j Q) K stop) λr s4 G=> ?_)
  obtain⟨hr,I4⟩:=G
  subst hr
  exact wpAny_execs_nil ⟨p,H3,I4,qn⟩
 ·refine wpAny_passesOwn L (cP (T.item X rfl rfl rfl hc i c s3 p H3 X.xe I3 (j Q) K go) λr s4 G=> ?_)
  obtain⟨u,hr,h4⟩:=G
  subst hr
  refine wpAny_passesOwn L (cP h4 λ_ s5 G=> ?_)
  obtain⟨x,H5,I5,r5,y5,F,Y⟩:=G
  have a0:=I5.pinned (j Y) (T.obj _ _ F)
  refine wpAny_passesOwn L (cP (hg _ s5 p H5 x u _ a0 r5 (R x H5 y5)) λ_ s6 G=> ?_)
  obtain⟨U,H6,I6,q6⟩:=G
  refine wpAny_passesOwn L (cP (y _ s6 U H6 _ I6 q6) λf Z C=> ?_)
  have again:∀{a:St} {t:Hp},Inv X (c++l9 S s5.heap) a t Z->N a t->∃m,m<n/\∃i q z,Inv X c q z Z/\tn i Z.heap/\(∀b∈S,z b=none)/\W i m q z:=λ{a t} l M=>by
   obtain⟨m',hm,w7⟩:=hN a t M
   refine⟨m',hm,i+1,a,t,l.unpinned,T.keep _ _ _ F λb y o e=>(l.pin (b,o) (Qoq _ (Qoq _ (dm y e)))).1,λb y=> ?_,w7⟩
   obtain⟨o,e,d⟩:=T.obj _ _ F b y
   exact(l.pin (b,o) (Qoq _ (Qoq _ (dm y e)))).2.1
  cases f with
  |next=>obtain⟨a,t,l,M⟩:=C;exact again l M
  |cont=>obtain⟨a,t,l,M⟩:=C;exact again l M
  |brk=>obtain⟨a,t,l,C⟩:=C;exact⟨a,t,l.unpinned,C⟩
  |ret v=>obtain⟨x7,a,t,l,r7,C⟩:=C;exact⟨x7,a,t,l.unpinned,r7,C⟩
end
abbrev R2:=V->V->Hp->VK->Prop
def jI(X:Cx)(f:Value->Value->Sem Value)(r:R2):Prop:=
 ∀ (a:List (Addr×Obj)) (s:Shared) (b:St) (H:Hp) (x y:V) (v u:Value) (Q:VK),Inv X a b H s->RelV x v->RelV y u->r x y H Q→
   wpAny (model X.prog X.w) X.A (f v u) (EP X a b Q) X.xe s
def KS(X:Cx)(f:Value->Sem Value)(r:V->Hp->VK->Prop):Prop:=
 ∀ (a:List (Addr×Obj)) (s:Shared) (b:St) (H:Hp) (x:V) (v:Value) (Q:VK),Inv X a b H s->RelV x v->r x H Q→
   wpAny (model X.prog X.w) X.A (f v) (EP X a b Q) X.xe s
def gL(X:Cx)(f:Value)(r:List V->Hp->VK->Prop):Prop:=
 ∀ (a:List (Addr×Obj)) (s:Shared) (d:St) (H:Hp) (c:List V) (b:List Value) (Q:VK),Inv X a d H s->bD c b->r c H Q→
   wpAny (model X.prog X.w) X.A (call f b) (EP X a d Q) X.xe s
def Ku(X:Cx)(r:V->Hp->(Bool->Hp->Prop)->Prop):Prop:=
 ∀ (a:List (Addr×Obj)) (s:Shared) (b:St) (H:Hp) (x:V) (v:Value) (Q:Bool->Hp->Prop),Inv X a b H s->RelV x v->r x H Q→
   wpAny (model X.prog X.w) X.A (truthy v) (TP X a b Q) X.xe s
def Gr(r:R2)(c b:TE):TE:=λa H Q=>c a H λx H1=>b a H1 λy H2=>r x y H2 Q
def LJ(r:V->Hp->VK->Prop)(a:TE):TE:=λb H Q=>a b H λx H1=>r x H1 Q
def rI(C:Int->Int->Prop)(g:Int->Int->V):R2:=λx y H Q=>∃i j,x=.int i/\y=.int j/\C i j/\Q (g i j) H
def A8(g:Int->Int->V):R2:=λx y H Q=>∃i j,x=.int i/\y=.int j/\Q (g i j) H
def rU(g:Int->V):V->Hp->VK->Prop:=λx H Q=>∃i,x=.int i/\Q (g i) H
section
variable{X:Cx}{a b c:Expr}{ta tb tc:TE}{pos:Pos}
def GK(r:PE X a ta)(q:PE X b tb){d:List (Addr×Obj)}{s:Shared}{e:St}{H:Hp}{R:V->V->Hp->Prop}(I:Inv X d e H s)
  (h:ta e H λx H1=>tb e H1 λy H2=>R x y H2) {Q:Value->Shared->Prop} {f:Value->Value->Sem Value}
  (m:∀v u j x y H2,Inv X d e H2 j->RelV x v->RelV y u->R x y H2->wpAny (model X.prog X.w) X.A (f v u) Q X.xe j):
  wpAny (model X.prog X.w) X.A (eval a X.env) (λv g=>wpAny (model X.prog X.w) X.A (eval b X.env) (λu i=>wpAny (model X.prog X.w) X.A (f v u) Q X.xe i) X.xe g) X.xe s:=by
 refine cP (r d s e H _ I h) λv l k=> ?_
 obtain⟨x,H1,n,z,B⟩:=k
 refine cP (q d l e H1 _ n B) λu j k=> ?_
 obtain⟨y,H2,t,p,o⟩:=k
 exact m v u j x y H2 t z p o
def oI{e:Operator}{r:R2}(m:jI X (binaryOp e) r)(j:PE X a ta)(g:PE X b tb):PE X (.BinOp a e b pos) (Gr r ta tb):=by
 intro d s f H Q I h
 exact wpAny_BinOp (GK j g I h λv u l x y H2 k n i q=>m d l f H2 x y v u Q k n i q)
def IU{e:UnaryOp}{r:V->Hp->VK->Prop}(l:KS X (unaryOp e) r)(j:PE X a ta):PE X (.UnaryOp e a pos) (LJ r ta):=by
 intro d s f H Q I h
 exact UnaryOp_ (cP (j d s f H _ I h) λv g ⟨x,H1,k,m,i⟩=>l d g f H1 x v Q k m i)
def Ki{f:Value->Value->Sem Value}{C:Int->Int->Prop}{g:Int->Int->Int}
  (d:∀(i j:Int) (t u:Tok) (s:Shared) (Q:Value->Shared->Prop) (E:Value->Shared->Prop),C i j->Q (.int (g i j) s.toks) {s with toks:=s.toks+1}->wpAny (model X.prog X.w) X.A (f (.int i t) (.int j u)) Q E s):
  jI X f (rI C λi j=>.int (g i j)):=by
 intro e s n H x y v u Q I m l h
 obtain⟨i,j,rfl,rfl,hc,q⟩:=h
 obtain⟨t,rfl⟩:=m
 obtain⟨k,rfl⟩:=l
 exact d i j t k s _ _ hc ⟨.int (g i j),H,I.tok _,⟨_,rfl⟩,q⟩
def Ja{f:Value->Value->Sem Value}{g:Int->Int->Int}
  (d:∀(i j:Int) (t u:Tok) (s:Shared) (Q:Value->Shared->Prop) (E:Value->Shared->Prop),Q (.int (g i j) s.toks) {s with toks:=s.toks+1}->wpAny (model X.prog X.w) X.A (f (.int i t) (.int j u)) Q E s):
  jI X f (A8 λi j=>.int (g i j)):=by
 intro e s n H x y v u Q I m l h
 obtain⟨i,j,rfl,rfl,q⟩:=h
 obtain⟨t,rfl⟩:=m
 obtain⟨k,rfl⟩:=l
 exact d i j t k s _ _ ⟨.int (g i j),H,I.tok _,⟨_,rfl⟩,q⟩
def EW{f:Value->Value->Sem Value}{g:Int->Int->Bool}
  (d:∀(i j:Int) (t u:Tok) (s:Shared) (Q:Value->Shared->Prop) (E:Value->Shared->Prop),Q (.bool (g i j)) s->wpAny (model X.prog X.w) X.A (f (.int i t) (.int j u)) Q E s):
  jI X f (A8 λi j=>.bl (g i j)):=by
 intro e s n H x y v u Q I m l h
 obtain⟨i,j,rfl,rfl,q⟩:=h
 obtain⟨t,rfl⟩:=m
 obtain⟨k,rfl⟩:=l
 exact d i j t k s _ _ ⟨.bl (g i j),H,I,rfl,q⟩
def De(i j:Int):Prop:=0<j/\j<1073741824
def D2(i j:Int):Prop:=0<=j/\j<=1000000/\i.natAbs<2^64
def FJ(i j:Int):Prop:=(-(2^64)<i/\i<2^64)\/(-(2^64)<j/\j<2^64)
def FJ.ok{i j:Int}(h:FJ i j):IntMulOk i j:=by
 rcases h with⟨d,e⟩|⟨d,e⟩
 ·exact .of_left (intBits_le_64 d e)
 ·exact .of_right (intBits_le_64 d e)
def Hn:jI X (binaryOp .Add) (A8 λi j=>.int (i+j)):=Ja λ_ _ _ _ _ _ _ q=>add_int q
def GS:jI X (binaryOp .Sub) (A8 λi j=>.int (i-j)):=Ja λ_ _ _ _ _ _ _ q=>sub_int q
def EL:jI X (binaryOp .FloorDiv) (rI De λi j=>.int (i/j)):=Ki λi j _ _ _ _ _ d q=>by
 have e:(0:Int)<j:=d.1
 have f:j<1073741824:=d.2
 exact floordiv_int (by omega) (by rw[Int.fdiv_eq_ediv_of_nonneg i (by omega)];exact q) (.inl (PyProof.noPylong_small (by omega)))
def G8:jI X (binaryOp .Mod) (rI (λ_ j=>0<j) λi j=>.int (i%j)):=Ki λi j _ _ _ _ _ d q=>by
 have e:(0:Int)<j:=d
 exact mod_int' (by omega) (by rw[Int.fmod_eq_emod_of_nonneg i (by omega)];exact q)
def He:jI X (binaryOp .Pow) (rI D2 λi j=>.int (i^j.toNat)):=Ki λ_ _ _ _ _ _ _ d q=>pow_int_small d.1 d.2.1 d.2.2 q
def LB{f:Value->Sem Value}{g:Int->Int}
  (d:∀(i:Int) (t:Tok) (s:Shared) (Q:Value->Shared->Prop) (E:Value->Shared->Prop),Q (.int (g i) s.toks) {s with toks:=s.toks+1}->wpAny (model X.prog X.w) X.A (f (.int i t)) Q E s):
  KS X f (rU λi=>.int (g i)):=by
 intro e s k H x v Q I j h
 obtain⟨i,rfl,q⟩:=h
 obtain⟨t,rfl⟩:=j
 exact d i t s _ _ ⟨.int (g i),H,I.tok _,⟨_,rfl⟩,q⟩
def GX:KS X (unaryOp .USub) (rU λi=>.int (-i)):=LB λ_ _ _ _ _ q=>neg_int q
end
def yl:V->V->Bool
 |.non,.non=>true|.non,.int _=>true|.int _,.non=>true|.non,.bl _=>true|.bl _,.non=>true|.non,.str _=>true|.str _,.non=>true
 |.int _,.int _=>true|.bl _,.bl _=>true|.str _,.str _=>true|.byt _,.byt _=>true
 |.int _,.str _=>true|.str _,.int _=>true|.bl _,.str _=>true|.str _,.bl _=>true
 |_,_=>false
def Ly:R2:=λx y H Q=>yl x y=true/\Q (.bl (decide (x=y))) H
def Le:R2:=λx y H Q=>yl x y=true/\Q (.bl (!decide (x=y))) H
def Ar{i j:Int}:decide (V.int i=V.int j)=(i==j):=by
 rw[Bool.eq_iff_iff]
 simp
def CW{i j:Bool}:decide (V.bl i=V.bl j)=(i==j):=by
 rw[Bool.eq_iff_iff]
 simp
def zM{i j:Str}:decide (V.str i=V.str j)=(i==j):=by
 rw[Bool.eq_iff_iff]
 simp
def AA{i j:Array UInt8}:decide (V.byt i=V.byt j)=(i.toList==j.toList):=by
 rw[Bool.eq_iff_iff]
 cases i
 cases j
 simp
section
variable{X:Cx}{a b c:Expr}{ta tb tc:TE}{pos:Pos}
def bP{d:List (Addr×Obj)}{g:St}{H:Hp}{s:Shared}{Q:VK}{k f:Bool}(I:Inv X d g H s)(q:Q (.bl k) H)(e:k=f):EP X d g Q (.bool f) s:=by
 subst e
 exact⟨.bl k,H,I,rfl,q⟩
def dM:jI X (compareOp .Eq) Ly:=by
 intro k s l H x y v u Q I g d h
 obtain⟨f,q⟩:=h
 cases x with
 | non=>
   cases g
   cases y with
   |non=>cases d;exact PySem.EqNone.eq_none_none (bP I q (by simp))
   |bl j=>cases d;exact PySem.EqNone.eq_none_bool (bP I q (by simp))
   |int j=>obtain⟨e,rfl⟩:=d;exact PySem.EqNone.eq_none_int (bP I q (by simp))
   |str j=>obtain⟨e,rfl⟩:=d;exact PySem.EqNone.eq_none_str (bP I q (by simp))
   |_=>exact absurd (show false=true from f) Qtq
 | bl i=>
   cases g
   cases y with
   |non=>cases d;exact PySem.EqNone.eq_bool_none (bP I q (by simp))
   |bl j=>cases d;exact eq_bool (bP I q CW)
   |str j=>obtain⟨e,rfl⟩:=d;exact PySem.EqMixed.eq_bool_str (bP I q (by simp))
   |_=>exact absurd (show false=true from f) Qtq
 | int i=>
   obtain⟨t,rfl⟩:=g
   cases y with
   |non=>cases d;exact PySem.EqNone.eq_int_none (bP I q (by simp))
   |int j=>obtain⟨e,rfl⟩:=d;exact eq_int (bP I q Ar)
   |str j=>obtain⟨e,rfl⟩:=d;exact PySem.EqMixed.eq_int_str (bP I q (by simp))
   |_=>exact absurd (show false=true from f) Qtq
 | str i=>
   obtain⟨t,rfl⟩:=g
   cases y with
   |non=>cases d;exact PySem.EqNone.eq_str_none (bP I q (by simp))
   |bl j=>cases d;exact PySem.EqMixed.eq_str_bool (bP I q (by simp))
   |int j=>obtain⟨e,rfl⟩:=d;exact PySem.EqMixed.eq_str_int (bP I q (by simp))
   |str j=>obtain⟨e,rfl⟩:=d;exact eq_str (bP I q zM)
   |_=>exact absurd (show false=true from f) Qtq
 | byt i=>
   obtain⟨t,rfl⟩:=g
   cases y with
   |byt j=>obtain⟨e,rfl⟩:=d;exact PySem.W.eq_bytes (bP I q AA)
   |_=>exact absurd (show false=true from f) Qtq
 |_=>cases y <;>exact absurd (show false=true from f) Qtq
def ud:jI X (compareOp .NotEq) Le:=by
 intro k s l H x y v u Q I g d h
 obtain⟨f,q⟩:=h
 cases x with
 | non=>
   cases g
   cases y with
   |non=>cases d;exact PySem.EqNone.ne_none_none (bP I q (by simp))
   |bl j=>cases d;exact PySem.EqNone.ne_none_bool (bP I q (by simp))
   |int j=>obtain⟨e,rfl⟩:=d;exact PySem.EqNone.ne_none_int (bP I q (by simp))
   |str j=>obtain⟨e,rfl⟩:=d;exact PySem.EqNone.ne_none_str (bP I q (by simp))
   |_=>exact absurd (show false=true from f) Qtq
 | bl i=>
   cases g
   cases y with
   |non=>cases d;exact PySem.EqNone.ne_bool_none (bP I q (by simp))
   |bl j=>cases d;exact ne_bool (bP I q (congrArg not CW))
   |str j=>obtain⟨e,rfl⟩:=d;exact PySem.EqMixed.ne_bool_str (bP I q (by simp))
   |_=>exact absurd (show false=true from f) Qtq
 | int i=>
   obtain⟨t,rfl⟩:=g
   cases y with
   |non=>cases d;exact PySem.EqNone.ne_int_none (bP I q (by simp))
   |int j=>obtain⟨e,rfl⟩:=d;exact ne_int (bP I q (congrArg not Ar))
   |str j=>obtain⟨e,rfl⟩:=d;exact PySem.EqMixed.ne_int_str (bP I q (by simp))
   |_=>exact absurd (show false=true from f) Qtq
 | str i=>
   obtain⟨t,rfl⟩:=g
   cases y with
   |non=>cases d;exact PySem.EqNone.ne_str_none (bP I q (by simp))
   |bl j=>cases d;exact PySem.EqMixed.ne_str_bool (bP I q (by simp))
   |int j=>obtain⟨e,rfl⟩:=d;exact PySem.EqMixed.ne_str_int (bP I q (by simp))
   |str j=>obtain⟨e,rfl⟩:=d;exact ne_str (bP I q (congrArg not zM))
   |_=>exact absurd (show false=true from f) Qtq
 | byt i=>
   obtain⟨t,rfl⟩:=g
   cases y with
   |byt j=>obtain⟨e,rfl⟩:=d;exact PySem.W.ne_bytes (bP I q (congrArg not AA))
   |_=>exact absurd (show false=true from f) Qtq
 |_=>cases y <;>exact absurd (show false=true from f) Qtq
def Gd:jI X (compareOp .Lt) (A8 λi j=>.bl (decide (i<j))):=EW λ_ _ _ _ _ _ _ q=>lt_int q
def Gf:jI X (compareOp .LtE) (A8 λi j=>.bl (decide (i<=j))):=EW λ_ _ _ _ _ _ _ q=>le_int q
def xi:jI X (compareOp .Gt) (A8 λi j=>.bl (decide (j<i))):=EW λ_ _ _ _ _ _ _ q=>gt_int q
def IR:jI X (compareOp .GtE) (A8 λi j=>.bl (decide (j<=i))):=EW λ_ _ _ _ _ _ _ q=>ge_int q
def zh:jI X (compareOp .Is) (λx y H Q=>y=.non/\Q (.bl (decide (x=.non))) H):=by
 intro e s g H x y v u Q I d f h
 obtain⟨rfl,q⟩:=h
 cases f
 refine is_none_gen (bP I q ?_)
 cases x <;>first
  |(cases d;rfl)
  |(obtain⟨t,rfl⟩:=d;rfl)
def Aa:jI X (compareOp .IsNot) (λx y H Q=>y=.non/\Q (.bl (!decide (x=.non))) H):=by
 intro e s g H x y v u Q I d f h
 obtain⟨rfl,q⟩:=h
 cases f
 refine isnot_none_gen (bP I q ?_)
 cases x <;>first
  |(cases d;rfl)
  |(obtain⟨t,rfl⟩:=d;rfl)
def jI.or{f:Value->Value->Sem Value}{r j:R2}(h:jI X f r)(h':jI X f j):jI X f (λx y H Q=>r x y H Q\/j x y H Q):=by
 intro d s i H x y v u Q I e g q
 rcases q with q|q
 ·exact h d s i H x y v u Q I e g q
 ·exact h' d s i H x y v u Q I e g q
def bf(b:Expr){d:CmpOp}(h:d≠.In:=by decide)(f:d≠.NotIn:=by decide):behindInMarks d b=false:=by
 have e:(d==CmpOp.In)=false:=by cases d <;>first|rfl|exact absurd rfl h
 have g:(d==CmpOp.NotIn)=false:=by cases d <;>first|rfl|exact absurd rfl f
 cases b <;>simp[behindInMarks,e,g]
def FP{e:CmpOp}{r:R2}(m:jI X (compareOp e) r)(j:PE X a ta)(g:PE X b tb)(o:behindInMarks e b=false):PE X (.Compare a [e] [b] pos) (Gr r ta tb):=by
 intro d s f H Q I h
 exact wpAny_Compare1 (GK j g I h λv u l x y H2 k n i q=>m d l f H2 x y v u Q k n i q) o
def CG(t:TE):TT:=λd H Q=>t d H λx e=>∃k,x=.bl k/\Q k e
def p7{f:CmpOp}{r:R2}(B:jI X (compareOp f) r)(t:PE X a ta)(q:PE X b tb)(G:behindInMarks f b=false):PT X (.Compare a [f] [b] pos) (CG (Gr r ta tb)):=by
 intro d s g H Q I h
 refine wpAny_isTrue_Compare1 (cP (t d s g H _ I h) λv i ⟨x,H1,l,C,F⟩=>cP (q d i g H1 _ l F) λu A ⟨y,H2,w,o,n⟩=>
  cP (B d A g H2 x y v u _ w C o n) λc J ⟨z,H3,m,j,k,e,p⟩=> ?_) G
 subst e
 cases j
 exact wpAny_truthy_bool ⟨H3,m,p⟩
def HS(K:PySem.W.Frag)(x:V)(H:Hp)(k:Bool):Prop:=
 match x with
 |.non=>k=false
 |.bl b=>k=b
 |.int i=>k=(i !=0)
 |.str y=>y.length<=sizeLine/\k=((y.length:Int) !=0)
 |.byt y=>y.size<=sizeLine/\k=((y.size:Int) !=0)
 |.ref p=>(∃d,iM K H p d/\k= !d.isEmpty)\/(∃d,ic K H p d/\k= !d.isEmpty)\/∃e,H p=some (.dK e)/\k= !e.isEmpty
 |_=>False
def y_{κ:Type}{kvs:List (κ×V)}{vs:List (κ×Value)}(r:KV kvs vs):(!vs.isEmpty)= !kvs.isEmpty:=by
 cases r <;>rfl
def p_{xs:List V}{d:List Value}(r:bD xs d):(!d.toArray.isEmpty)= !xs.isEmpty:=by
 cases r <;>simp
def jh:(sizeLine:Nat)<2^63:=by rw[sizeLine_eq];decide
def H_:Ku X (λx H Q=>∃k,HS X.K x H k/\Q k H):=by
 intro B s G H x v Q I l h
 obtain⟨k,e,q⟩:=h
 have J:=jh
 have L:sizeLine=16777216:=sizeLine_eq
 cases x with
 | non=>
   cases l
   have d:k=false:=e
   subst d
   exact truthy_none ⟨H,I,q⟩
 | bl b=>
   cases l
   have d:k=b:=e
   subst d
   exact wpAny_truthy_bool ⟨H,I,q⟩
 | int i=>
   obtain⟨t,rfl⟩:=l
   have d:k=(i !=0):=e
   subst d
   exact PySem.P.truthy_int ⟨H,I,q⟩
 | str y=>
   obtain⟨t,rfl⟩:=l
   obtain⟨F,d⟩:y.length<=sizeLine/\k=((y.length:Int) !=0):=e
   subst d
   exact PySem.P.truthy_str (by omega) ⟨H,I.tok _,q⟩
 | byt y=>
   obtain⟨t,rfl⟩:=l
   obtain⟨F,d⟩:y.size<=sizeLine/\k=((y.size:Int) !=0):=e
   subst d
   exact PySem.W.truthy_bytes (by omega) ⟨H,I.tok _,q⟩
 | ref p=>
   cases l
   have d:(∃j,iM X.K H p j/\k= !j.isEmpty)\/(∃j,ic X.K H p j/\k= !j.isEmpty)\/∃f,H p=some (.dK f)/\k= !f.isEmpty:=e
   rcases d with⟨j,n,d⟩|⟨j,n,d⟩|⟨f,n,d⟩
   · subst d
     obtain⟨z,r,u,A⟩:=I.list n
     have g:=r.length
     exact wpAny_truthy_list u.isList (by simp only[Qjq];omega) ⟨H,I.tok _,by rw[p_ r];exact q⟩
   · subst d
     obtain⟨z,r,u,A⟩:=I.tuple n
     have g:=r.length
     exact truthy_tuple u (by simp only[Qjq];omega) ⟨H,I.tok _,by rw[p_ r];exact q⟩
   · subst d
     obtain⟨A,C,o,r,m⟩:f.length<=sizeLine/\(p==sysModules)=false/\∃o,KV f o/\s.heap.DictOf (bN X.prog X.w) p o:=I.hok p _ n
     have g:f.length=o.length:=Paired.length r
     exact wpAny_truthy_dict C m (by omega) ⟨H,I.tok _,by rw[y_ r];exact q⟩
 |_=>exact(show False from e).elim
def Dh(l:PE X a ta)(he:∀d,isTrue a X.env d=(do let v←d;standAt a.pos;holding [v] (truthy v))):
  PT X a (λf H Q=>ta f H λx g=>∃k,HS X.K x g k/\Q k g):=by
 intro e s f H Q I h
 exact isTrue_plain (cP (l e s f H _ I h) λv i ⟨x,H1,j,n,m⟩=>H_ e i f H1 x v Q j n m) (he _)
def zt:jI X (binaryOp .Add) (λx y H Q=>∃i j,x=.str i/\y=.str j/\i.length+j.length<=sizeLine/\Q (.str (i++j)) H):=by
 intro d s k H x y v u Q I e f h
 obtain⟨i,j,rfl,rfl,hz,q⟩:=h
 obtain⟨t,rfl⟩:=e
 obtain⟨g,rfl⟩:=f
 exact add_str (λg l=>⟨.str (i++j),H,I.tok _,⟨_,rfl⟩,q⟩) hz
def vals1{x:V}{d:List Value}(r:bD [x] d):∃u,d= [u]/\RelV x u:=by
 cases r with
 |cons f e=>cases e;exact⟨_,rfl,f⟩
def vals2{x y:V}{d:List Value}(r:bD [x,y] d):∃u e,d= [u,e]/\RelV x u/\RelV y e:=by
 cases r with
 | cons i g=>
   cases g with
   |cons f h=>cases h;exact⟨_,_,rfl,i,f⟩
def C8:gL X (.builtin "abs") (λxs H Q=>∃i,xs= [.int i]/\Q (.int (if i<0 then -i else i)) H):=by
 intro d s f H xs e Q I r h
 obtain⟨i,rfl,q⟩:=h
 obtain⟨u,rfl,t,rfl⟩:=vals1 r
 exact call_abs_int λu g=>⟨.int (if i<0 then -i else i),H,I.tok _,⟨_,rfl⟩,q⟩
def tF(f:X.calm=true):gL X (.builtin "max") (λxs H Q=>∃i j,xs= [.int i,.int j]/\Q (.int (if j>i then j else i)) H):=by
 intro e s l H xs g Q I r h
 obtain⟨i,j,rfl,q⟩:=h
 obtain⟨u,n,rfl,⟨t,rfl⟩,⟨t',rfl⟩⟩:=vals2 r
 refine max_two_ints (I.ok.hd f) λm o k=>⟨_,H,I.kept k,?_,q⟩
 by_cases d:j>i
 ·rw[Qhq d,Qhq d];exact⟨_,rfl⟩
 ·rw[Quq d,Quq d];exact⟨_,rfl⟩
def oA(f:X.calm=true):gL X (.builtin "min") (λxs H Q=>∃i j,xs= [.int i,.int j]/\Q (.int (if j<i then j else i)) H):=by
 intro e s l H xs g Q I r h
 obtain⟨i,j,rfl,q⟩:=h
 obtain⟨u,n,rfl,⟨t,rfl⟩,⟨t',rfl⟩⟩:=vals2 r
 refine min_two_ints (I.ok.hd f) λm o k=>⟨_,H,I.kept k,?_,q⟩
 by_cases d:j<i
 ·rw[Qhq d,Qhq d];exact⟨_,rfl⟩
 ·rw[Quq d,Quq d];exact⟨_,rfl⟩
def kH:gL X (.type "int") (λxs H Q=>(∃i,xs= [.int i]/\Q (.int i) H)\/∃k,xs= [.bl k]/\Q (.int (if k then 1 else 0)) H):=by
 intro d s f H xs e Q I r h
 rcases h with⟨i,rfl,q⟩|⟨k,rfl,q⟩
 ·obtain⟨u,rfl,t,rfl⟩:=vals1 r
  exact call_int_int ⟨.int i,H,I,⟨_,rfl⟩,q⟩
 ·obtain⟨u,rfl,r1⟩:=vals1 r
  cases r1
  exact call_int_bool ⟨.int (if k then 1 else 0),H,I.tok _,⟨_,rfl⟩,q⟩
end
structure Ht(h:Heap)(x dx C:Addr)(mA:Str->Option Value):Prop where
 obj:h.get? x=some (PySem.W.instObj C dx)
 ns:h.Ns1 dx mA
 ne:dx≠x
def A4{h:Heap}{d:Addr}{g:Str->Option Value}(n:h.Ns1 d g):∃c,h.get? d=some c/\∀name,PySem.W.lookIn name c=some (g name):=by
 obtain⟨o,f,r,m,i,k,_,p⟩:=n
 refine⟨o,m,λname=> ?_⟩
 have e:=p name
 unfold nsFind findBy at e
 rw[←Array.find?_toList] at e
 unfold PySem.W.lookIn
 rw[i]
 dsimp only
 split
 ·rename_i y q
  rw[q] at e
  exact congrArg some e
 ·rename_i q
  rw[q] at e
  have a:f.toList.any (·.refKey)=false:=by
   rw[List.any_eq_false]
   intro y j
   obtain⟨z,t,b⟩:=k y (Array.mem_toList_iff.mp j)
   simp[DictEntry.refKey,b]
  have l:¬f.toList.any (·.refKey)=true:=by rw[a];exact Qtq
  rw[Quq l]
  exact congrArg some e
def Ht.look{h:Heap}{x c C:Addr}{b:Str->Option Value}(I:Ht h x c C b):∃a,PySem.W.InstAt h x (PySem.W.instObj C c) C (some a)/\∀name,PySem.W.lookIn name a=some (b name):=
 let ⟨a,ho,hl⟩:=A4 I.ns
 ⟨a,⟨I.obj,rfl,rfl,ho⟩,hl⟩
def qy.some_of{v:V}{o:Option Value}(r:qy (some v) o):∃u,o=some u/\RelV v u:=by
 cases o with
 |none=>exact(show False from r).elim
 |some u=>exact⟨u,rfl,r⟩
section
variable{P:Program}{w:World}{H H':Hp}{h h':Heap}{a C dx:Addr}{fs fs':List (Str×V)}
def FS(c:me P w H h)(e:H a=some (.ins C dx fs)):∃b,Ht h a dx C b/\(∀f,qy (fs.lookup f) (b f))/\PySem.Within b (fs.map (·.1))/\fs.length<=1000/\H dx=some (.own a):=by
 obtain⟨d,z,g,i,b,n,r,q⟩:=(show cY P w H h a (.ins C dx fs) from c a _ e)
 exact⟨b,⟨i,n,g⟩,r,q,z,d⟩
end
structure K7(K:PySem.W.Frag)(C:Addr):Prop where
 pg:PySem.W.plainGet K C Str.empty=true
 hd:PySem.W.hasDictIn K C=true
 po:PySem.W.plainOver K C=true
 sa:PySem.W.findIn K (.ref C) "__setattr__"=some (some (.builtin "object.__setattr__"))
def K7.get{K:PySem.W.Frag}{C:Addr}(c:K7 K C)(f:Str):PySem.W.plainGet K C f=true:=c.pg
section
variable{X:Cx}{pins:List (Addr×Obj)}{σ:St}{H:Hp}{s:Shared}{A:Around}{E:Value->Shared->Prop}{Q:Value->Shared->Prop}{c:Value}{b:Bool}
inductive nL(K:PySem.W.Frag)(H:Hp):V->Value->Prop where
 |non:nL K H .non (.type "NoneType")
 |bl (x:Bool):nL K H (.bl x) (.type "bool")
 |int (i:Int):nL K H (.int i) (.type "int")
 |str (x:Str):nL K H (.str x) (.type "str")
 |flt (x:UInt64):nL K H (.flt x) (.type "float")
 |lst {a:Addr} {xs:List V} (e:H a=some (.lst xs)):nL K H (.ref a) (.type "list")
 |frz {a:Addr} {o:Obj} {xs:List V} (e:H a=some (.frz o (.lst xs))):nL K H (.ref a) (.type "list")
 |tup {a:Addr} {xs:List V} (e:H a=some (.tup xs)):nL K H (.ref a) (.type "tuple")
 |dK {a:Addr} {kvs:List (Key×V)} (e:H a=some (.dK kvs)):nL K H (.ref a) (.type "dict")
 |dT {a:Addr} {kvs:List (List Key×V)} (e:H a=some (.dT kvs)):nL K H (.ref a) (.type "dict")
 |ins {a C dx:Addr} {fs:List (Str×V)} (e:H a=some (.ins C dx fs)) (cl:K7 K C) (ha:PySem.W.findIn K (.ref C) "__class__"=some (some (.builtin "object.__class__")))
   (hn:PySem.W.specialIn K (.builtin "object.__class__") "__get__"=some (some (.builtin "getset_descriptor.__get__"))) (htk:PySem.W.takesIn K (.builtin "object.__class__")=some true)
   (hm:PySem.W.mroIn K C (.type "object")=some true):nL K H (.ref a) (.ref C)
def A0{x:V}{u t:Value}(I:Inv X pins σ H s)(d:RelV x u)(m:nL X.K H x t)(e:PySem.W.kitOne X.K t c=some b)(h:∀r,Q (.bool b) {s with toks:=r}):
  wpAny (model X.prog X.w) A (call (.builtin "isinstance") [u,c]) Q E s:=by
 cases m with
 |non=>cases (show u=Value.none from d);exact PySem.W.kia_one PySem.W.kitx_none I.kIn True.intro e (λz=>nomatch z) h
 |bl y=>cases (show u=Value.bool y from d);exact PySem.W.kia_one PySem.W.kitx_bool I.kIn True.intro e (λz=>nomatch z) h
 |int i=>obtain⟨t,q⟩:=(show∃t,u=Value.int i t from d);cases q;exact PySem.W.kia_one PySem.W.kitx_int I.kIn True.intro e (λz=>nomatch z) h
 |str y=>obtain⟨t,q⟩:=(show∃t,u=Value.str y t from d);cases q;exact PySem.W.kia_one PySem.W.kitx_str I.kIn True.intro e (λz=>nomatch z) h
 |flt y=>obtain⟨t,q⟩:=(show∃t,u=Value.float y t from d);cases q;exact PySem.W.kia_one PySem.W.kitx_float I.kIn True.intro e (λz=>nomatch z) h
 | @lst a g ea=>
   cases (show u=Value.ref a from d)
   obtain⟨_,_,n,_,f⟩:=(show cY X.prog X.w H s.heap a (.lst g) from I.hok a _ ea)
   exact PySem.W.kia_one PySem.W.kitx_list I.kIn ⟨_,f,rfl⟩ e (λz=>nomatch z) h
 | @frz a ob g ea=>
   cases (show u=Value.ref a from d)
   obtain⟨_,_,_,n,_,f⟩:=(show cY X.prog X.w H s.heap a (.frz ob (.lst g)) from I.hok a _ ea)
   exact PySem.W.kia_one PySem.W.kitx_list I.kIn ⟨_,f,rfl⟩ e (λz=>nomatch z) h
 | @tup a g ea=>
   cases (show u=Value.ref a from d)
   obtain⟨_,_,_,p⟩:=(show cY X.prog X.w H s.heap a (.tup g) from I.hok a _ ea)
   obtain⟨o,f,j,_⟩:=p
   exact PySem.W.kia_one PySem.W.kitx_tuple I.kIn ⟨o,f,j⟩ e (λz=>nomatch z) h
 | @dK a kvs ea=>
   cases (show u=Value.ref a from d)
   obtain⟨_,_,B,_,p⟩:=(show cY X.prog X.w H s.heap a (.dK kvs) from I.hok a _ ea)
   obtain⟨o,k,l,f,j,_⟩:=p
   exact PySem.W.kia_one PySem.W.kitx_dict I.kIn ⟨o,f,j.1⟩ e (λz=>nomatch z) h
 | @dT a kvs ea=>
   cases (show u=Value.ref a from d)
   obtain⟨_,_,g,_,o,k,l,f,j,_⟩:=(show cY X.prog X.w H s.heap a (.dT kvs) from I.hok a _ ea)
   exact PySem.W.kia_one PySem.W.kitx_dict I.kIn ⟨o,f,j.1⟩ e (λz=>nomatch z) h
 | @ins a C dx fs ea cl ha hn htk hm=>
   cases (show u=Value.ref a from d)
   obtain⟨F,O,_⟩:=FS I.hok ea
   obtain⟨v,J,_⟩:=O.look
   exact PySem.W.kia_one (PySem.W.kitx_own (cl.get _) cl.hd ha hn htk hm) I.kIn J e (λz=>nomatch z) h
end
structure eG(k:Nat)(A:Around):Prop where
 hd:A.handled=none
 dp:A.depth+3*k+5<recursionLimit
 un:A.units+16*k+200<cLine
def eG.mono{j k:Nat}{A:Around}(r:eG k A)(h:j<=k):eG j A:=⟨r.hd,by have:=r.dp;omega,by have:=r.un;omega⟩
def eG.deeper{k:Nat}{A:Around}(r:eG (k+1) A)(env:Env):eG k (A.deeper env):=
 ⟨r.hd,by have:=r.dp;show A.depth+1+3*k+5<_;omega,by have:=r.un;show A.units+3+16*k+200<_;omega⟩
def eG.depth{k:Nat}{A:Around}(r:eG k A):A.depth<recursionLimit:=by have:=r.dp;omega
def eG.units{k:Nat}{A:Around}(r:eG k A):A.units+64<cLine:=by have:=r.un;omega
def eG.units0{k:Nat}{A:Around}(r:eG k A):A.units<cLine:=by have:=r.un;omega
def GJ:TA:=λ_ H Q=>Q [] H
def DF(c:TE)(tr:TA):TA:=λa H Q=>c a H λx H1=>tr a H1 λb H2=>Q (x::b) H2
section
variable{X:Cx}{e:Expr}{es:List Expr}{te:TE}{t:TA}{pos:Pos}
def gF:PA X [] GJ:=λ_ _ _ _ H Q I h=>Calls.spliced_nil ⟨[],H,I,.nil,h⟩
def dG(k:PE X e te)(j:PA X es t)(p:starEach (e::es) X.env=(false,eval e X.env)::starEach es X.env:=by rfl):PA X (e::es) (DF te t):=by
 intro pos a s b H Q I h
 rw[p]
 show wpAny _ _ (spliced ((false,eval e X.env)::backTo pos (starEach es X.env))) _ _ s
 refine Calls.spliced_cons (cP (k a s b H _ I h) λu c o=> ?_)
 obtain⟨x,H1,f,m,n⟩:=o
 exact cP (j pos a c b H1 _ f n) λq r ⟨d,H2,l,i,g⟩=>⟨x::d,H2,l,.cons m i,g⟩
def KH(t:TA):TE:=λb H Q=>t b H λa H1=>a.length<=sizeLine/\∀p,H1 p=none->Q (.ref p) (upd H1 p (.tup a))
def KP(t:TA):TE:=λb H Q=>t b H λa H1=>a.length<=sizeLine/\∀p,H1 p=none->Q (.ref p) (upd H1 p (.lst a))
def Ie{x1}(h:PA X es t):PE X (.Tuple es x1 pos) (KH t):=by
 intro a s k H Q I g
 refine wpAny_Tuple_spliced (cP (h pos a s k H _ I g) λf c ⟨i,H1,d,r,z,q⟩=>⟨by rw[←r.length];exact z,?_⟩)
 have j:H1 c.heap.objs.size=none:=d.hok.fresh (Qmq _)
 refine⟨.ref c.heap.objs.size,upd H1 c.heap.objs.size (.tup i),d.laid (t':=c.toks) (λb u e=>Qcq _ e) (Qmq _) ?_,rfl,q _ j⟩
 exact⟨z,f,r,⟨_,Qrq _ rfl,rfl,rfl,_,rfl⟩⟩
def GA(h:PA X es t):PE X (.List es pos) (KP t):=by
 intro a s k H Q I g
 refine wpAny_List_spliced (cP (h pos a s k H _ I g) λf c ⟨i,H1,d,r,z,q⟩=>⟨by rw[←r.length];exact z,?_⟩)
 have j:H1 c.heap.objs.size=none:=d.hok.fresh (Qmq _)
 refine⟨.ref c.heap.objs.size,upd H1 c.heap.objs.size (.lst i),d.laid (t':=c.toks) (λb u e=>Qcq _ e) (Qmq _) ?_,rfl,q _ j⟩
 exact⟨z,f,0,r,Qrq _ rfl⟩
end
abbrev Sp:=List V->Hp->VK->XK->Prop
abbrev B9:=List Env->Hp->Shared->XK->Value->Shared->Prop
structure EA(P:Program)(w:World)(K:PySem.W.Frag)(mg:Str->Option Value)(base:Heap)(A:Around)(outer:List Env)(s:Shared)(H:Hp):Prop where
 frames:A.frames=some outer
 mod:Mod K mg base
 bs:∀b o,base.get? b=some o->s.heap.get? b=some o/\H b=none
 bsz:base.objs.size<=s.heap.objs.size
 funs:s.heap.FunFrames base outer
 frf:∀b∈Eb outer,H b=none
 hok:me P w H s.heap
 bare:AllBare s.gens
def CE(outer:List Env)(P:Program)(w:World)(H:Hp)(s:Shared)(Q:VK)(u:Value)(s':Shared):Prop:=
 ∃v a,s'.os=s.os/\AllBare s'.gens/\Un (Eb outer) [] H a s.heap s'.heap/\me P w a s'.heap/\RelV v u/\Q v a
def CR(CX:B9)(outer:List Env)(P:Program)(w:World)(H:Hp)(s:Shared)(Q:VK)(E:XK)(r:Result)(s':Shared):Prop:=
 match r with
 |.ok (.ret u)=>CE outer P w H s Q u s'
 |.ok _=>False
 |.error e=>CX outer H s E e s'
structure bC(P:Program)(w:World)(K:PySem.W.Frag)(mg:Str->Option Value)(base:Heap)(CX:B9)(k:Nat)(f:Addr)(fd:FuncData)(ps:List Str)(sp:Sp):Prop where
 len:∀vs H Q E,sp vs H Q E->vs.length=ps.length
 run:∀(A:Around) (outer:List Env) (s:Shared) (H:Hp) (args:Args) (us:List Value) (vs:List V) (Q:VK) (E:XK),eG k A->EA P w K mg base A outer s H->BindsTo s fd args (ps.zip us)->bD vs us->sp vs H Q E→
  codeAny (model P w) A (.call (.ref f) args) (CR CX outer P w H s Q E) s
def bC.mono{P:Program}{w:World}{K:PySem.W.Frag}{mg:Str->Option Value}{base:Heap}{CX:B9}{j k:Nat}{f:Addr}{c:FuncData}{ps:List Str}{sp:Sp}(F:bC P w K mg base CX j f c ps sp)(h:j<=k):
  bC P w K mg base CX k f c ps sp:=⟨F.len,λA a s H b d e Q E g=>F.run A a s H b d e Q E (g.mono h)⟩
def bC.imp{P:Program}{w:World}{K:PySem.W.Frag}{mg:Str->Option Value}{base:Heap}{CX:B9}{k:Nat}{f:Addr}{d:FuncData}{ps:List Str}{sp c:Sp}(F:bC P w K mg base CX k f d ps sp)
  (h:∀vs H Q E,c vs H Q E->sp vs H Q E):bC P w K mg base CX k f d ps c:=
 ⟨λvs H Q E q=>F.len vs H Q E (h _ _ _ _ q),λA a s H b e vs Q E j m i g l=>F.run A a s H b e vs Q E j m i g (h _ _ _ _ l)⟩
section
variable{X:Cx}{pins:List (Addr×Obj)}{σ:St}{H:Hp}{s s':Shared}
def Inv.env0(I:Inv X pins σ H s):EA X.prog X.w X.K X.mg X.base X.A X.stack s H:=
 ⟨I.ok.frames,I.ok.mod,I.bs,QAq I.ok.bsz I.sz,I.stack,I.stkFree,I.hok,I.bare⟩
def Inv.after{Q:VK}{u:Value}(I:Inv X pins σ H s)(h:CE X.stack X.prog X.w H s Q u s'):EP X pins σ Q u s':=by
 obtain⟨v,j,i,a,k,e,r,q⟩:=h
 obtain⟨f,g,d,t,c⟩:=s'
 obtain rfl:c=s.os:=i
 exact⟨v,j,I.call (h':=f) (g':=g) (d':=d) (t':=t) (ch:= []) k e a (λb z=>absurd z (by simp)),r,q⟩
end
def C7(sp:Sp)(a:List V)(E:XK)(t:TA):TE:=λc H Q=>t c H λb H1=>sp (b++a) H1 Q E
def Binds(K:PySem.W.Frag)(b:FuncData)(ps:List Str)(ds:List Value):Prop:=
 ∀(s:Shared) (a:List Value),K.In s.heap->(a++ds).length=ps.length->BindsTo s b ⟨a,[]⟩ (ps.zip (a++ds))
def Binds.all{K:PySem.W.Frag}{c:FuncData}{ps:List Str}(h:∀a:List Value,a.length=ps.length->bindArgs c ⟨a,[]⟩=pure (ps.zip a)):Binds K c ps []:=λs a _ b=>by
 rw[List.append_nil] at b⊢
 exact .of_eq (h a b)
def zx(CX:B9)(X:Cx)(E:XK):Prop:=∀(a:List (Addr×Obj)) (c:St) (H:Hp) (s:Shared) (e:Value) (b:Shared),Inv X a c H s->CX X.stack H s E e b->X.xe e b
section
variable{X:Cx}{CX:B9}{k:Nat}{f C:Addr}{fd:FuncData}{ps:List Str}{sp:Sp}{dvs:List V}{ds:List Value}{E:XK}{x m:Str}{p pos apos:Pos}{e o:Expr}{es:List Expr}{ta:TE}{t:TA}
def C0{a:List (Addr×Obj)}{d:St}{H:Hp}{s:Shared}{Q:VK}{b:List Value}{vs:List V}(F:bC X.prog X.w X.K X.mg X.base CX k f fd ps sp)(v:eG k X.A)(q:Binds X.K fd ps ds)(hd:bD dvs ds)(l:zx CX X E)
  (I:Inv X a d H s) (r:bD vs b) (h:sp (vs++dvs) H Q E):wpAny (model X.prog X.w) X.A (call (.ref f) b) (EP X a d Q) X.xe s:=by
 have g:bD (vs++dvs) (b++ds):=r.append hd
 have i:(b++ds).length=ps.length:=by rw[←g.length];exact F.len _ _ _ _ h
 refine wpAny_call (codeAny_mono (F.run X.A X.stack s H ⟨b,[]⟩ (b++ds) (vs++dvs) Q E v I.env0 (q s b I.kIn i) g h) λr j c=> ?_)
 cases r with
 |error e=>exact l a d H s e j I c
 | ok n=>
   cases n with
   |ret u=>exact I.after c
   |next=>exact False.elim c
   |brk=>exact False.elim c
   |cont=>exact False.elim c
def zR(F:bC X.prog X.w X.K X.mg X.base CX k f fd ps sp)(l:eG k X.A)(g:Gl X x)(v:X.mg x=some (.ref f))(u:PySem.W.keepIn X.K (.ref f)=true)(j:Binds X.K fd ps ds)(hd:bD dvs ds)(i:zx CX X E)
  (n:PA X (e::es) t) (b:(x==("__debug__":Str))=false:=by decide) (he:starEach (e::es) X.env=(false,eval e X.env)::starEach es X.env:=by rfl) (hpl:(backTo pos (starEach es X.env)).any (·.1)=false:=by rfl):
  PE X (.Call (.Name x p) (e::es) [] pos) (C7 sp dvs E t):=by
 intro a s d H Q I h
 refine wpAny_Call_Name_kw (u9 I g v ?_ b)
 refine PySem.W.callWith_K (h₀:=X.base) I.ok.mod.kin u (cP (n pos a s d H _ I h) λz y ⟨B,H1,c,r,q⟩=>⟨c.kIn,?_⟩) he hpl
 exact C0 F l j hd i c r q
end
structure aL(N P:List Str)(sc:Scope):Prop where
 kind:sc.kind=.function
 co:sc.isCoroutine=false
 gen:sc.isGenerator=false
 nd:N.Nodup
 pre:N.take P.length=P
 par:∀x∈P,sc.names.lookup x=some .local\/sc.names.lookup x=some .cell
 nofree:∀y∈sc.names,y.2≠.free
theorem tK{b:Str->Option NameKind}{x:Str}:∀{a:List (Str×Value)} {m:Str->Option Value},(∀v,(x,v)∉a)->bindL b a m x=m x
 | [],_,_=>rfl
 | (n,v)::r,m,h=>by
   unfold bindL
   rw[tK λw c=>h w (Qpq _ c)]
   split
   · have:x≠n:=by rintro rfl;exact h v QBq
     simp[this]
   · rfl
theorem tm{b:Str->Option NameKind}{x:Str}:∀{a:List (Str×Value)} {m:Str->Option Value},(∀v,(x,v)∉a)->bindC b a m x=m x
 | [],_,_=>rfl
 | (n,v)::r,m,h=>by
   unfold bindC
   rw[tm λw c=>h w (Qpq _ c)]
   split
   · rfl
   · have:x≠n:=by rintro rfl;exact h v QBq
     simp[this]
theorem tV{a:Str->Option NameKind}{x:Str}{v:Value}:∀{P:List Str} {vs:List Value} {i:Nat} {m:Str->Option Value},P.Nodup->P[i]?=some x->vs[i]?=some v->a x=some .local→
  bindL a (P.zip vs) m x=some v
 | [],_,_,_,_,h,_,_=>by simp at h
 |_::_,[],_,_,_,_,h,_=>by simp at h
 | p::P,w::vs,0,m,nd,h1,h2,hk=>by
   simp at h1 h2;subst h1;subst h2
   show bindL a ((p,w)::P.zip vs) m p=_
   unfold bindL
   rw[tK λv b=>(List.nodup_cons.mp nd).1 (QeQ b).1,Qhq hk]
   simp
 | p::P,w::vs,i+1,m,nd,h1,h2,hk=>by
   show bindL a ((p,w)::P.zip vs) m x=_
   unfold bindL
   exact tV (i:=i) (List.nodup_cons.mp nd).2 (by simpa using h1) (by simpa using h2) hk
theorem sW{a:Str->Option NameKind}{x:Str}{v:Value}:∀{P:List Str} {vs:List Value} {i:Nat} {m:Str->Option Value},P.Nodup->P[i]?=some x->vs[i]?=some v->a x≠some .local→
  bindC a (P.zip vs) m x=some v
 | [],_,_,_,_,h,_,_=>by simp at h
 |_::_,[],_,_,_,_,h,_=>by simp at h
 | p::P,w::vs,0,m,nd,h1,h2,hk=>by
   simp at h1 h2;subst h1;subst h2
   show bindC a ((p,w)::P.zip vs) m p=_
   unfold bindC
   rw[tm λv b=>(List.nodup_cons.mp nd).1 (QeQ b).1,Quq hk]
   simp
 | p::P,w::vs,i+1,m,nd,h1,h2,hk=>by
   show bindC a ((p,w)::P.zip vs) m x=_
   unfold bindC
   exact sW (i:=i) (List.nodup_cons.mp nd).2 (by simpa using h1) (by simpa using h2) hk
def start(N:List Str)(vs:List V):St:=vs.map some++List.replicate (N.length-vs.length) none
def wy(CX:B9)(P:Program)(w:World)(K:PySem.W.Frag)(mg:Str->Option Value)(base:Heap)(N:List Str)(b:Str)(a:Scope)(f:Addr)(d:Value)(A:Around)(outer:List Env)(s:Shared)(H:Hp)(E:XK):Cx where
 prog:=P
 w:=w
 K:=K
 mg:=mg
 base:=base
 A:=A.deeper (envOfC b a s.heap.objs.size f d)
 N:=N
 s₀:=s
 H₀:=H
 env:=envOfC b a s.heap.objs.size f d
 outer:=outer
 stack:=envOfC b a s.heap.objs.size f d::outer
 ex:= []
 calm:=true
 fn:=λ_=>true
 pn:= []
 xe:=λe g=>wpAny (model P w) (A.deeper (envOfC b a s.heap.objs.size f d)) (leaving (envOfC b a s.heap.objs.size f d) e) (λ_ c=>CX outer H s E e c) (λh c=>CX outer H s E h c) g
def xq{a:Scope}{n:Nat}{x:Str}(h:a.names.lookup x=some .cell):∃c,(cellsFrom n a.names []).lookup x=some c:=by
 have q:=PySem.W.cellsFrom_some a.names n [] (.inl h)
 exact Option.isSome_iff_exists.mp q
def A6{CX:B9}{P:Program}{w:World}{K:PySem.W.Frag}{mg:Str->Option Value}{base:Heap}{N ps:List Str}{g:Str}{d:Scope}{f:Addr}{C:Value}{A:Around}{outer:List Env}{s J:Shared}{H:Hp}{E:XK}{I:List Value}{vs:List V}
  (S:aL N ps d) (hd:A.handled=none) (l:EA P w K mg base A outer s H) (U:vs.length=ps.length) (r:bD vs I)
  (x:InCallC s s.heap.objs.size (bindL (envOfC g d s.heap.objs.size f C).kindOf (ps.zip I) λ_=>none) (cellsFrom (s.heap.objs.size+1) d.names []) (bindC (envOfC g d s.heap.objs.size f C).kindOf (ps.zip I) λ_=>none) J):
  Inv (wy CX P w K mg base N g d f C A outer s H E) [] (start N vs) H J:=by
 have M:ps.length<=N.length:=by have:=congrArg List.length S.pre;rw[Qxq] at this;omega
 obtain⟨G,Y,rfl,hk⟩:=x.done
 have m:∀b:Addr,b∉(wy CX P w K mg base N g d f C A outer s H E).ex:=λb z=>absurd (show b∈([]:List Addr) from z) (by simp)
 refine⟨⟨l.mod,S.kind,rfl,rfl,Qmq _,λy z c G j=> ?_,λy o=> ?_,λy c _ h=> ?_,λ_=>hd,Around.frames_deeper l.frames,.inr ⟨rfl,rfl⟩,λb z=>absurd z (m b),l.bs,l.bsz,λb _ _=>m b,λb z=>absurd z (m b),l.funs,l.frf⟩,
  rfl,l.bare,Un.kept hk,⟨_,x.toInCall.ns,λi y v G j X=> ?_⟩,λy c h=>⟨_,x.cell y c h⟩,l.hok.fresh (Qmq _),λy c h=> ?_,λp t=>absurd (show p∈([]:List (Addr×Obj)) from t) (by simp),l.hok.kept hk,?_⟩
 ·exact name_of_addr x.apart (PySem.mem_of_lookup G) (PySem.mem_of_lookup j)
 ·have o:d.names.lookup y=some .cell\/d.names.lookup y=some .free:=o
  rcases o with o|o
  ·exact xq o
  ·exact absurd rfl (S.nofree _ (PySem.mem_of_lookup o))
 ·exact nQl (x.above y c (PySem.mem_of_lookup h))
 ·have F:i<vs.length:=by
   unfold start at j
   by_cases F:i<vs.length
   ·exact F
   ·rw[QQq (by simpa using F)] at j
    rw[List.getElem?_replicate] at j
    split at j <;>cases j
  have R:vs[i]?=some v:=by
   unfold start at j
   rw[QHq (by simpa using F),gQm] at j
   cases e:vs[i]? with
   |none=>rw[e] at j;cases j
   |some a=>rw[e] at j;cases j;rfl
  obtain⟨u,L,Q⟩:=r.get R
  have t:ps[i]?=some y:=by
   rw[←S.pre,List.getElem?_take_of_lt (by omega)];exact G
  have B:ps.Nodup:=by rw[←S.pre];exact S.nd.sublist (List.take_sublist _ _)
  refine⟨u,Q,?_⟩
  rcases S.par y (mQg t) with k|k
  ·exact .inl ⟨k,tV B t L k⟩
  ·obtain⟨c,e⟩:=xq (n:=s.heap.objs.size+1) k
   refine .inr ⟨.inl k,c,e,?_⟩
   have q:=x.cell y c e
   rw[sW B t L (by show d.names.lookup y≠_;rw[k];decide)] at q
   exact q
 ·exact l.hok.fresh (nQl (x.above y c (PySem.mem_of_lookup h)))
 ·unfold start
  show _=N.length
  rw[lQa,lQm,QIq]
  omega
def JF{CX:B9}{P:Program}{w:World}{K:PySem.W.Frag}{mg:Str->Option Value}{base:Heap}{k:Nat}{f:Addr}{name c:Str}{g:Arguments}{h:List Stmt}{a:Scope}{dV kV z pm d ct oc:Value}{an od:Option Addr}
  {M:Array (Option Value)} {N ps:List Str} {sp:Sp} (lk:K.lookup f=some ⟨oc,od,.func (PySem.W.fnOf name c g h a dV kV z pm an d ct),M⟩) (U:PySem.W.codeIn K d c=true) (S:aL N ps a)
  (len:∀vs H Q E,sp vs H Q E->vs.length=ps.length)
  (l:∀(A:Around) (outer:List Env) (s:Shared) (H:Hp) (vs:List V) (Q:VK) (E:XK),eG k (A.deeper (envOfC c a s.heap.objs.size f d))->sp vs H Q E→
   ∃t,pO (wy CX P w K mg base N c a f d A outer s H E) h t/\t {nx:=λ_ j=>Q .non j,rt:=Q} (start N vs) H):
  bC P w K mg base CX (k+1) f (PySem.W.fnOf name c g h a dV kV z pm an d ct) ps sp:=by
 refine⟨len,λA outer s H a0 us vs Q E R C hb r F=> ?_⟩
 have hl:=len _ _ _ _ F
 have Z:K.In s.heap:=C.mod.kin.keeps λb o e=>(C.bs b o e).1
 have X:s.heap.NoLimit:=C.mod.nolimit.keeps λb o e=>(C.bs b o e).1
 have m:∀y∈ps.zip us,a.names.lookup y.1=some .local\/(a.names.lookup y.1=some .cell/\((cellsFrom (s.heap.objs.size+1) a.names []).lookup y.1).isSome=true):=λ⟨n,v⟩ hy=>by
  rcases S.par n (QeQ hy).1 with q|q
  ·exact .inl q
  ·exact .inr ⟨q,PySem.W.cellsFrom_some _ _ _ (.inl q)⟩
 refine codeAny_call_function R.depth (Z _ _ lk) rfl S.co S.gen rfl (PySem.W.codeRec_of Z U) (hb _ _ _ _ ?_)
 refine wpAny_newFunctionEnv_cells S.kind m λa1 he Y x=> ?_
 subst he
 refine⟨X.keeps x.toInCall.keep,codeAny_func ?_⟩
 obtain⟨t,ht,hq⟩:=l A outer s H vs Q E (R.deeper _) F
 have I:Inv (wy CX P w K mg base N c a f d A outer s H E) [] (start N vs) H Y:=A6 S R.hd C hl r x
 refine QRq (ht [] Y (start N vs) H _ I hq) (λfl L p=> ?_) λe L p=>p
 have B:∀{i:St} {j:Hp} {v:V} {u:Value},Inv (wy CX P w K mg base N c a f d A outer s H E) [] i j L->RelV v u->Q v j->CE outer P w H s Q u L:=
  λ{i j v u} J G q=>⟨v,j,J.os,J.bare,J.base,J.hok,G,q⟩
 cases fl with
 | ret u=>
   obtain⟨v,i,j,J,G,q⟩:=p
   exact B J G q
 | next=>
   obtain⟨i,j,J,q⟩:=p
   exact B (v:=V.non) (u:=Value.none) J rfl q
 | brk=>
   obtain⟨_,_,_,q⟩:=p
   exact False.elim q
 | cont=>
   obtain⟨_,_,_,q⟩:=p
   exact False.elim q
section
variable{X:Cx}{x:Str}{p pos:Pos}{e:Expr}{es:List Expr}{t:TA}{id T:String}{r:List V->Hp->VK->Prop}
def Kj(r:List V->Hp->VK->Prop)(t:TA):TE:=λb H Q=>t b H λa H1=>r a H1 Q
def d_(f:gL X (.builtin id) r)(m:Gl X x)(u:X.mg x=none)(l:bootBuiltins x=some (.builtin id))(n:PA X (e::es) t)(j:x≠"__name__":=by decide)(b:(x==("__debug__":Str))=false:=by decide)
  (he:starEach (e::es) X.env=(false,eval e X.env)::starEach es X.env:=by rfl) (hpl:(backTo pos (starEach es X.env)).any (·.1)=false:=by rfl):PE X (.Call (.Name x p) (e::es) [] pos) (Kj r t):=by
 intro a s c H Q I h
 refine wpAny_Call_Name_kw (j8 I m u l ?_ j b)
 exact PyProof.Rows.callWith_builtin1 (cP (n pos a s c H _ I h) λg d ⟨i,H1,k,o,q⟩=>f a d c H1 i g Q k o q) he hpl
def i0(f:gL X (.type T) r)(m:Gl X x)(u:X.mg x=none)(l:bootBuiltins x=some (.type T))(n:PA X (e::es) t)(j:x≠"__name__":=by decide)(b:(x==("__debug__":Str))=false:=by decide)
  (he:starEach (e::es) X.env=(false,eval e X.env)::starEach es X.env:=by rfl) (hpl:(backTo pos (starEach es X.env)).any (·.1)=false:=by rfl):PE X (.Call (.Name x p) (e::es) [] pos) (Kj r t):=by
 intro a s c H Q I h
 refine wpAny_Call_Name_kw (j8 I m u l ?_ j b)
 exact PyProof.Rows.callWith_type1 (cP (n pos a s c H _ I h) λg d ⟨i,H1,k,o,q⟩=>f a d c H1 i g Q k o q) he hpl
end
section
variable{κ:Type}[DecidableEq κ]
def oa(kvs:List (κ×V))(k:κ):Option V:=(kvs.find? λa=>decide (a.1=k)).map (·.2)
def putK(kvs:List (κ×V))(k:κ)(v:V):List (κ×V):=
 if (kvs.any λa=>decide (a.1=k))=true then kvs.map (λa=>if a.1=k then(a.1,v) else a) else kvs++ [(k,v)]
def rG{p:κ×V}{r:List (κ×V)}{k:κ}(e:p.1=k):oa (p::r) k=some p.2:=by simp[oa,List.find?_cons,e]
def qL{p:κ×V}{r:List (κ×V)}{k:κ}(e:¬p.1=k):oa (p::r) k=oa r k:=by simp[oa,List.find?_cons,e]
theorem x_(k:κ):∀kvs:List (κ×V),(kvs.any λkv=>decide (kv.1=k))=(oa kvs k).isSome
 | []=>rfl
 | p::r=>by
   rw[List.any_cons]
   by_cases e:p.1=k
   · simp only[rG e,Qeq e,Bool.true_or,Option.isSome_some]
   · rw[qL e,Qdq e,Bool.false_or];exact x_ k r
def iu(kvs:List (κ×V))(k:κ)(v:V):(putK kvs k v).length<=kvs.length+1:=by
 unfold putK
 split
 ·rw[lQm];omega
 ·rw[lQa,Qnq,QGq];omega
def qy.isSome_eq{o:Option V}{u:Option Value}(r:qy o u):o.isSome=u.isSome:=by
 cases o with
 | none=>cases u with
   |none=>rfl
   |some _=>exact(show False from r).elim
 | some _=>cases u with
   |none=>exact(show False from r).elim
   |some _=>rfl
def KV.val{kvs:List (κ×V)}{vs:List (κ×Value)}(r:KV kvs vs)(k:κ):qy (oa kvs k) (valueAt vs k):=by
 unfold KV at r
 induction r with
 |nil=>exact True.intro
 | @cons p q ps qs h t ih=>
   obtain⟨c,d⟩:=h
   by_cases e:p.1=k
   · have a:q.1=k:=c.symm.trans e
     have b:valueAt (q::qs) k=some q.2:=by simp[valueAt,List.find?_cons,a]
     rw[rG e,b];exact d
   · have a:¬q.1=k:=λz=>e (c.trans z)
     have b:valueAt (q::qs) k=valueAt qs k:=by simp[valueAt,List.find?_cons,a]
     rw[qL e,b];exact ih
theorem KV.any{kvs:List (κ×V)}{vs:List (κ×Value)}(r:KV kvs vs)(k:κ):(kvs.any λkv=>decide (kv.1=k))=vs.any λkv=>decide (kv.1=k):=by
 unfold KV at r
 induction r with
 |nil=>rfl
 |cons h t a=>rw[List.any_cons,List.any_cons,a,h.1]
def KV.repl{kvs:List (κ×V)}{vs:List (κ×Value)}(r:KV kvs vs)(k:κ){y:V}{u:Value}(b:RelV y u):
  KV (kvs.map λkv=>if kv.1=k then(kv.1,y) else kv) (vs.map λkv=>if kv.1=k then(kv.1,u) else kv):=by
 unfold KV at r⊢
 induction r with
 |nil=>exact .nil
 | @cons p q ps qs h t ih=>
   rw[QDq,QDq]
   refine .cons ?_ ih
   obtain⟨a,c⟩:=h
   by_cases e:p.1=k
   · rw[Qhq e,Qhq (a.symm.trans e)];exact⟨a,b⟩
   · rw[Quq e,Quq (λz=>e (a.trans z))];exact⟨a,c⟩
def KV.put{kvs:List (κ×V)}{vs:List (κ×Value)}(r:KV kvs vs)(k:κ){y:V}{u:Value}(a:RelV y u):KV (putK kvs k y) (stored vs k u):=by
 unfold putK stored
 rw[r.any k]
 by_cases e:(vs.any λb=>decide (b.1=k))=true
 ·rw[Qhq e,Qhq e];exact r.repl k a
 ·rw[Quq e,Quq e];exact Paired.snoc r ⟨rfl,a⟩
def KV.length{kvs:List (κ×V)}{vs:List (κ×Value)}(r:KV kvs vs):kvs.length=vs.length:=Paired.length r
end
def vW{P:Program}{w:World}{k:Key}{u:Value}(r:RelV (kV k) u):(bN P w).is k u=true:=by
 cases k with
 |inl i=>obtain⟨t,e⟩:=(show∃t,u=Value.int i t from r);subst e;exact yc P w i t
 |inr x=>obtain⟨t,e⟩:=(show∃t,u=Value.str x t from r);subst e;exact xG P w x t
theorem uq{P:Program}{w:World}:∀{a:List Key} {b:List Value},bD (a.map kV) b->ItemsAre (bN P w) a b
 | [],_,r=>by rw[List.map_nil] at r;cases r;exact .nil
 | k::a,_,r=>by
   rw[QDq] at r
   cases r with
   |cons h t=>exact .cons (vW h) (uq t)
abbrev KT(H:Hp):List (List Key×V)->List (List Key×Addr×Value)->Prop:=Paired λp q=>p.1=q.1/\H q.2.1=some (.tup (p.1.map kV))/\RelV p.2 q.2.2
def KT.val{H:Hp}{kvs:List (List Key×V)}{xs:List (List Key×Addr×Value)}(r:KT H kvs xs)(k:List Key):qy (oa kvs k) ((atKey xs k).map (·.2)):=by
 induction r with
 |nil=>exact True.intro
 | @cons p q ps qs h t ih=>
   obtain⟨c,_,d⟩:=h
   by_cases e:p.1=k
   · have a:q.1=k:=c.symm.trans e
     have b:atKey (q::qs) k=some q.2:=by simp[atKey,List.find?_cons,a]
     rw[rG e,b];exact d
   · have a:¬q.1=k:=λz=>e (c.trans z)
     have b:atKey (q::qs) k=atKey qs k:=by simp[atKey,List.find?_cons,a]
     rw[qL e,b];exact ih
def KT.repl{H:Hp}{kvs:List (List Key×V)}{xs:List (List Key×Addr×Value)}(r:KT H kvs xs)(k:List Key){y:V}{u:Value}(c:RelV y u):
  KT H (kvs.map λkv=>if kv.1=k then(kv.1,y) else kv) (xs.map (putAt k u)):=by
 induction r with
 |nil=>exact .nil
 | @cons p q ps qs h t ih=>
   rw[QDq,QDq]
   refine .cons ?_ ih
   obtain⟨a,b,d⟩:=h
   unfold putAt
   by_cases e:p.1=k
   · rw[Qhq e,Qhq (a.symm.trans e)];exact⟨a,b,c⟩
   · rw[Quq e,Quq (λz=>e (a.trans z))];exact⟨a,b,d⟩
def KT.put{H:Hp}{kvs:List (List Key×V)}{xs:List (List Key×Addr×Value)}(r:KT H kvs xs)(k:List Key){b:Addr}{y:V}{u:Value}(c:H b=some (.tup (k.map kV)))(a:RelV y u):
  KT H (putK kvs k y) (storedH xs k b u):=by
 have e:(kvs.any λd=>decide (d.1=k))=(atKey xs k).isSome:=by
  rw[x_,(r.val k).isSome_eq,Option.isSome_map]
 unfold putK storedH
 rw[e]
 by_cases q:(atKey xs k).isSome=true
 ·rw[Qhq q,Qhq q];exact r.repl k a
 ·rw[Quq q,Quq q];exact Paired.snoc r ⟨rfl,c,a⟩
def KT.keeps{H a:Hp}{kvs:List (List Key×V)}{xs:List (List Key×Addr×Value)}(r:KT H kvs xs)(ht:∀b ys,H b=some (.tup ys)->a b=some (.tup ys)):KT a kvs xs:=
 Paired.mapP r λ_ _ z=>⟨z.1,ht _ _ z.2.1,z.2.2⟩
section
variable{P:Program}{w:World}{H:Hp}{h:Heap}{a:Addr}
def Gm{u:HO}(ok:me P w H h)(e:Rd H a u):cY P w H h a u:=e.ok ok
def D1{kvs:List (Key×V)}(ok:me P w H h)(e:Rd H a (.dK kvs)):kvs.length<=sizeLine/\(a==sysModules)=false/\∃vs,KV kvs vs/\h.DictOf (bN P w) a vs:=
 show cY P w H h a (.dK kvs) from Gm ok e
def xt{kvs:List (Key×V)}(ok:me P w H h)(e:H a=some (.dK kvs)):kvs.length<=sizeLine/\(a==sysModules)=false/\∃vs,KV kvs vs/\h.DictOf (bN P w) a vs:=D1 ok (.inl e)
def yK{c:List Key}(ok:me P w H h)(e:H a=some (.tup (c.map kV))):(tupleKind (bN P w)).is h c a:=by
 obtain⟨_,b,r,o,d,g,_,n,f⟩:=(show cY P w H h a (.tup (c.map kV)) from ok a _ e)
 exact⟨o,b.toArray,n,d,g,f,by simpa using uq r⟩
def DU{kvs:List (List Key×V)}(ok:me P w H h)(e:Rd H a (.dT kvs)):kvs.length<=sizeLine/\(a==sysModules)=false∧
  ∃xs,KT H kvs xs/\h.DictOfH (tupleKind (bN P w)) a xs:=by
 obtain⟨z,y,xs,r,o,d,j,i,f,n,k,g⟩:=(show cY P w H h a (.dT kvs) from Gm ok e)
 refine⟨z,y,xs,r,o,d,j,i,f,n,k,λx b=> ?_,g⟩
 have c:∀{l:List (List Key×V)} {m:List (List Key×Addr×Value)},KT H l m->∀x∈m,(tupleKind (bN P w)).is h x.1 x.2.1:=by
  intro l m q
  induction q with
  |nil=>intro x b;exact nomatch b
  | @cons p q ps qs hq t ih=>
    intro x b
    rcases Qsq.mp b with e|b
    · subst e
      exact yK ok (by rw[←hq.1];exact hq.2.1)
    · exact ih x b
 exact c r x b
def JT{kvs:List (List Key×V)}(ok:me P w H h)(e:H a=some (.dT kvs)):kvs.length<=sizeLine/\(a==sysModules)=false∧
  ∃xs,KT H kvs xs/\h.DictOfH (tupleKind (bN P w)) a xs:=DU ok (.inl e)
end
def Bu(H:Hp)(a:Addr)(y:V)(r:Option V):Prop:=
 (∃c k,Rd H a (.dK c)/\y=kV k/\r=oa c k)\/∃c k b,Rd H a (.dT c)/\y=.ref b/\H b=some (.tup (k.map kV))/\r=oa c k
def Eh(H:Hp)(a:Addr)(y v:V)(d:Hp):Prop:=
 (∃c k,H a=some (.dK c)/\y=kV k/\c.length<sizeLine/\d=upd H a (.dK (putK c k v)))∨
 ∃c k b,H a=some (.dT c)/\y=.ref b/\H b=some (.tup (k.map kV))/\c.length<sizeLine/\d=upd H a (.dT (putK c k v))
def Bu.k{H:Hp}{a:Addr}{kvs:List (Key×V)}{k:Key}(e:H a=some (.dK kvs)):Bu H a (kV k) (oa kvs k):=.inl ⟨kvs,k,.inl e,rfl,rfl⟩
def Eh.k{H:Hp}{a:Addr}{kvs:List (Key×V)}{k:Key}{v:V}(e:H a=some (.dK kvs))(b:kvs.length<sizeLine):Eh H a (kV k) v (upd H a (.dK (putK kvs k v))):=.inl ⟨kvs,k,e,rfl,b,rfl⟩
section
variable{X:Cx}{pins:List (Addr×Obj)}{σ:St}{H:Hp}{s:Shared}{a:Addr}{y v:V}{u r:Value}{o:Option V}{A:Around}{E:Value->Shared->Prop}
def Inv.big(I:Inv X pins σ H s):sysModules<s.heap.objs.size:=by
 have h:mainGlobals<s.heap.objs.size:=(I.mod.glob.keeps I.bk).lt
 exact Nat.lt_trans (by decide) h
def BC{Q:Value->Shared->Prop}(G:A.units+1<cLine)(I:Inv X pins σ H s)(g:Bu H a y (some v))(t:RelV y u)(h:∀f s',Inv X pins σ H s'->RelV v f->Q f s'):
  wpAny (model X.prog X.w) A (getItem (.ref a) u) Q E s:=by
 rcases g with⟨j,k,e,n,l⟩|⟨j,k,b,e,n,F,l⟩
 ·subst n
  obtain⟨z,J,B,d,m⟩:=D1 I.hok e
  obtain⟨f,q,c⟩:=qy.some_of (v:=v) (o:=valueAt B k) (by rw[l];exact d.val k)
  exact wpAny_getItem_of (vW t) m.mapOf q (h f _ (I.tok _) c)
 ·subst n
  cases (show u=Value.ref b from t)
  obtain⟨z,J,C,d,m⟩:=DU I.hok e
  obtain⟨f,q,c⟩:=qy.some_of (v:=v) (o:=(atKey C k).map (·.2)) (by rw[l];exact d.val k)
  obtain⟨p,x,i⟩:=oQm.mp q
  refine wpAny_getItem_heap (tupleKind_room_in1 G) (yK I.hok F) m x ?_
  rw[i]
  exact h f _ (I.tok _) c
def pR{h':Heap}{t':Nat}{c:HO}(I:Inv X pins σ H s)(g:J3 (H a))(f:Heap.SameBut a s.heap h')(he:∃q,h'.get? a=some q)(new:cY X.prog X.w (upd H a c) h' a c):
  Inv X pins σ (upd H a c) {s with heap:=h',toks:=t'}:=
 I.write (x:=a) (e:=a) g (.inl rfl) (λb q d z=>(f.2 b d).trans z) he new
def rC{P:Program}{w:World}{c:Hp}{h':Heap}{kvs:List (Key×V)}{vs:List (Key×Value)}(z:kvs.length<=sizeLine)(hd:(a==sysModules)=false)(b:KV kvs vs)(d:h'.DictOf (bN P w) a vs):
  cY P w c h' a (.dK kvs):=⟨z,hd,vs,b,d⟩
def Bc{F:Hp}{Q:Unit->Shared->Prop}(U:A.units+1<cLine)(I:Inv X pins σ H s)(g:Eh H a y v F)(L:RelV y u)(K:RelV v r)(h:∀s',Inv X pins σ F s'->Q () s'):
  wpAny (model X.prog X.w) A (setItem (.ref a) u r) Q E s:=by
 rcases g with⟨d,k,e,n,l,x⟩|⟨d,k,b,e,n,G,l,x⟩
 ·subst n x
  obtain⟨z,B,N,f,m⟩:=xt I.hok e
  have t:N.length<=sizeLine:=by rw[←f.length];exact z
  have p:(putK d k v).length<=sizeLine:=by have:=iu d k v;omega
  refine wpAny_setItem_pairs (hsz:=t) (vW L) m λJ i C=>h _ ?_
  have he:∃q,J.get? a=some q:=let ⟨q,_,_,j,_⟩:=i;⟨q,j⟩
  exact pR I (by rw[e];exact True.intro) C he (rC p B (f.put k K) i)
 ·subst n x
  cases (show u=Value.ref b from L)
  obtain⟨z,B,P,f,m⟩:=JT I.hok e
  have t:P.length<=sizeLine:=by rw[←Paired.length f];exact z
  have p:(putK d k v).length<=sizeLine:=by have:=iu d k v;omega
  refine wpAny_setItem_heap (hsz:=t) (tupleKind_room_in1 U) (yK I.hok G) m λJ i C=>h _ ?_
  obtain⟨q,R,Y,j,S,h3,Z,_,W⟩:=i
  refine pR I (by rw[e];exact True.intro) C ⟨q,j⟩ ⟨p,B,_,(f.put k G K).keeps λc ys M=> ?_,q,R,Y,j,S,h3,Z,W⟩
  rw[bj (D8 M e (λz=>nomatch z))]
  exact M
end
def Fc(i:Expr):Prop:=∀a b,subscripted i false a b=operate [a,b] (getItem a b)
def zW{prog:Program}{w:World}{A:Around}{E:Value->Shared->Prop}{s:Shared}{env:Env}{b a:Expr}{pos:Pos}{T id:String}{Q:Value->Shared->Prop}
  (m:typeLookup (.type T) "__getitem__"=pure (some (.builtin id))) (n:Fc a)
  (h:wpAny (model prog w) A (eval b env) (λo e=>wpAny (model prog w) A (eval a env) (λi c=>c.TypeIs o T/\wpAny (model prog w) A (getItem o i) Q E c) E e) E s):
  wpAny (model prog w) A (eval (.Subscript b a pos) env) Q E s:=by
 refine Subscript_ (QRq h (λo e j=>QRq j (λi c d=> ?_) λ_ _ x=>x) λ_ _ x=>x)
 obtain⟨l,d⟩:=d
 unfold subscriptTail
 refine Qaq ?_
 rw[getitemInPython_of_ne l.not_modules]
 refine Qaq (wpAny_specialOf l m ?_)
 have g:wpAny (model prog w) A (subscripted a false o i) (λr f=>wpAny (model prog w) A (letTemporaryGo b o r >>= λ_=>pure r) Q E f) E c:=by
  rw[n o i]
  exact wpAny_operating (QRq d (λr f k=>Qaq (wpAny_letTemporaryGo (Qgq k))) λ_ _ x=>x)
 first
  |exact Qgq (Qaq g)
  |exact Qaq (Qgq (Qaq g))
  |exact Qaq g
def xh{X:Cx}{c:List (Addr×Obj)}{h:St}{H:Hp}{s:Shared}{a:Addr}{y:V}{o:Option V}(I:Inv X c h H s)(g:Bu H a y o):s.TypeIs (.ref a) "dict":=by
 rcases g with⟨f,k,e,_,_⟩|⟨f,k,b,e,_,_,_⟩
 ·obtain⟨_,_,i,_,d⟩:=D1 I.hok e
  exact d.typeIs
 ·obtain⟨_,_,j,_,d⟩:=DU I.hok e
  exact d.typeIs
def Jd(d c:TE):TE:=λb H Q=>d b H λx H1=>c b H1 λy H2=>∃a v,x=.ref a/\Bu H2 a y (some v)/\Q v H2
def Jx(d c e:TE):TS:=λD b H=>e b H λv H1=>d b H1 λx H2=>c b H2 λy H3=>∃a H4,x=.ref a/\Eh H3 a y v H4/\D.nx b H4
section
variable{X:Cx}{o i e value:Expr}{pos pos' tpos:Pos}{td ty tv:TE}
def FY(n:X.A.units+1<cLine)(q:PE X o td)(hi:PE X i ty)(B:Fc i):PE X (.Subscript o i pos) (Jd td ty):=by
 intro b s d H Q I h
 refine zW PySem.F.slot_dict_getitem.lookup B (cP (q b s d H _ I h) λu j ⟨x,H1,k,w,r⟩=>cP (hi b j d H1 _ k r) λC J z=> ?_)
 obtain⟨y,H2,f,p,a,v,t,g,m⟩:=z
 subst t
 obtain rfl:u=Value.ref a:=w
 exact⟨xh f g,BC n f g p λK G l c=>⟨v,H2,l,c,m⟩⟩
def EJ(p:X.A.units+1<cLine)(B:PE X o td)(hi:PE X i ty)(l:PE X value tv)(J:swapsWith value (some (.Subscript o i pos')) pos.line X.env=pure false):
  PS X (.Assign [.Subscript o i pos'] value pos) (Jx td ty tv):=by
 intro b s c H D I h
 refine wpAny_Assign_Subscript (cP (l b s c H _ I h) λr d ⟨v,H1,f,q,C⟩=>cP (B b d c H1 _ f C) λu z ⟨x,H2,w,G,k⟩=>cP (hi b z c H2 _ w k) λK M ⟨y,H3,j,t,a,H4,F,g,m⟩=> ?_) J
 subst F
 obtain rfl:u=Value.ref a:=G
 exact Bc p j g t q λL n=>⟨c,H4,n,m⟩
end
def Cn{P:Program}{w:World}{H:Hp}(h:Heap)(a:sysModules<h.objs.size):cY P w H (h.push {cls:=.type "dict",data:=.dict #[]}) h.objs.size (.dK []):=
 ⟨Nat.zero_le _,beq_eq_false_iff_ne.mpr (Ne.symm (Qwq a)),[],.nil,Heap.DictOf.new h⟩
def Hf:TE:=λ_ H Q=>∀p,H p=none->Q (.ref p) (upd H p (.dK []))
section
variable{X:Cx}{pos:Pos}
def D4:PE X (.Dict [] [] pos) Hf:=λb s c H Q I h=>
 wpAny_Dict_empty ⟨.ref s.heap.objs.size,_,I.laid (a:=s.heap.objs.size) (o:=.dK []) (t':=s.toks) (λ_ _ q=>Qcq _ q) (Qmq _) (Cn s.heap I.big),rfl,h _ (I.hok.fresh (Qmq _))⟩
end
def jF(kvs more:List (Key×V)):List (Key×V):=more.foldl (λa b=>putK a b.1 b.2) kvs
def KV.merge:∀{more:List (Key×V)} {a:List (Key×Value)} {kvs:List (Key×V)} {vs:List (Key×Value)},KV more a->KV kvs vs->KV (jF kvs more) (merged vs a):=by
 intro more a kvs vs r
 unfold KV at r
 induction r generalizing kvs vs with
 |nil=>intro q;exact q
 | @cons p q ps qs h t ih=>
   intro r0
   have e:KV (putK kvs p.1 p.2) (stored vs q.1 q.2):=by
     have:=r0.put p.1 h.2
     rw[←h.1];exact this
   exact ih e
theorem iH:∀(more kvs:List (Key×V)),(jF kvs more).length<=kvs.length+more.length
 | [],kvs=>by show kvs.length<=kvs.length+0;omega
 | p::r,kvs=>by
   have a:=iH r (putK kvs p.1 p.2)
   have b:=iu kvs p.1 p.2
   show(jF (putK kvs p.1 p.2) r).length<=_
   rw[Qnq];omega
end L2
namespace HT
open PySem PyProof.Rows
section
open PySem.SeqAt
open PySem.AutoSeq1 (wpAny_loadPart')
open PySem.MeetsSeq PySem.MeetsSeq2 PySem.MeetsSeq3
end
section
variable{prog:Program}{w:World}{A:Around}{E:Value->Shared->Prop}{s:Shared}
def EG{t b:Addr}{vs ws:List Value}{Q:Value->Shared->Prop}(ht:IsTup s.heap t vs.toArray)(v:IsTup s.heap b ws.toArray)(o:vs≠[])
  (x:ws= []->Q (.ref t) s) (u:ws≠[]->Q (.ref s.heap.objs.size) {s with heap:=s.heap.push {cls:=.type "tuple",data:=.seq (vs++ws).toArray}})
  (hsz:vs.length+ws.length<=sizeLine):wpAny (model prog w) A (binaryOp .Add (.ref t) (.ref b)) Q E s:=by
 obtain⟨⟨cls,l,data,q⟩,i,k,n,p⟩:=id ht
 obtain⟨⟨m,f,j,g⟩,a,d,r,c⟩:=id v
 simp only at k p d c
 subst k p d c
 have e:vs.toArray++ws.toArray=(vs++ws).toArray:=by simp
 by_cases h:ws= []
 ·exact concat_meets ⟨_,i,rfl⟩ ⟨_,a,rfl⟩ noFill_tuple_add seq_tuple_add PySem.F.slot_tuple_add PySem.F.entry_tuple_add (PySem.F.args_tuple_add_2 _ _)
   (tuple_addW1 t b vs.toArray ws.toArray n r l f q g (by simpa using o) (by simp[h])) ⟨i,a,x h⟩
 ·refine concat_meets ⟨_,i,rfl⟩ ⟨_,a,rfl⟩ noFill_tuple_add seq_tuple_add PySem.F.slot_tuple_add PySem.F.entry_tuple_add (PySem.F.args_tuple_add_2 _ _)
   (tuple_addW2 t b vs.toArray ws.toArray n r l f q g (by simpa using o) (by simpa using h) (by rw[Qjq,Qjq];exact hsz)) ⟨i,a,?_⟩
  rw[e]
  exact u h
def eU(n d:Nat):Option Int->Nat
 |none=>d
 |some v=>if v<0 then(v+(n:Int)).toNat else min v.toNat n
def qR(n d:Nat):eU n d none=d:=rfl
def Ao(n d k:Nat):eU n d (some (k:Int))=min k n:=by
 show(if (k:Int)<0 then((k:Int)+(n:Int)).toNat else min (k:Int).toNat n)=min k n
 rw[Quq (by omega),Int.toNat_natCast]
def Hi(n d:Nat)(hd:d<=n)(o:Option Int):eU n d o<=n:=by
 cases o with
 |none=>exact hd
 | some v=>
   show(if v<0 then(v+(n:Int)).toNat else min v.toNat n)<=n
   by_cases a:v<0
   · rw[Qhq a];omega
   · rw[Quq a];exact Nat.min_le_right _ _
def zB(v:Int)(n d:Nat):(if v<0 then max (v+(n:Int)) 0 else min v (n:Int))=((eU n d (some v):Nat):Int):=by
 show(if v<0 then max (v+(n:Int)) 0 else min v (n:Int))=(((if v<0 then(v+(n:Int)).toNat else min v.toNat n):Nat):Int)
 by_cases a:v<0
 ·simp only[Qhq a];omega
 ·simp only[Quq a];omega
def yZ(lo hi:Option Int)(n:Nat):Builtin.Slice.sliceAdjust lo hi 1 (n:Int)=(((eU n 0 lo:Nat):Int),((eU n n hi:Nat):Int)):=by
 have a:¬((1:Int)<0):=by omega
 unfold Builtin.Slice.sliceAdjust
 simp only[a,if_false]
 refine Prod.ext ?_ ?_
 ·cases lo with
  |none=>rfl
  |some v=>exact zB v n 0
 ·cases hi with
  |none=>rfl
  |some v=>exact zB v n n
def yq(i j:Nat):Builtin.Slice.slicePlaces (i:Int) (j:Int) 1=j-i:=by
 unfold Builtin.Slice.slicePlaces
 have a:(1:Int)>0:=by omega
 simp only[a,if_true,Int.ediv_one]
 split <;>omega
def qX{v:Value}{o:Option Int}{Q:Option Int->Shared->Prop}(p:IsPart v o)(h:Q o s):wpAny (model prog w) A (Builtin.Slice.slicePartIndex v) Q E s:=by
 cases p with
 |none=>exact slicePart_none h
 |int i t=>exact slicePart_int h
def i_{e:Addr}{d c:Value}{lo hi:Option Int}{n:Nat}{Q:Int×Int×Nat->Shared->Prop}(i:s.heap.IsSliceOf e d c .none)(f:IsPart d lo)(j:IsPart c hi)
  (h:Q (((eU n 0 lo:Nat):Int),1,eU n n hi-eU n 0 lo) s):wpAny (model prog w) A (Builtin.Slice.sliceApplied (.ref e) (pure (n:Int))) Q E s:=by
 obtain⟨k,b,g,a⟩:=id i
 unfold Builtin.Slice.sliceApplied Builtin.Slice.sliceFields
 refine Qaq (Qaq (QMq b a (x:=d) rfl (Qaq (QMq b a (x:=c) rfl (Qaq (QMq b a (x:=.none) rfl (Qgq ?_)))))))
 refine Qaq (slicePart_none ?_)
 show wpAny _ _ (if ((1:Int)==0)=true then _ else _) _ _ s
 rw[Quq (by decide)]
 refine Qaq (qX f (Qaq (qX j (Qaq (Qgq ?_)))))
 show wpAny _ _ (match Builtin.Slice.sliceAdjust lo hi 1 (n:Int) with|(lo,hi)=>pure (lo,(1:Int),Builtin.Slice.slicePlaces lo hi 1)) _ _ s
 rw[yZ lo hi n]
 show wpAny _ _ (pure (((eU n 0 lo:Nat):Int),(1:Int),Builtin.Slice.slicePlaces ((eU n 0 lo:Nat):Int) ((eU n n hi:Nat):Int) 1)) _ _ s
 rw[yq]
 exact Qgq h
def C4(xs:Array Value)(i k:Nat):((List.range k).filterMap λ(m:Nat)=>xs[((i:Int)+(m:Int)*1).toNat]?).toArray=((xs.toList.drop i).take k).toArray:=by
 have e:(λ(m:Nat)=>xs[((i:Int)+(m:Int)*1).toNat]?)=λm=>xs[i+m]? :=by
  funext m
  have:((i:Int)+(m:Int)*1).toNat=i+m:=by omega
  rw[this]
 rw[e]
 have:=pick_run xs i k
 rw[List.filterMap_map] at this
 have a:((λx=>xs[x]?)∘λx=>i+x)=λm=>xs[i+m]? :=rfl
 rw[a] at this
 rw[this]
def mr{t d:Addr}{items:Array Value}{j g:Value}{lo hi:Option Int}{Q:Value->Shared->Prop}(ht:IsTup s.heap t items)(i:s.heap.IsSliceOf d j g .none)(o:IsPart j lo)(p:IsPart g hi)
  (l:¬(eU items.size 0 lo=0/\eU items.size items.size hi=items.size))
  (h:Q (.ref s.heap.objs.size) {s with heap:=s.heap.push {cls:=.type "tuple",data:=.seq ((items.toList.drop (eU items.size 0 lo)).take (eU items.size items.size hi-eU items.size 0 lo)).toArray}})
  (hsz:items.size<=sizeLine):wpAny (model prog w) A (getItem (.ref t) (.ref d)) Q E s:=by
 have a:sizeOk (.seq ((items.toList.drop (eU items.size 0 lo)).take (eU items.size items.size hi-eU items.size 0 lo)).toArray):=by
  show((items.toList.drop (eU items.size 0 lo)).take (eU items.size items.size hi-eU items.size 0 lo)).toArray.size<=sizeLine
  rw[Qjq,Qxq,List.length_drop,Array.length_toList]
  omega
 have v:eU items.size items.size hi<=items.size:=Hi _ _ (Qmq _) hi
 obtain⟨k,f,b,n⟩:=id i
 have e:s.TypeIs (.ref d) "slice":=⟨k,f,b⟩
 unfold getItem
 try with_reducible refine QLq ?_
 first|refine Qaq (Qgq ?_)|skip
 refine Qaq (wpAny_sequenceKey ht.typeIs (by decide) ?_)
 refine Qaq (QiQ (name:=Str.ofString "__getitem__") ht.typeIs PyProof.Rows.slot_tuple_getitem
  (wpAny_call_entry PyProof.Rows.slot_tuple_getitem ht.typeIs entry_tuple_getitem ?_ (args_tuple_getitem _ _)))
 show wpAny _ _ (Builtin.Tuple.tupleItemsOf (.ref t) >>= _) _ _ s
 refine Qaq (tupleItemsOf_ ht ?_)
 refine Qaq (wpAny_typeOf e ?_)
 rw[Qhq (by decide)]
 refine Qaq (i_ i o p ?_)
 have c:¬((((eU items.size 0 lo:Nat):Int)==0&&(1:Int)==1&&(eU items.size items.size hi-eU items.size 0 lo)==items.size)=true):=by
  intro q
  rw[QCq,QCq] at q
  have u:((eU items.size 0 lo:Nat):Int)=0:=eq_of_beq q.1.1
  have r:eU items.size items.size hi-eU items.size 0 lo=items.size:=eq_of_beq q.2
  exact l ⟨by omega,by omega⟩
 show wpAny _ _ (if (((eU items.size 0 lo:Nat):Int)==0&&(1:Int)==1&&(eU items.size items.size hi-eU items.size 0 lo)==items.size)=true then _ else _) _ _ s
 rw[Quq c,C4]
 first
  |exact Qaq (m:=Builtin.Tuple.tupleExact _) (QhQ (Qgq ⟨_,rfl,Qgq h⟩) a)
  |exact Qaq (m:=Builtin.Tuple.tupleExact _) (QhQ (Qaq (Qgq (Qgq ⟨_,rfl,Qgq h⟩))) a)
  |exact Qaq (Qaq (m:=Builtin.Tuple.tupleExact _) (QhQ (Qgq (Qgq ⟨_,rfl,Qgq h⟩)) a))
  |exact Qaq (Qaq (m:=Builtin.Tuple.tupleExact _) (QhQ (Qgq ⟨_,rfl,Qgq h⟩) a))
end
end HT
namespace L2
open PySem PySem.Spec PyProof.Rows
abbrev TO:=St->Hp->(Option Int->Hp->Prop)->Prop
def PO(X:Cx)(e:Option Expr)(t:TO):Prop:=
 ∀ (a:List (Addr×Obj)) (s:Shared) (b:St) (H:Hp) (Q:Option Int->Hp->Prop),Inv X a b H s->t b H Q→
   wpAny (model X.prog X.w) X.A (evalPart e X.env) (λu d=>∃o c,Inv X a b c d/\IsPart u o/\Q o c) X.xe s
def Fi:TO:=λ_ H Q=>Q none H
def JS(t:TE):TO:=λa H Q=>t a H λx H1=>∃i,x=.int i/\Q (some i) H1
section
variable{X:Cx}{e:Expr}{te:TE}{lo hi:Option Expr}{tl th:TO}{pos p2:Pos}
def Fy:PO X none Fi:=by
 intro a s b H Q I h
 rw[evalPart_none]
 exact Qgq ⟨none,H,I,.none,h⟩
def E8(h:PE X e te):PO X (some e) (JS te):=by
 intro a s f H Q I d
 rw[evalPart_some]
 refine cP (h a s f H _ I d) λu k b=> ?_
 obtain⟨x,H1,g,j,c⟩:=b
 obtain⟨i,rfl,q⟩:=c
 obtain⟨t,rfl⟩:=j
 exact⟨some i,H1,g,.int i t,q⟩
def KO(X:Cx)(r:V->Option Int->Option Int->Hp->VK->Prop):Prop:=
 ∀ (a:List (Addr×Obj)) (s:Shared) (d:St) (H:Hp) (x:V) (v f b:Value) (lo hi:Option Int) (c:Addr) (Q:VK),Inv X a d H s->RelV x v->s.heap.IsSliceOf c f b .none->IsPart f lo->IsPart b hi->r x lo hi H Q→
   ∃T id,typeLookup (.type T) "__getitem__"=pure (some (.builtin id))/\s.TypeIs v T/\wpAny (model X.prog X.w) X.A (getItem v (.ref c)) (EP X a d Q) X.xe s
def LG(r:V->Option Int->Option Int->Hp->VK->Prop)(te:TE)(tl th:TO):TE:=λa H Q=>te a H λx H1=>tl a H1 λl H2=>th a H2 λu H3=>r x l u H3 Q
def Dz{r:V->Option Int->Option Int->Hp->VK->Prop}(B:KO X r)(he:PE X e te)(o:PO X lo tl)(y:PO X hi th):PE X (.Subscript e (.Slice lo hi none p2) pos) (LG r te tl th):=by
 intro a s d H Q I h
 refine Subscript_ (cP (he a s d H _ I h) λv j i=> ?_)
 obtain⟨x,H1,k,G,J⟩:=i
 refine wpAny_Slice (cP (o a j d H1 _ k J) λg F ⟨l,H2,C,z,n⟩=>cP (y a F d H2 _ C n) λf c i=> ?_)
 obtain⟨u,H3,m,K,p⟩:=i
 rw[evalPart_none]
 refine Qgq ?_
 have t:Inv X a d H3 {c with heap:=c.heap.push {cls:=.type "slice",data:=.fields #[g,f,.none]}}:=m.kept (t':=c.toks) λb L q=>Qcq _ q
 obtain⟨T,id,hT,ht,hg⟩:=B a {c with heap:=c.heap.push {cls:=.type "slice",data:=.fields #[g,f,.none]}} d H3 x v g f l u c.heap.objs.size Q t G (Heap.IsSliceOf.new ..) z K p
 show wpAny (model X.prog X.w) X.A (subscriptTail e (.Slice lo hi none p2) v (.ref c.heap.objs.size)) (EP X a d Q) X.xe {c with heap:=c.heap.push {cls:=.type "slice",data:=.fields #[g,f,.none]}}
 exact tail_any (ops:= [.ref c.heap.objs.size,v]) ht hT hg (by with_unfolding_all rfl)
def yL(xs:List V)(lo hi:Option Int):List V:=(xs.drop (HT.eU xs.length 0 lo)).take (HT.eU xs.length xs.length hi-HT.eU xs.length 0 lo)
def wu(xs:List V)(lo hi:Option Int):(yL xs lo hi).length<=xs.length:=by
 unfold yL
 rw[Qxq,List.length_drop]
 omega
def Ky(K:PySem.W.Frag):V->Option Int->Option Int->Hp->VK->Prop:=λx lo hi H Q=>∃a b,x=.ref a/\ic K H a b∧
 ¬(HT.eU b.length 0 lo=0/\HT.eU b.length b.length hi=b.length)/\∀p,H p=none->Q (.ref p) (upd H p (.tup (yL b lo hi)))
def Ih:KO X (Ky X.K):=by
 intro i s p H x v y w lo hi u Q I m n k l h
 obtain⟨a,d,rfl,hx,hw,q⟩:=h
 cases m
 obtain⟨f,r,j,g⟩:=I.tuple hx
 have c:f.toArray.size=d.length:=by rw[Qjq];exact r.length.symm
 refine⟨"tuple",_,PyProof.Rows.slot_tuple_getitem.lookup,j.typeIs,?_⟩
 refine HT.mr j n k l (by rw[c];exact hw) ?_ (by rw[c];exact g)
 rw[c]
 refine⟨.ref s.heap.objs.size,_,I.laid (t':=s.toks) (o:=.tup (yL d lo hi)) (λb t q=>Qcq _ q) (Qmq _) ?_,rfl,q _ (I.hok.fresh (Qmq _))⟩
 exact⟨QAq (wu d lo hi) g,_,(r.drop (HT.eU d.length 0 lo)).take (HT.eU d.length d.length hi-HT.eU d.length 0 lo),vf.new _ _⟩
def F2(K:PySem.W.Frag):R2:=λx y H Q=>∃a b d c,x=.ref a/\y=.ref b/\ic K H a d/\ic K H b c/\d≠[]/\d.length+c.length<=sizeLine∧
 (c= []->Q (.ref a) H)/\(c≠[]->∀p,H p=none->Q (.ref p) (upd H p (.tup (d++c))))
def bD.nil_iff{xs:List V}{a:List Value}(r:bD xs a):a= []↔xs= []:=by
 cases r with
 |nil=>simp
 |cons _ _=>simp
def FH:jI X (binaryOp .Add) (F2 X.K):=by
 intro f s p H x y v u Q I m l h
 obtain⟨a,b,j,n,rfl,rfl,ha,hb,hx,hz,q1,q2⟩:=h
 cases m
 cases l
 obtain⟨k,d,i,_⟩:=I.tuple ha
 obtain⟨g,c,p2,_⟩:=I.tuple hb
 refine HT.EG i p2 (λz=>hx (d.nil_iff.mp z)) (λz=>⟨.ref a,H,I,rfl,q1 (c.nil_iff.mp z)⟩) (λz=> ?_) (by rw[←d.length,←c.length];exact hz)
 refine⟨.ref s.heap.objs.size,_,I.laid (t':=s.toks) (o:=.tup (j++n)) (λb r q=>Qcq _ q) (Qmq _) ?_,rfl,q2 (λw=>z (c.nil_iff.mpr w)) _ (I.hok.fresh (Qmq _))⟩
 exact⟨by rw[lQa];exact hz,_,d.append c,vf.new _ _⟩
end
def Bx(n:Nat)(i:Int):Option Nat:=if 0<=i then(if i<n then some i.toNat else none) else if -(n:Int)<=i then some (i+n).toNat else none
def kW{α:Type}(xs:List α)(i:Int):Option α:=(Bx xs.length i).bind λj=>xs[j]?
def uE{n:Nat}{i:Int}{j:Nat}(h:Bx n i=some j):seqIndex? i n=some j/\j<n/\ -(n:Int)<=i/\i<n:=by
 unfold Bx at h
 by_cases b:0<=i
 ·rw[Qhq b] at h
  by_cases a:i<n
  ·rw[Qhq a] at h
   have e:i.toNat=j:=QdQ h
   exact⟨by rw[seqIndex_of b a,e],by omega,by omega,a⟩
  ·rw[Quq a] at h;cases h
 ·rw[Quq b] at h
  by_cases a: -(n:Int)<=i
  ·rw[Qhq a] at h
   have e:(i+n).toNat=j:=QdQ h
   exact⟨by rw[seqIndex_neg (by omega) a,e],by omega,a,by omega⟩
  ·rw[Quq a] at h;cases h
def vw{α:Type}{xs:List α}{i:Int}{v:α}(h:kW xs i=some v):∃j,seqIndex? i xs.length=some j/\xs[j]?=some v/\j<xs.length/\ -(xs.length:Int)<=i/\i<xs.length:=by
 unfold kW at h
 cases e:Bx xs.length i with
 |none=>rw[e] at h;cases h
 | some j=>
   rw[e] at h
   obtain⟨a,d,c,b⟩:=uE e
   exact⟨j,a,h,d,c,b⟩
def Ax(b:Expr):Prop:=∀o i,subscripted b false o i=operate [o,i] (getItem o i)
def Fk(X:Cx)(r:R2):Prop:=
 ∀ (c a:Expr) (b:List (Addr×Obj)) (s:Shared) (d:St) (H:Hp) (x y:V) (v u:Value) (Q:VK),Inv X b d H s->RelV x v->RelV y u->r x y H Q→
   subscripted a false v u=operate [v,u] (getItem v u)->wpAny (model X.prog X.w) X.A (subscriptTail c a v u) (EP X b d Q) X.xe s
def KI(X:Cx)(id:String)(r:V->List V->Hp->VK->Prop):Prop:=
 ∀ (a:List (Addr×Obj)) (s:Shared) (d:St) (H:Hp) (x:V) (c:List V) (v:Value) (b:List Value) (Q:VK),Inv X a d H s->RelV x v->bD c b->r x c H Q→
   wpAny (model X.prog X.w) X.A (call (.builtin id) (v::b)) (EP X a d Q) X.xe s
section
variable{X:Cx}{a b:Expr}{ta tb:TE}{pos:Pos}
def Fk.or{r i:R2}(h:Fk X r)(h':Fk X i):Fk X (λx y H Q=>r x y H Q\/i x y H Q):=by
 intro c d e s f H x y v u Q I j g q k
 rcases q with q|q
 ·exact h c d e s f H x y v u Q I j g q k
 ·exact h' c d e s f H x y v u Q I j g q k
def JA{r:R2}(g:Fk X r)(i:PE X a ta)(e:PE X b tb)(m:Ax b):PE X (.Subscript a b pos) (Gr r ta tb):=by
 intro c s d H Q I h
 exact Subscript_ (GK i e I h λv u k x y H2 j l f q=>g a b c k d H2 x y v u Q j l f q (m _ _))
def Je(K:PySem.W.Frag):R2:=λx y H Q=>∃p c i v,x=.ref p/\y=.int i/\iM K H p c/\kW c i=some v/\Q v H
def Jv(K:PySem.W.Frag):R2:=λx y H Q=>∃p c i v,x=.ref p/\y=.int i/\ic K H p c/\kW c i=some v/\Q v H
def II:R2:=λx y H Q=>∃z i c,x=.str z/\y=.int i/\z.length<=sizeLine/\kW z.cps.toList i=some c/\Q (.str ⟨#[c]⟩) H
def Ez:Fk X (Je X.K):=by
 intro f m c s A H x y v u Q I N L h C
 obtain⟨p,R,i,z,rfl,rfl,hq,he,q⟩:=h
 cases N
 obtain⟨t,rfl⟩:=L
 obtain⟨k,r,g,U⟩:=I.list hq
 obtain⟨j,e,G,W,P,M⟩:=vw he
 obtain⟨w,B,l⟩:=r.get G
 have F:=r.length
 have S:=jh
 have d:EP X c A Q w s:=⟨z,H,I,l,q⟩
 by_cases o:0<=i
 ·have n:i.toNat=j:=by
   rw[seqIndex_of o M] at e
   exact QdQ e
  exact item_listR g.isList o (by omega) (by rw[n];simpa using B) d C
 ·have n:(i+(k.toArray.size:Int)).toNat=j:=by
   rw[seqIndex_neg (by omega) P] at e
   rw[Qjq,←F]
   exact QdQ e
  exact subscriptTail_builtinR (x:=w) g.isList.typeIs slot_list_getitem.lookup
   (wpAny_getItem_list_neg (Q:=λr J=>r=w/\EP X c A Q r J) g.isList (by omega) (by rw[Qjq] <;>omega) (by omega) (by rw[n];simpa using B) ⟨rfl,d⟩) C
def Hy:Fk X (Jv X.K):=by
 intro d f c s k H x y v u Q I G C h J
 obtain⟨p,L,i,z,rfl,rfl,hq,he,q⟩:=h
 cases G
 obtain⟨t,rfl⟩:=C
 obtain⟨B,r,l,N⟩:=I.tuple hq
 obtain⟨j,F,n,S,R,P⟩:=vw he
 obtain⟨w,A,e⟩:=r.get n
 have m:=r.length
 have M:=jh
 have g:EP X c k Q w s:=⟨z,H,I,e,q⟩
 exact subscriptTail_builtinR (x:=w) l.typeIs slot_tuple_getitem.lookup
  (getItem_tuple (j:=j) (Q:=λr o=>r=w/\EP X c k Q r o) l (by omega) (by omega) (by rw[Qjq,←m];exact F) (by simpa using A) ⟨rfl,g⟩) J
def GD:Fk X II:=by
 intro d e g s C H x y v u Q I r p h A
 obtain⟨z,i,c,rfl,rfl,hz,he,q⟩:=h
 obtain⟨t,rfl⟩:=r
 obtain⟨F,rfl⟩:=p
 obtain⟨j,f,n,G,w,o⟩:=vw he
 have m:z.cps.toList.length=z.length:=by simp[Str.length]
 rw[m] at f w o
 have B:=jh
 exact tail_any (typeIs_str s z t) slot_str_getitem.lookup (getItem_str (c:=c) (by
  have l:decide (i< -(2^63:Int))=false:=Qdq (by omega)
  have k:decide (i>=2^63)=false:=Qdq (by omega)
  rw[l,k,Bool.or_false]) (by rw[f];simpa using n) ⟨.str ⟨#[c]⟩,H,I.tok _,⟨_,rfl⟩,q⟩) A
def Lk(K:PySem.W.Frag):R2:=λx y H Q=>Je K x y H Q\/Jv K x y H Q\/II x y H Q
def GE:Fk X (Lk X.K):=Ez.or (Hy.or GD)
def yw(c:List Value)(n j:Nat)(u:Value):Obj.mapSeq (·.setIfInBounds j u) {cls:=.type "list",data:=.seq c.toArray n}={cls:=.type "list",data:=.seq (c.set j u).toArray n}:=by
 simp[Obj.mapSeq]
def Inv.lst{d:List (Addr×Obj)}{f:St}{H:Hp}{s:Shared}{p:Addr}{xs:List V}(I:Inv X d f H s)(h:H p=some (.lst xs)):
  ∃(c:List Value) (n:Nat),bD xs c/\s.heap.get? p=some {cls:=.type "list",data:=.seq c.toArray n}/\xs.length<=sizeLine:=by
 obtain⟨z,c,n,r,e⟩:=I.hok p _ h
 exact⟨c,n,r,e,z⟩
def Inv.lstUpd{c:List (Addr×Obj)}{j:St}{H:Hp}{s:Shared}{p:Addr}{xs ys:List V}{d its':List Value}{n g:Nat}{f:Obj->Obj}(I:Inv X c j H s)(h:H p=some (.lst xs))
  (l:s.heap.get? p=some {cls:=.type "list",data:=.seq d.toArray n}) (i:f {cls:=.type "list",data:=.seq d.toArray n}={cls:=.type "list",data:=.seq its'.toArray g}) (r:bD ys its') (hz:ys.length<=sizeLine) (t:Nat):
  Inv X c j (upd H p (.lst ys)) {s with heap:=s.heap.update p f,toks:=t}:=by
 have e:(s.heap.update p f).get? p=some {cls:=.type "list",data:=.seq its'.toArray g}:=by
  rw[Heap.get?_update_self f l (by rw[i] <;>rfl),i]
 refine I.write (x:=p) (e:=p) (by rw[h];trivial) (.inl rfl) (λb u k q=>(Heap.get?_update_other _ _ (Ne.symm k)).trans q) ⟨_,e⟩ ?_
 exact⟨hz,its',g,r,e⟩
def Gs:V->V->V->Hp->(Hp->Prop)->Prop:=λo i v H Q=>∃p c k j,o=.ref p/\i=.int k/\H p=some (.lst c)/\Bx c.length k=some j/\Q (upd H p (.lst (c.set j v)))
def set_list:GI X Gs:=by
 intro d s B H o i v K J u Q I G A F h
 obtain⟨p,z,k,j,rfl,rfl,hp,hj,q⟩:=h
 cases G
 obtain⟨t,rfl⟩:=A
 obtain⟨c,n,r,l,C⟩:=I.lst hp
 obtain⟨e,M,y,x⟩:=uE hj
 have f:=r.length
 have L:=jh
 have w:Inv X d B (upd H p (.lst (z.set j v))) {s with heap:=s.heap.update p (Obj.mapSeq (·.setIfInBounds j u))}:=
  I.lstUpd hp l (yw c n j u) (r.set F j) (by rw[List.length_set];exact C) s.toks
 by_cases m:0<=k
 ·have g:k.toNat=j:=by
   rw[seqIndex_of m x] at e
   exact QdQ e
  exact PySem.W.ki_setAt l m (by omega) (by rw[Qjq,←f];exact x) (by rw[g];exact⟨_,w,q⟩)
 ·have g:(k+(c.toArray.size:Int)).toNat=j:=by
   rw[seqIndex_neg (by omega) y] at e
   rw[Qjq,←f]
   exact QdQ e
  exact PySem.W.ki_setBack l (by omega) (by rw[Qjq,←f];exact y) (by omega) (by rw[g];exact⟨_,w,q⟩)
def gJ:V->Bool
 |.non=>true
 |.bl _=>true
 |.int _=>true
 |.str _=>true
 |_=>false
def nh:V->V->Bool
 |.non,.non=>true
 |.bl a,.bl b=>a==b
 |.bl a,.int b=>(if a then 1 else 0)==b
 |.int a,.bl b=>a==(if b then 1 else 0)
 |.int a,.int b=>a==b
 |.str a,.str b=>a==b
 |_,_=>false
def Cb{A:Around}{s:Shared}{y x:V}{u v:Value}(e:RelV y u)(c:RelV x v)(g:gJ y=true)(f:gJ x=true):SeqAt.EqAt A s u v (nh y x):=by
 cases y with
 | non=>
   cases e
   cases x with
   |non=>cases c;exact SeqAt.EqAt.same _
   |bl b=>cases c;exact SeqAt.EqAt.none_bool b
   |int b=>obtain⟨t,rfl⟩:=c;exact SeqAt.EqAt.none_int b t
   |str b=>obtain⟨t,rfl⟩:=c;exact SeqAt.EqAt.none_str b t
   |_=>exact absurd (show false=true from f) Qtq
 | bl a=>
   cases e
   cases x with
   |non=>cases c;exact SeqAt.EqAt.bool_none a
   |bl b=>cases c;exact SeqAt.EqAt.bool_bool a b
   |int b=>obtain⟨t,rfl⟩:=c;exact SeqAt.EqAt.bool_int a b t
   |str b=>obtain⟨t,rfl⟩:=c;exact SeqAt.EqAt.bool_str a b t
   |_=>exact absurd (show false=true from f) Qtq
 | int a=>
   obtain⟨d,rfl⟩:=e
   cases x with
   |non=>cases c;exact SeqAt.EqAt.int_none a d
   |bl b=>cases c;exact SeqAt.EqAt.int_bool a d b
   |int b=>obtain⟨t,rfl⟩:=c;exact SeqAt.EqAt.int_int a d b t
   |str b=>obtain⟨t,rfl⟩:=c;exact SeqAt.EqAt.int_str a d b t
   |_=>exact absurd (show false=true from f) Qtq
 | str a=>
   obtain⟨d,rfl⟩:=e
   cases x with
   |non=>cases c;exact SeqAt.EqAt.str_none a d
   |bl b=>cases c;exact SeqAt.EqAt.str_bool a d b
   |int b=>obtain⟨t,rfl⟩:=c;exact SeqAt.EqAt.str_int a d b t
   |str b=>obtain⟨t,rfl⟩:=c;exact SeqAt.EqAt.str_str a d b t
   |_=>exact absurd (show false=true from f) Qtq
 |_=>exact absurd (show false=true from g) Qtq
def yi(x:V)(u:Value):Bool:=match u with
 |.none=>nh .non x
 |.bool b=>nh (.bl b) x
 |.int i _=>nh (.int i) x
 |.str z _=>nh (.str z) x
 |_=>false
def vq{x y:V}{u:Value}(r:RelV y u)(f:gJ y=true):yi x u=nh y x:=by
 cases y with
 |non=>cases r;rfl
 |bl b=>cases r;rfl
 |int i=>obtain⟨t,rfl⟩:=r;rfl
 |str z=>obtain⟨t,rfl⟩:=r;rfl
 |_=>exact absurd (show false=true from f) Qtq
theorem mZ{x:V}:∀{xs:List V} {c:List Value},bD xs c->xs.all gJ=true->c.any (yi x)=xs.any λy=>nh y x
 |_,_,.nil,_=>rfl
 | y::xs,u::c,.cons r t,f=>by
   rw[List.all_cons,QCq] at f
   rw[List.any_cons,List.any_cons,vq r f.1,mZ t f.2]
theorem iQ{A:Around}{s:Shared}{x:V}{v:Value}(e:RelV x v)(g:gJ x=true):∀{xs:List V} {d:List Value},bD xs d->xs.all gJ=true->∀u∈d,SeqAt.EqAt A s u v (yi x u)
 |_,_,.nil,_=>λu c=>by cases c
 | y::xs,u::d,.cons r t,f=>λh c=>by
   rw[List.all_cons,QCq] at f
   rcases Qsq.mp c with rfl|c
   · rw[vq r f.1];exact Cb r e f.1 g
   · exact iQ e g t f.2 h c
def Dt(x:V)(xs:List V):Bool:=xs.any λy=>nh y x
def K8(K:PySem.W.Frag)(d:Bool):R2:=λx y H Q=>∃p c,y=.ref p/\(iM K H p c\/ic K H p c)/\gJ x=true/\c.all gJ=true/\Q (.bl (if d then !Dt x c else Dt x c)) H
def AZ:jI X (compareOp .In) (K8 X.K false):=by
 intro g s m H x y v u Q I i k h
 obtain⟨p,l,rfl,d,fx,fs,q⟩:=h
 cases k
 rcases d with d|d
 ·obtain⟨c,r,f,j⟩:=I.list d
  refine SeqAt.in_listAt (yi x) f.isList (λw e=>iQ i fx r fs w (by simpa using e)) ⟨.bl _,H,I,rfl,?_⟩
  rw[show c.toArray.any (yi x)=c.any (yi x) by simp,mZ r fs]
  exact q
 ·obtain⟨c,r,f,j⟩:=I.tuple d
  refine SeqAt.in_tupleAt (yi x) f (λw e=>iQ i fx r fs w (by simpa using e)) ⟨.bl _,H,I,rfl,?_⟩
  rw[show c.toArray.any (yi x)=c.any (yi x) by simp,mZ r fs]
  exact q
def vt:jI X (compareOp .NotIn) (K8 X.K true):=by
 intro g s m H x y v u Q I i k h
 obtain⟨p,l,rfl,d,fx,fs,q⟩:=h
 cases k
 rcases d with d|d
 ·obtain⟨c,r,f,j⟩:=I.list d
  refine SeqAt.notIn_listAt (yi x) f.isList (λw e=>iQ i fx r fs w (by simpa using e)) ⟨.bl _,H,I,rfl,?_⟩
  rw[show c.toArray.any (yi x)=c.any (yi x) by simp,mZ r fs]
  exact q
 ·obtain⟨c,r,f,j⟩:=I.tuple d
  refine SeqAt.notIn_tupleAt (yi x) f (λw e=>iQ i fx r fs w (by simpa using e)) ⟨.bl _,H,I,rfl,?_⟩
  rw[show c.toArray.any (yi x)=c.any (yi x) by simp,mZ r fs]
  exact q
def mQ:gL X (.builtin "len") (λxs H Q=>∃p ys,xs= [.ref p]/\(iM X.K H p ys\/ic X.K H p ys)/\Q (.int ys.length) H):=by
 intro i s m H xs k Q I r h
 obtain⟨p,ys,rfl,d,q⟩:=h
 obtain⟨u,rfl,rx⟩:=vals1 r
 cases rx
 have l:=jh
 rcases d with d|d
 ·obtain⟨f,g,e,j⟩:=I.list d
  have c:=g.length
  exact Calls.call_len_list e.isList (by simp only[Qjq] <;>omega) ⟨.int ys.length,H,I.tok _,⟨s.toks+1,by rw[Qjq,c]⟩,q⟩
 ·obtain⟨f,g,e,j⟩:=I.tuple d
  have c:=g.length
  exact len_tuple e (by simp only[Qjq] <;>omega) ⟨.int ys.length,H,I.tok _,⟨s.toks+1,by rw[Qjq,c]⟩,q⟩
def uA:gL X (.builtin "len") (λxs H Q=>∃z,xs= [.str z]/\z.length<=sizeLine/\Q (.int z.length) H):=by
 intro c s e H xs d Q I r h
 obtain⟨z,rfl,hz,q⟩:=h
 obtain⟨u,rfl,t,rfl⟩:=vals1 r
 have f:=jh
 exact len_str (by omega) ⟨.int z.length,H,I.tok _,⟨_,rfl⟩,q⟩
def gL.or{f:Value}{r i:List V->Hp->VK->Prop}(h:gL X f r)(h':gL X f i):gL X f (λxs H Q=>r xs H Q\/i xs H Q):=by
 intro c s g H xs d Q I e q
 rcases q with q|q
 ·exact h c s g H xs d Q I e q
 ·exact h' c s g H xs d Q I e q
def sV:gL X (.type "tuple") (λxs H Q=>∃p ys,xs= [.ref p]/\((iM X.K H p ys/\∀l,H l=none->Q (.ref l) (upd H l (.tup ys)))\/(ic X.K H p ys/\Q (.ref p) H))):=by
 intro c s m H xs y Q I r h
 obtain⟨p,ys,rfl,h⟩:=h
 obtain⟨u,rfl,rx⟩:=vals1 r
 cases rx
 rcases h with⟨g,q⟩|⟨g,q⟩
 ·obtain⟨d,j,i,n⟩:=I.list g
  have t:=j.length
  refine call_tuple_list i.isList (λf v=> ?_) (by simp only[Qjq] <;>omega)
  have k:Inv X c m H {s with heap:=f}:=I.kept (t':=s.toks) v
  have x:Inv X c m (upd H f.objs.size (.tup ys)) {s with heap:=f.push {cls:=.type "tuple",data:=.seq d.toArray}}:=
   k.laid (t':=s.toks) (λb o e=>Qcq _ e) (Qmq _) (show cY X.prog X.w _ _ _ (.tup ys) from⟨n,d,j,vf.new _ _⟩)
  exact⟨.ref f.objs.size,_,x,rfl,q _ (k.hok.fresh (Qmq _))⟩
 ·obtain⟨d,j,i,n⟩:=I.tuple g
  exact call_tuple_same i ⟨.ref p,H,I,rfl,q⟩
def Lh(K:PySem.W.Frag)(T:String)(x:V)(H:Hp):Prop:=match x with
 |.str _=>T="str"
 |.int _=>T="int"
 |.ref p=>(T="list" /\∃d,iM K H p d)\/(T="tuple" /\∃o,K.lookup p=some o/\o.cls=.type "tuple" /\o.dict=none)∨
   (T="dict" /\((∃c,H p=some (.dK c))\/∃c,H p=some (.dT c)))\/(T="set" /\∃S n,H p=some (.set S n))
 |_=>False
def Hh{g:List (Addr×Obj)}{u:St}{H:Hp}{s:Shared}{T:String}{x:V}{v:Value}(I:Inv X g u H s)(r:RelV x v)(h:Lh X.K T x H):
  s.TypeIs v T/\∀a,v=.ref a->∃m,s.heap.get? a=some m/\m.dict=none:=by
 cases x with
 | str z=>
   obtain⟨t,rfl⟩:=r
   cases (show T="str" from h)
   exact⟨typeIs_str s z t,λ_ e=>nomatch e⟩
 | int i=>
   obtain⟨t,rfl⟩:=r
   cases (show T="int" from h)
   exact⟨typeIs_int s i t,λ_ e=>nomatch e⟩
 | ref p=>
   cases r
   rcases h with⟨rfl,xs,hq⟩|⟨rfl,o,d,hc,l⟩|⟨rfl,d⟩|⟨rfl,S,n,d⟩
   · obtain⟨w,_,q,_⟩:=I.list hq
     refine⟨q.isList.typeIs,λa e=> ?_⟩
     cases e
     obtain⟨o,n,e,c,l,_⟩:=q
     exact⟨o,e,l⟩
   · refine⟨⟨o,I.kIn p o d,hc⟩,λa e=> ?_⟩
     cases e
     exact⟨o,I.kIn _ o d,l⟩
   · have z:∃o,s.heap.get? p=some o/\o.ExactDict:=by
       rcases d with⟨j,d⟩|⟨j,d⟩
       · obtain⟨_,_,_,_,o,_,_,e,f,_⟩:=I.hok p _ d
         exact⟨o,e,f⟩
       · obtain⟨_,_,_,_,o,_,_,e,f,_⟩:=I.hok p _ d
         exact⟨o,e,f⟩
     obtain⟨o,e,f⟩:=z
     refine⟨⟨o,e,f.1⟩,λa k=> ?_⟩
     cases k
     exact⟨o,e,f.2.1⟩
   · obtain⟨o,_,_,_,e,f,_⟩:=I.hok p _ d
     refine⟨⟨o,e,f.1⟩,λa k=> ?_⟩
     cases k
     exact⟨o,e,f.2.1⟩
 |_=>exact False.elim h
def Kn(K:PySem.W.Frag)(T:String)(r:V->List V->Hp->VK->Prop)(d:TE)(t:TA):TE:=λc H Q=>d c H λx H1=>Lh K T x H1/\t c H1 λe H2=>r x e H2 Q
variable{o e:Expr}{es:List Expr}{to:TE}{t:TA}{name:Str}{apos cpos:Pos}{T id:String}{r:V->List V->Hp->VK->Prop}
def rT(J:PlainAttrs T)(slot:Slot T name id)(j:typeOf (.builtin id)=pure (.type "method_descriptor"))(R:KI X id r)(G:PE X o to)(B:PA X (e::es) t)
  (f:attributeBase o name X.env (eval o X.env)=eval o X.env:=by rfl)
  (i:((backTo cpos (starEach (e::es) X.env)).all (λx=> !x.1)&&(backToKw cpos (keywordEach [] X.env)).all (λx=>x.1.isSome)
   &&decide ((e::es).length+([]:List Keyword).length+(if ([]:List Keyword).isEmpty then 0 else 1)<30))=true:=by rfl)
  (g:(apos.endLine==cpos.line)=true:=by rfl) (P:starEach (e::es) X.env=(false,eval e X.env)::starEach es X.env:=by rfl) (d:(backTo cpos (starEach es X.env)).any (·.1)=false:=by rfl):
  PE X (.Call (.Attribute o name apos) (e::es) [] cpos) (Kn X.K T r to t):=by
 intro c s k H Q I h
 refine wpAny_Call_method_late f i g rfl (cP (G c s k H _ I h) λv p N=> ?_)
 obtain⟨x,H1,l,m,M,L⟩:=N
 obtain⟨A,z⟩:=Hh l m M
 refine⟨T,id,J,slot,j,A,z,?_⟩
 have n:=B cpos c p k H1 _ l L
 rw[P] at n⊢
 refine Calls.callWith_builtin (by show(false||(backTo cpos (starEach es X.env)).any (·.1))=false;rw[d] <;>rfl) (Calls.evalArgs_plain ?_)
 exact cP n λq F ⟨u,H2,C,y,w⟩=>R c F k H2 x u v q Q C m y w
end
def Iz(X:Cx)(id:String)(r:V->List V->Hp->VK->Prop):Prop:=
 ∀ (a:List (Addr×Obj)) (s:Shared) (d:St) (H:Hp) (x:V) (c:List V) (v:Value) (b:List Value) (Q:VK),Inv X a d H s->RelV x v->bD c b->r x c H Q→
   wpAny (model X.prog X.w) X.A (call (.builtin id) (v::b)) (EP X a d Q) X.xe s
def bD.one:∀{x:V} {a:List Value},bD [x] a->∃u,a= [u]/\RelV x u
 |_,_,.cons r .nil=>⟨_,rfl,r⟩
def bD.two:∀{x y:V} {a:List Value},bD [x,y] a->∃u v,a= [u,v]/\RelV x u/\RelV y v
 |_,_,_,.cons r (.cons q .nil)=>⟨_,_,rfl,r,q⟩
theorem bD.eraseIdx:∀{xs:List V} {a:List Value} (i:Nat),bD xs a->bD (xs.eraseIdx i) (a.eraseIdx i)
 |_,_,_,.nil=>.nil
 |_,_,0,.cons _ t=>t
 |_,_,i+1,.cons r t=>.cons r (bD.eraseIdx i t)
theorem bD.rep{xs:List V}{a:List Value}(h:bD xs a):∀k:Nat,bD (List.replicate k xs).flatten (List.replicate k a).flatten
 |0=>.nil
 | k+1=>by
   rw[QNq,QNq,List.flatten_cons,List.flatten_cons]
   exact bD.append h (bD.rep h k)
theorem t_{α:Type}:∀(l:List α) (i:Nat),(l.eraseIdx i).length<=l.length
 | [],_=>Qmq _
 |_::_,0=>Nat.le_succ _
 |_::r,i+1=>Nat.succ_le_succ (t_ r i)
theorem foldl_rep(a:List Value):∀(k:Nat) (b:List Value),
  List.foldl (λd c=>d++c) b.toArray (List.replicate k a.toArray)=(b++(List.replicate k a).flatten).toArray
 |0,b=>by simp
 | k+1,b=>by
   have e:b.toArray++a.toArray=(b++a).toArray:=by simp
   have f:(b++a)++(List.replicate k a).flatten=b++(List.replicate (k+1) a).flatten:=by
     rw[QNq,List.flatten_cons,Qvq]
   rw[←f,←foldl_rep a k (b++a),←e,QNq,List.foldl_cons]
section
variable{X:Cx}{pins:List (Addr×Obj)}{σ:St}{H:Hp}{s:Shared}{l b:Addr}{xs ys zs:List V}
def Inv.lset{a its':List Value}{n:Nat}{f:Array Value->Array Value}{t':Nat}(I:Inv X pins σ H s)(d:H l=some (.lst xs))
  (e:s.heap.get? l=some {cls:=.type "list",data:=.seq a.toArray n}) (h:f a.toArray=its'.toArray) (i:bD ys its') (hz:ys.length<=sizeLine):
  Inv X pins σ (upd H l (.lst ys)) {s with heap:=s.heap.update l (Obj.mapSeq f),toks:=t'}:=by
 have q:=PySem.IsL.update e f
 rw[h] at q
 refine I.write (x:=l) (e:=l) (by rw[d];exact trivial) (.inl rfl) (λj u g c=>(Heap.get?_update_other s.heap (Obj.mapSeq f) (Ne.symm g)).trans c) ⟨_,q⟩ ?_
 exact⟨hz,its',_,i,q⟩
def Inv.lnew{a:List Value}{t':Nat}(I:Inv X pins σ H s)(c:bD ys a)(hz:ys.length<=sizeLine):
  Inv X pins σ (upd H s.heap.objs.size (.lst ys)) {s with heap:=s.heap.push {cls:=.type "list",data:=.seq a.toArray},toks:=t'}:=
 I.laid (λ_ _ q=>Qcq _ q) (Qmq _) ⟨hz,a,0,c,Qrq _ rfl⟩
def Inv.fresh(I:Inv X pins σ H s):H s.heap.objs.size=none:=I.hok.fresh (Qmq _)
def Inv.lstM(I:Inv X pins σ H s)(c:H l=some (.lst xs)):xs.length<=sizeLine/\∃(a:List Value) (n:Nat),bD xs a/\xs.length=a.length/\s.heap.get? l=some {cls:=.type "list",data:=.seq a.toArray n}:=by
 obtain⟨z,a,n,r,e⟩:=I.hok l _ c
 exact⟨z,a,n,r,r.length,e⟩
def x9{n:Nat}(h:n<=sizeLine):Builtin.List.listTooLong n=false:=by
 unfold Builtin.List.listTooLong
 exact Qdq (by omega)
end
section
variable{X:Cx}
def Aq:V->List V->Hp->VK->Prop:=λx b H Q=>∃l a y,x=.ref l/\b= [y]/\H l=some (.lst a)/\a.length<sizeLine/\Q .non (upd H l (.lst (a++ [y])))
def n_:Iz X "list.append" Aq:=by
 intro b s j H x g v f Q I d c h
 obtain⟨l,i,y,rfl,rfl,hH,hz,q⟩:=h
 cases d
 obtain⟨u,rfl,ru⟩:=c.one
 obtain⟨z,a,n,r,k,e⟩:=I.lstM hH
 refine call_meets F.slot_list_append ⟨_,e,rfl⟩ F.entry_list_append (F.args_list_append_2 _ _) (PySem.list_append l a.toArray n u (by rw[Qjq];omega)) ⟨e,?_⟩
 refine⟨.non,_,I.lset (its':=a++ [u]) hH e (by simp) (r.append (.cons ru .nil)) ?_,rfl,q⟩
 rw[lQa,List.length_singleton]
 omega
def z4:V->List V->Hp->VK->Prop:=λx d H Q=>∃l b a c,x=.ref l/\d= [.ref b]/\H l=some (.lst a)/\H b=some (.lst c)/\a.length+c.length<=sizeLine/\Q .non (upd H l (.lst (a++c)))
def Bw:Iz X "list.extend" z4:=by
 intro g s B H x w v t Q I m k h
 obtain⟨l,b,y,A,rfl,rfl,hH,hB,hz,q⟩:=h
 cases m
 obtain⟨u,rfl,ru⟩:=k.one
 cases ru
 obtain⟨z,c,n,r,C,e⟩:=I.lstM hH
 obtain⟨G,a,o,j,p,i⟩:=I.lstM hB
 have f:c.toArray.size+a.toArray.size<=sizeLine:=by rw[Qjq,Qjq];omega
 have d:¬(!c.toArray.isEmpty&&Builtin.List.listTooLong (c.toArray.size+a.toArray.size))=true:=by
  rw[x9 f,Bool.and_false]
  exact Qtq
 refine call_meets F.slot_list_extend ⟨_,e,rfl⟩ F.entry_list_extend (F.args_list_extend_2 _ _)
  (AutoSeq1.list_extend_list_list_0 l c.toArray n b a.toArray o d (by rw[Qjq];omega) (by omega)) ⟨e,i,?_⟩
 refine⟨.non,_,I.lset (its':=c++a) hH e (by simp) (r.append j) ?_,rfl,q⟩
 rw[lQa]
 omega
def CP:V->List V->Hp->VK->Prop:=λx b H Q=>∃l a i k y,x=.ref l/\b= [.int i]/\H l=some (.lst a)/\ -(2^63)<=i/\i<2^63/\seqIndex? i a.length=some k/\a[k]?=some y/\Q y (upd H l (.lst (a.eraseIdx k)))
def Eg:Iz X "list.pop" CP:=by
 intro c s A H x p v o Q I m j h
 obtain⟨l,d,i,k,y,rfl,rfl,hH,h1,h2,hk,hy,q⟩:=h
 cases m
 obtain⟨u,rfl,ru⟩:=j.one
 obtain⟨t,rfl⟩:=ru
 obtain⟨z,a,n,r,g,e⟩:=I.lstM hH
 obtain⟨w,f,b⟩:=r.get hy
 refine call_meets F.slot_list_pop ⟨_,e,rfl⟩ F.entry_list_pop (F.args_list_pop_2 _ _)
  (MeetsSeq.list_pop_at l a.toArray n i t k w (fitsIndex_both h1 h2) (by rw[Qjq,←g];exact hk) (by rw[←Array.getElem?_toList];exact f) (by rw[Qjq];omega)) ⟨e,?_⟩
 refine⟨y,_,I.lset (its':=a.eraseIdx k) hH e ?_ (r.eraseIdx k) ?_,b,q⟩
 ·show a.toArray.eraseIdxIfInBounds k=(a.eraseIdx k).toArray
  rw[List.eraseIdxIfInBounds_toArray]
 ·have:=t_ d k
  omega
def KD:R2:=λx y H Q=>∃l b a c,x=.ref l/\y=.ref b/\H l=some (.lst a)/\H b=some (.lst c)/\a.length+c.length<=sizeLine/\∀p,H p=none->Q (.ref p) (upd H p (.lst (a++c)))
def Hu:jI X (binaryOp .Add) KD:=by
 intro d s t H x y v u Q I k j h
 obtain⟨l,b,o,p,rfl,rfl,hH,hB,hz,q⟩:=h
 cases k
 cases j
 obtain⟨z,c,n,r,w,e⟩:=I.lstM hH
 obtain⟨A,a,B,g,m,f⟩:=I.lstM hB
 refine PySem.P.add_list e f ?_ (by rw[Qjq,Qjq];omega)
 have i:c.toArray++a.toArray=(c++a).toArray:=by simp
 rw[i]
 exact⟨.ref _,_,I.lnew (t':=s.toks) (r.append g) (by rw[lQa];omega),rfl,q _ I.fresh⟩
def len_rep{α:Type}(xs:List α)(k:Nat):(List.replicate k xs).flatten.length=k*xs.length:=by
 induction k with
 |zero=>simp
 |succ k a=>rw[QNq,List.flatten_cons,lQa,a,Nat.succ_mul,Nat.add_comm]
end
end L2
namespace Att
open PySem PySem.W PySem.Calls PyProof.Rows
def pK{P:Params}{h:Heap}:∀(ns:List Int) (vs:List Value),WellAll P h vs (ns.map WData.int)->IntsAre vs ns:=by
 intro ns
 induction ns with
 | nil=>
   intro vs w
   rw[List.map_nil] at w
   cases w
   exact .nil
 | cons n ns c=>
   intro vs w
   rw[QDq] at w
   cases w with
   | cons a b=>
     cases a
     exact .cons _ _ (c _ b)
def Bz{l:OpenLaw}{n:Nat}(m:l.most=some n){P:Params}{h:Heap}{args:List WData}{vals:List Value}
  (b:l.row.toRowW.claim.pre args=true) (j:WellAll P h vals args):
  ∃a vs ns,vals= [Value.ref a]/\args= [WData.list (ns.map WData.int)]/\h.get? a=some {cls:=.type "list",data:=.seq vs.toArray}/\IntsAre vs ns/\ns.length<=n:=by
 have i:WShape.hasAll [] args [.list .int]=true:=(pre_splitW b).1
 have k:l.pre.holds [] {args:=args}=true:=(pre_splitW b).2
 obtain⟨d,r,rfl,h1,h2⟩:=hasAllW_cons i
 obtain rfl:=hasAllW_nil h2
 obtain⟨u,rfl,h3⟩:=hasW_list h1
 obtain⟨ns,rfl⟩:=items_int h3
 have e:ns.length<=n:=by
  unfold OpenLaw.pre at k
  have g:(WTm.not (.lt (.lit (.int (n:Int))) (.len (.arg 0)))).holds [] {args:= [.list (ns.map .int)]}=true:=by
   have g:=(holds_andW k).1
   rw[m] at g
   exact g
  have f:=condW_of g (w_not (w_lt w_lit (w_len_list (w_arg rfl))))
  rw[lQm] at f
  refine Nat.le_of_not_lt λq=> ?_
  have o:(n:Int)<((ns.length:Nat):Int):=by omega
  first
   |(rw[Qeq o] at f;exact absurd f (by decide))
   |(simp at f;omega)
 cases j with
 | cons t p=>
   cases p
   cases t with
   |list s c=>exact⟨_,_,ns,rfl,rfl,s,pK ns _ c,e⟩
def BX(l:OpenLaw)(args:List WData):l.row.toRowW.claim.post args (.bool true) args=true:=
 postW_of (r:=l.row.toRowW) (X:=(true==true))
  (show WShape.has [] (.bool true) .bool=true by first|rfl|decide|simp[WShape.has,WShape.arms,WShape.armsAll])
  (show(WTm.eq .res (.lit (.bool true))).value [] {args:=args,res:=some (.bool true),after:=args}=some (.bool (true==true)) from w_eq_bool (w_res rfl) w_lit) rfl
def xa{l:OpenLaw}{n:Nat}{q:Program}{c:List Str}{y:(Str->Option Value)->Heap->Prop}{z:World->Heap->Prop}{d:DefRec}
  (F:l.most=some n) (m:d.params.defaults= [])
  (h:∀(w:World) (s₀ b:Shared) (mg k:Str->Option Value) (g:Addr) (o:Obj) (p j e:Value) (a:Addr) (vs:List Value) (ns:List Int),
   Ground q c [] y w s₀ mg k b.heap->z w b.heap→
   b.heap.get? g=some o->o.data=.func (docDef d.name d.params d.body d.scope p j e)->b.heap.CodeRec j d.name->mg d.name=some (.ref g)→
   b.heap.get? a=some {cls:=.type "list",data:=.seq vs.toArray}->IntsAre vs ns->ns.length<=n->b.gens= #[]→
   codeAny (model l.prog w) callerA (.call (.ref g) ⟨[.ref a],[]⟩) (λr s'=>r=.ok (.ret (.bool true))/\OldK b.heap s'.heap/\s'.os=b.os/\AllBare s'.gens) b):
  WalkO q c y z l.row.toRowW d [] (λf vs=>PySem.call f vs):=by
 intro w s₀ b mg k G Y g o p j e K kV L J s A t I x B P i v M u H
 obtain rfl:K=.none:=Dflts.none A m
 obtain rfl:kV=.none:=Dflts.noKw A
 obtain⟨a,vs,ns,rfl,rfl,hobj,hints,hlen⟩:=Bz F i u
 refine enter_call (codeAny_mono (h w s₀ b mg k g o p j e a vs ns G Y L (fd_plain J) s t hobj hints hlen I) λr s' C=> ?_)
 obtain⟨rfl,h2,h3,h4⟩:=C
 exact⟨.inl ⟨.bool true,.bool true,[],rfl,λ_=>rfl,.bool true,BX l _,λ_=>⟨List.Pairwise.nil,λ_ N=>(nomatch N)⟩⟩,h2,h3,h4⟩
end Att
namespace L2
open PySem PySem.Spec PyProof.Rows
theorem tH:∀{vs:List Value} {ns:List Int},IntsAre vs ns->bD (ns.map V.int) vs
 |_,_,.nil=>.nil
 |_,_,.cons n t h=>.cons ⟨t,rfl⟩ (tH h)
def Et(H:Hp):Prop:=∀b,H b=none\/∃o a,H b=some (.frz o (.lst a))
def DH{P:Program}{w:World}{K:PySem.W.Frag}{mg N:Str->Option Value}{CX:B9}{k:Nat}{X a:Addr}{fd:FuncData}{x:Str}{sp:Sp}{c:Shared}{vs:List Value}{ns:List Int}
  (KX:K.In c.heap) (L:c.heap.Ns mainGlobals mg) (g:c.heap.Ns builtinsNs N) (R:∀x:Str,x≠"__name__" ->N x=bootBuiltins x) (C:c.heap.NoLimit) (hg:c.gens= #[])
  (M:c.heap.get? a=some {cls:=.type "list",data:=.seq vs.toArray}) (hi:IntsAre vs ns) (hl:ns.length<=sizeLine) (hr:eG k callerA)
  (F:∀base:Heap,K.In base->base.Ns mainGlobals mg->bC P w K mg base CX k X fd [x] sp) (l:∀(s:Shared) (u:Value),BindsTo s fd ⟨[u],[]⟩ [(x,u)])
  (Y:∀H:Hp,Et H->iM K H a (ns.map V.int)->sp [.ref a] H (λv _=>v=.bl true) λ_ _ _=>False)
  (U:∀H e s',CX [] H c (λ_ _ _=>False) e s'->False):
  codeAny (model P w) callerA (.call (.ref X) ⟨[.ref a],[]⟩) (λr s'=>r=.ok (.ret (.bool true))/\OldK c.heap s'.heap/\s'.os=c.os/\AllBare s'.gens) c:=by
 have rv:=tH hi
 have t:=hi.length
 have j:∀H:Hp,Et H->iM K H a (ns.map V.int)->me P w H c.heap->(∀b,H b≠none->b=a)->(H a≠none->K.lookup a=none)→
   codeAny (model P w) callerA (.call (.ref X) ⟨[.ref a],[]⟩) (λr s'=>r=.ok (.ret (.bool true))/\OldK c.heap s'.heap/\s'.os=c.os/\AllBare s'.gens) c:=by
  intro H hO hS A hA hK
  have f:∀{b:Addr} {o:Obj},c.heap.get? b=some o->H b=none->(uw c.heap H).get? b=some o:=λe n=>CC e n
  have Z:∀{b:Addr} {o:Obj} {y:Array DictEntry} {B:Nat},c.heap.get? b=some o->o.data=.dict y B->H b=none:=λ{b o y B} e d=>by
   cases q:H b with
   |none=>rfl
   | some u=>
     have Q:b=a:=hA b (by rw[q];simp)
     subst Q
     rw[M] at e;cases e
     have d':Data.seq vs.toArray _=Data.dict y B:=d
     cases d'
  have i:∀{b:Addr} {m:Str->Option Value},c.heap.Ns b m->(uw c.heap H).Ns b m:=λ{b m} ⟨o,y,B,e,d,r⟩=>⟨o,y,B,f e (Z e d),d,r⟩
  have J:K.In (uw c.heap H):=λb o e=>f (KX b o e) (by
   cases q:H b with
   |none=>rfl
   | some u=>
     have Q:b=a:=hA b (by rw[q];simp)
     subst Q
     rw[hK (by rw[q];simp)] at e;cases e)
  have hM:Mod K mg (uw c.heap H):=⟨J,i L,⟨N,i g,R⟩,let ⟨mc,h1,h2⟩:=C;⟨mc,i h1,h2⟩⟩
  have e0:EA P w K mg (uw c.heap H) callerA [] c H:=⟨rfl,hM,λb o e=>EI e,Nat.le_of_eq (Br _ _),trivial,λb g=>absurd (show b∈([]:List Addr) from g) (by simp),A,.of_eq hg⟩
  refine codeAny_mono ((F _ J (i L)).run callerA [] c H ⟨[.ref a],[]⟩ [.ref a] [.ref a] _ _ hr e0 (l c (.ref a)) (.cons rfl .nil) (Y H hO hS)) λr s' h=> ?_
  cases r with
  |error e=>exact(U H e s' h).elim
  | ok fl=>
    cases fl with
    |next=>exact False.elim h
    |brk=>exact False.elim h
    |cont=>exact False.elim h
    | ret u=>
      obtain⟨v,H',os,G,un,I,r',q⟩:=h
      have q':v=.bl true:=q
      subst q'
      obtain rfl:u=Value.bool true:=r'
      refine⟨rfl,OldK.of_keep λb o e=> ?_,os,G⟩
      cases q:H b with
      |none=>exact un.keep b o e q (by intro z;exact absurd (show b∈([]:List Addr) from z) (by simp)) (by simp)
      | some u=>
        rcases hO b with z|⟨ob,xs,z⟩
        · rw[q] at z;cases z
        · have z2:=un.frzs b ob _ z
          obtain⟨e1,_⟩:=A b _ z
          obtain⟨e2,_⟩:=I b _ z2
          rw[e] at e1;cases e1
          exact e2
 cases S:K.lookup a with
 | some o=>
   have e:=KX a o S
   rw[M] at e
   cases e
   refine j (λ_=>none) (λ_=>.inl rfl) (.inr ⟨_,vs.toArray,_,S,rfl,rfl,rfl,by rw[Qjq,t];exact hl,by simpa using rv⟩) (λb u z=>by have p:(none:Option HO)=some u:=z;cases p) (λb z=>absurd rfl z) λz=>absurd rfl z
 | none=>
   refine j (λb=>if b=a then some (.frz {cls:=.type "list",data:=.seq vs.toArray} (.lst (ns.map V.int))) else none) (λb=> ?_) (.inl (.inr ⟨{cls:=.type "list",data:=.seq vs.toArray},Qhq rfl⟩)) (λb u z=> ?_) (λb z=> ?_) λ_=>S
   · by_cases g:b=a
     · exact .inr ⟨_,_,Qhq g⟩
     · exact .inl (Quq g)
   · by_cases g:b=a
     · have p:=(Qhq g).symm.trans z
       cases p
       subst g
       exact⟨M,by rw[lQm];exact hl,vs,_,rv,M⟩
     · have p:=(Quq g).symm.trans z
       cases p
   · by_cases g:b=a
     · exact g
     · exact absurd (Quq g) z
def Fz{l:PySem.W.OpenLaw}{n k:Nat}{q:Program}{j:List Str}{U:(Str->Option Value)->Heap->Prop}{L:World->Heap->Prop}{d:DefRec}{K:Params->PySem.W.Frag}{CX:World->B9}{sp:World->Sp}{x:Str}
  (N:l.most=some n) (t:n<=sizeLine) (y:d.params.defaults= []) (S:eG k callerA)
  (hY:∀(w:World) (h:Heap),L w h->(K w.params).In h)
  (F:∀(w:World) (mg:Str->Option Value) (r:Addr) (h:Heap),(K w.params).In h->h.Ns mainGlobals mg->mg d.name=some (.ref r)→
   ∃ C:FuncData,(∀(s:Shared) (u:Value),BindsTo s C ⟨[u],[]⟩ [(x,u)])∧
     ∀base:Heap,(K w.params).In base->base.Ns mainGlobals mg->bC l.prog w (K w.params) mg base (CX w) k r C [x] (sp w))
  (B:∀(w:World) (H:Hp) (a:Addr) (ns:List Int),ns.length<=n->Et H->iM (K w.params) H a (ns.map V.int)->sp w [.ref a] H (λv _=>v=.bl true) λ_ _ _=>False)
  (z:∀(w:World) (H:Hp) (s:Shared) (e:Value) (s':Shared),CX w [] H s (λ_ _ _=>False) e s'->False):
  PySem.W.WalkO q j U L l.row.toRowW d [] (λf vs=>PySem.call f vs):=by
 refine Att.xa N y λw I m mg mb r o pm cd M a vs ns G Y ho hd Z A p i c Q=> ?_
 have J:=hY w _ Y
 obtain⟨C,R,X⟩:=F w mg r _ J G.T.g A
 exact DH J G.T.g G.T.b G.T.builtins G.T.nolimit Q p i (QAq c t) S X R (λH hO P=>B w H a ns c hO P) λH e s'=>z w H m e s'
def gP(s:Stmt):Arguments:=match s with
 |.FunctionDef _ a _ _ _ _ _ _ _ _=>a
 |_=>{posonlyargs:= [],args:= [],vararg:=none,kwonlyargs:= [],kw_defaults:= [],kwarg:=none,defaults:= []}
def eO(s:Stmt):List Stmt:=match s with
 |.FunctionDef _ _ b _ _ _ _ _ _ _=>b
 |_=> []
def aD(s:Stmt):Scope:=match s with
 |.FunctionDef _ _ _ _ _ _ a _ _ _=>a
 |_=>{kind:=.function,names:= [],isGenerator:=false,isCoroutine:=false}
abbrev d0:B9:=λ_ _ _ _ _ _=>False
abbrev E0:XK:=λ_ _ _=>False
def CY{X:Cx}:zx d0 X E0:=λ_ _ _ _ _ _ _ h=>h.elim
structure eN(K:PySem.W.Frag)(x qual:Str)(st:Stmt)(f:Addr)(fd:FuncData):Prop where
 ex:∃(oc:Value) (od:Option Addr) (kV doc pm:Value) (an:Option Addr) (cdv ct:Value) (osl:Array (Option Value)),
  fd=PySem.W.fnOf x qual (gP st) (eO st) (aD st) .none kV doc pm an cdv ct/\K.lookup f=some ⟨oc,od,.func fd,osl⟩/\PySem.W.codeIn K cdv qual=true
 kp:PySem.W.keepIn K (.ref f)=true
section
variable{P:Program}{w:World}{K:PySem.W.Frag}{mg:Str->Option Value}{base:Heap}
def eN.ok{x a:Str}{st:Stmt}{f:Addr}{e:FuncData}{N ps:List Str}{k:Nat}{sp:Sp}(F:eN K x a st f e)(S:aL N ps (aD st))(len:∀vs H Q E,sp vs H Q E->vs.length=ps.length)
  (c:∀(b:Value) (A:Around) (outer:List Env) (s:Shared) (H:Hp) (vs:List V) (Q:VK) (E:XK),eG k (A.deeper (envOfC a (aD st) s.heap.objs.size f b))->sp vs H Q E→
   ∃t,pO (wy d0 P w K mg base N a (aD st) f b A outer s H E).nox (eO st) t/\t {nx:=λ_ i=>Q .non i,rt:=Q} (start N vs) H):bC P w K mg base d0 (k+1) f e ps sp:=by
 obtain⟨p,m,kV,g,o,r,b,n,j,rfl,lk,hcd⟩:=F.ex
 refine JF lk hcd S len λA outer s H vs Q E l d=> ?_
 obtain⟨t,h,q⟩:=c b A outer s H vs Q E l d
 exact⟨t,h.nox,q⟩
def eN.binds{x a:Str}{st:Stmt}{f:Addr}{i:FuncData}{ps:List Str}(F:eN K x a st f i)
  (h:∀(kV b e:Value) (g:Option Addr) (c ct:Value) (d:List Value),d.length=ps.length->bindArgs (PySem.W.fnOf x a (gP st) (eO st) (aD st) .none kV b e g c ct) ⟨d,[]⟩=pure (ps.zip d)):Binds K i ps []:=by
 obtain⟨l,k,kV,b,e,g,c,ct,j,rfl,lk,hcd⟩:=F.ex
 exact .all (h kV b e g c ct)
def yy{x a:Str}{st:Stmt}{f:Addr}{j:Value}{i h:Option Addr}{e:Array (Option Value)}{kV d g b ct:Value}(l:K.lookup f=some ⟨j,i,.func (PySem.W.fnOf x a (gP st) (eO st) (aD st) .none kV d g h b ct),e⟩)
  (c:PySem.W.codeIn K b a=true) (k:PySem.W.keepIn K (.ref f)=true):eN K x a st f (PySem.W.fnOf x a (gP st) (eO st) (aD st) .none kV d g h b ct):=⟨⟨j,i,kV,d,g,h,b,ct,e,rfl,l,c⟩,k⟩
end
def Gh{A:Around}{k:Nat}(a:eG k A):A.units+1<cLine:=Nat.lt_of_le_of_lt (Nat.add_le_add_left (by decide:1<=64) _) a.units
def bo{n:Nat}(h:n<=1000):n<sizeLine:=Nat.lt_of_le_of_lt h (by decide)
section
variable{X:Cx}
def pv(i:Nat){x:Str}{pos:Pos}(c:X.N[i]?=some x:=by rfl)(b:F_ X.env.scope x:=by first|exact Or.inl rfl|exact Or.inr (Or.inl rfl)|exact Or.inr (Or.inr rfl))(hd:(x==("__debug__":Str))=false:=by decide)
  (a:(x==("__classdict__":Str))=false:=by decide):PE X (.Name x pos) (HE i):=CS c b hd a
end
section
variable{prog:Program}{w:World}{A:Around}{s:Shared}
def mE{q a l:Expr}{o:List Expr}{e:Scope}{pos:Pos}{it t:Value}{env:Env}{R:Result->Shared->Prop}(I:Nat->Shared->Prop)
  (y:∀n s,I n s->wpAny (model prog w) A (pyNext it) (λr b=>match r with
   |none=>R (.ok .next) b
   |some v=>wpAny (model prog w) A (letOwnedTupleGo a it v) (λ_ d=>wpAny (model prog w) A (assign a env v) (λ_ j=>
     wpAny (model prog w) A (forIn o true λc r=>if r=true then do let ok←isTrue c env (eval c env);pure (ForInStep.yield ok) else pure (ForInStep.yield r)) (λok s₃=>
      if ok=true then wpAny (model prog w) A (eval q env) (λx k=>
       wpAny (model prog w) A (call (.builtin "list.append") [t,x]) (λ_ g=>∃m,m<n/\I m g) (λ_ _=>False) k) (λ_ _=>False) s₃
      else∃m,m<n/\I m s₃) (λ_ _=>False) j) (λ_ _=>False) d) (λ_ _=>False) b) (λ_ _=>False) s)
  (n:Nat) (h:I n s):codeAny (model prog w) A (.compLoop (.ListComp q [⟨a,l,o,0⟩] e pos) 0 it t env) R s:=by
 refine codeAny_loop rfl I (λn s C=> ?_) n h
 show wpAny _ A ((compTurn (.ListComp q [⟨a,l,o,0⟩] e pos) 0 it t env).onRaise (λx=>do noteFrame x env;theTreesLotGoes x)) _ _ s
 refine wpAny_noted ?_
 rw[compTurn_list]
 refine Qaq (wpAny_standAt (Qaq (QRq (y n s C) (λr b i=> ?_) λ_ _ f=>f.elim)))
 cases r with
 |none=>exact Qgq i
 | some v=>
   refine Qaq (QRq i (λ_ d p=> ?_) λ_ _ f=>f.elim)
   refine Qaq (QRq p (λ_ j B=>Qaq (QRq B (λok s₃ h₃=> ?_) λ_ _ f=>f.elim)) λ_ _ f=>f.elim)
   cases ok with
   |false=>exact Qgq ⟨rfl,h₃⟩
   | true=>
     exact Qaq (Qaq (QRq h₃ (λx k z=>Qaq (QRq z (λ_ g u=>Qgq (Qgq ⟨rfl,u⟩)) λ_ _ f=>f.elim)) λ_ _ f=>f.elim))
end
def aY(X:Cx)(N:List Str)(a:Scope)(b:List (Str×Addr))(C:Addr)(s:Shared)(H:Hp)(fp:List Addr):Cx where
 prog:=X.prog
 w:=X.w
 K:=X.K
 mg:=X.mg
 base:=X.base
 A:=X.A
 N:=N
 s₀:=s
 H₀:=H
 env:=compEnvC a b C X.env
 outer:=X.stack
 stack:=X.stack
 ex:=fp
 fn:=λ_=>false
 calm:=X.calm
 pn:= []
 xe:=λ_ _=>False
def jo(js:List (Option Nat))(a:St):St:=js.map λo=>o.bind λj=>a.getD j none
structure bp(X:Cx)(N:List Str)(js:List (Option Nat))(scope:Scope)(cl:List (Str×Addr)):Prop where
 kind:scope.kind=.function
 nocell:∀y∈scope.names,y.2≠.cell
 names:∀y∈scope.names,y.2=.local->scope.names.lookup y.1=some .local
 clos:closureFor scope X.env=pure cl
 sub:∀x c,cl.lookup x=some c->X.env.cells.lookup x=some c
 has:∀x,((relabel scope X.env).names.lookup x=some .cell\/(relabel scope X.env).names.lookup x=some .free)->∃c,cl.lookup x=some c
 cap:∀(k j:Nat) (x:Str),js[k]?=some (some j)->N[k]?=some x->X.N[j]?=some x/\(X.env.kindOf x=some .cell\/X.env.kindOf x=some .free)/\((relabel scope X.env).names.lookup x=some .cell\/(relabel scope X.env).names.lookup x=some .free)
 len:js.length=N.length
def pB(X:Cx)(b:List Expr)(t:TT):Prop:=
 ∀ (a:List (Addr×Obj)) (s:Shared) (d:St) (H:Hp) (Q:Bool->Hp->Prop),Inv X a d H s->t d H Q→
   wpAny (model X.prog X.w) X.A (forIn b true λc r=>if r=true then do let ok←isTrue c X.env (eval c X.env);pure (ForInStep.yield ok) else pure (ForInStep.yield r)) (TP X a d Q) X.xe s
def GO{X:Cx}:pB X [] (λ_ H Q=>Q true H):=λ_ _ _ H _ I h=>wpAny_tests_nil ⟨H,I,h⟩
def HI{X:Cx}{c:Expr}{t:TT}(b:PT X c t):pB X [c] t:=λa s d H Q I h=>
 wpAny_tests_one (cP (b a s d H Q I h) λok s' h'=>h')
def IJ(J:It)(g:TG)(k:TT)(l:TE)(Q:VK)(D:Addr)(n:St)(H:Hp):Prop:=
 ∃ W:Nat->Nat->St->Hp->Prop,(∃m,W 0 m n H)/\∀i m d c,W i m d c→
   (J.stop i c/\Q (.ref D) c)\/(J.go i c/\∃h:St->Hp->Prop,(∀b e,h b e->∃j,j<m/\W (i+1) j b e)∧
     ∀ x H2,J.yld i c x H2->g x d H2 λa H3=>k a H3 λok H4=>
       if ok=true then l a H4 λy H5=>∃f,H5 D=some (.lst f)/\f.length<sizeLine/\h a (upd H5 D (.lst (f++ [y]))) else h a H4)
def Dd(js:List (Option Nat))(c:TI)(g:TG)(b:TT)(d:TE):TE:=λa H Q=>c a H λJ H1=>∀D,H1 D=none->IJ J g b d Q D (jo js a) (upd H1 D (.lst []))
def FB{X:Cx}{N:List Str}{js:List (Option Nat)}{a:Scope}{R:List (Str×Addr)}{tg P b0:Expr}{a8:List Expr}{pos:Pos}{wi:TI}{g:TG}{tt:TT}{te:TE}
  (S:bp X N js a R) (hc:X.calm=true) (hi:PI X tg P wi)
  (hg:∀C s H fp,PG (aY X N a R C s H fp) tg g) (ht:∀C s H fp,pB (aY X N a R C s H fp) a8 tt) (he:∀C s H fp,PE (aY X N a R C s H fp) b0 te)
  (hs:∀x,foldedSetIterable P X.env x=pure x:=by intro _;rfl):PE X (.ListComp b0 [⟨tg,P,a8,0⟩] a pos) (Dd js wi g tt te):=by
 intro a7 s σ H Q I h
 rw[eval_ListComp]
 refine wpAny_comprehension_free (use:=none) rfl hs S.clos S.kind S.names (cP (hi a7 s σ H _ I h) λv s1 h1=>cP h1 λd4 f h2=> ?_)
 obtain⟨it,fp,tn,J,H2,e,B,T,b3,f2,hD⟩:=h2
 subst e
 refine QhQ (wpAny_newFunctionEnv S.nocell (by intro y hy;simp at hy) (λL G t=> ?_) S.kind)
 dsimp only at G t⊢
 generalize b1:f.heap.push {cls:=.type "list",dict:=none,data:=.seq ([]:List Value).toArray}=P2 at G t⊢
 have hC:P2.objs.size=f.heap.objs.size+1:=by rw[←b1,Heap.size_push]
 have b5:f.heap.objs.size≠P2.objs.size:=by rw[hC];exact Qwq (Nat.lt_succ_self _)
 have a5:f.heap.objs.size<=P2.objs.size:=by rw[hC];exact Nat.le_succ _
 have F:∀b,b<f.heap.objs.size->b≠P2.objs.size:=λb k=>by rw[hC];exact Qwq (Nat.lt_succ_of_lt k)
 have U:∀b o,f.heap.get? b=some o->L.get? b=some o:=λb o e=>t.extBut b o (F b (Qiq e)) (Qcq _ (b1▸Qcq _ e))
 have b6:L.get? f.heap.objs.size=some {cls:=.type "list",dict:=none,data:=.seq ([]:List Value).toArray}:=t.extBut _ _ b5 (Qcq _ (b1▸Qrq _ rfl))
 have nD:H2 f.heap.objs.size=none:=B.fresh
 have nC:H2 P2.objs.size=none:=B.hok.fresh a5
 have b2:∀b∈fp,b<f.heap.objs.size:=λb k=>by
  obtain⟨o,e,_⟩:=T.obj _ _ b3 b k
  exact Qiq e
 obtain⟨W,⟨m0,w0⟩,c0⟩:=hD f.heap.objs.size nD
 have b7:(aY X N a R P2.objs.size f H2 fp).Ok:=by
  refine⟨B.ok.mod,S.kind,B.ok.glob,B.ok.blt,a5,λx y c h1 h2=>B.ok.inj x y c (S.sub x c h1) (S.sub y c h2),S.has,(λx c h=>by cases h),B.ok.hd,B.ok.frames,.inl rfl,
   λb k=>⟨F b (b2 b k),λx c h=>(f2 b k).2.2.2.2.1 x c (S.sub x c h)⟩,B.bs,QAq B.ok.bsz B.sz,λb o e k=> ?_,λb k z=> ?_,B.stack,B.stkFree⟩
  ·rcases(f2 b k).2.2.2.1 with z|z
   ·exact B.ok.noex b o e z
   ·exact absurd (Qqq (Qqq (Qiq e) B.ok.bsz) z) (Nat.lt_irrefl _)
  ·rcases Qsq.mp (B.stkSub b z) with q|q
   ·exact(f2 b k).2.1 q
   ·exact(f2 b k).2.2.1 q
 have b8:cY X.prog X.w (upd H2 f.heap.objs.size (.lst [])) L f.heap.objs.size (.lst []):=⟨Nat.zero_le _,[],0,.nil,b6⟩
 have I4:Inv (aY X N a R P2.objs.size f H2 fp) [] (jo js σ) (upd H2 f.heap.objs.size (.lst [])) {f with heap:=L,toks:=f.toks+([]:List (Str×Value)).length}:=by
  refine⟨b7,rfl,B.bare,Un.laid U (Qmq _) nD,⟨_,G,λi x v h1 h2 h3=> ?_⟩,λx c h=> ?_,by show upd H2 _ _ P2.objs.size=none;rw[bj b5.symm];exact nC,λx c h=> ?_,λp hp=>absurd (show p∈([]:List (Addr×Obj)) from hp) (by simp),B.hok.laid U (Qmq _) b8,by show(jo js σ).length=N.length;unfold jo;rw[lQm];exact S.len⟩
  ·unfold jo at h2
   rw[gQm] at h2
   cases e:js[i]? with
   |none=>rw[e] at h2;cases h2
   | some o=>
     rw[e] at h2
     cases o with
     |none=>cases h2
     | some j=>
       have a1:σ.getD j none=some v:=QdQ h2
       have hj:σ[j]?=some (some v):=by
         rw[Qlq] at a1
         cases q:σ[j]? with
         |none=>rw[q] at a1;cases a1
         |some y=>rw[q] at a1;exact congrArg some a1
       obtain⟨c1,c2,c3⟩:=S.cap i j x e h1
       obtain⟨m,hn,hl⟩:=B.loc
       have d3:F_ X.env.scope x:=by
         rcases c2 with z|z
         · exact .inr (.inl z)
         · exact .inr (.inr z)
       obtain⟨u,r,l⟩:=hl j x v c1 hj d3
       refine⟨u,r,.inr ⟨c3,?_⟩⟩
       obtain⟨c,c4⟩:=S.has x c3
       refine⟨c,c4,?_⟩
       rcases l with⟨z,_⟩|⟨_,c',e',z⟩
       · rcases c2 with y|y <;>rw[y] at z <;>cases z
       · rw[S.sub x c c4] at e'
         cases e'
         obtain⟨o,ho,hd⟩:=z
         exact⟨o,U _ _ ho,hd⟩
  ·obtain⟨v,o,ho,hd⟩:=B.cell x c (S.sub x c h)
   exact⟨v,o,U _ _ ho,hd⟩
  ·obtain⟨v,o,ho,hd⟩:=B.cell x c (S.sub x c h)
   rw[bj (Qwq (Qiq ho))]
   exact B.freeC x c (S.sub x c h)
 have a0:∀{M:List (Addr×Obj)} {Y:Hp},M= []->(∀b∈fp,Y b=none)->∀b∈fp,nX (aY X N a R P2.objs.size f H2 fp) M Y b:=λ{M Y} ep hn b k=>by
  subst ep
  refine⟨hn b k,F b (b2 b k),λz=>b7.exfs b k z,.inl k,λx c h=>(f2 b k).2.2.2.2.1 x c (S.sub x c h),λp hp=>absurd (show p∈([]:List (Addr×Obj)) from hp) (by simp)⟩
 have a6:codeAny (model X.prog X.w) X.A (.compLoop (.ListComp b0 [⟨tg,P,a8,0⟩] a pos) 0 (.ref it) (.ref f.heap.objs.size) (compEnvC a R P2.objs.size X.env))
   (compPost (model X.prog X.w) X.A X.xe none (EP X a7 σ Q) (.ref f.heap.objs.size) P2.objs.size) {f with heap:=L,toks:=f.toks+([]:List (Str×Value)).length}:=by
  refine mE (λn s'=>∃i a2 Y,Inv (aY X N a R P2.objs.size f H2 fp) [] a2 Y s'/\tn i s'.heap/\(∀b∈fp,Y b=none)/\W i n a2 Y) ?_ m0
   ⟨0,_,_,I4,T.keep _ _ _ b3 λb _ o e=>U b o e,λb k=>by rw[bj (Qwq (b2 b k))];exact(f2 b k).1,w0⟩
  rintro n s3 ⟨i,a4,H3,I3,b4,c5,w3⟩
  rcases c0 i n a4 H3 w3 with⟨stop,q⟩|⟨go,Nx,hN,c6⟩
  ·refine cP (T.done (aY X N a R P2.objs.size f H2 fp) rfl rfl rfl hc i [] s3 a4 H3 _ I3 (a0 rfl c5) b4 stop) λr s4 Z=> ?_
   obtain⟨hr,I5⟩:=Z
   subst hr
   obtain⟨m,hn,_⟩:=id I5.loc
   refine⟨m,hn,λh' a3=>⟨.ref f.heap.objs.size,H3,?_,rfl,q⟩⟩
   have u:=I5.base
   have ne:∀b o,f.heap.get? b=some o->b≠P2.objs.size:=λb o e=>F b (Qiq e)
   refine B.call' (ch:=fp) I5.os ⟨λb o e n k hx=>(a3.2 b (ne b o e)).trans (u.keep b o e n k hx),λb o e n k hx=> ?_,u.free,λb o e hx=> ?_,u.tups,u.frzs,u.tbls⟩ (λb ob e=> ?_) I5.bare λb k=>⟨(f2 b k).2.2.2.1,(f2 b k).2.1,(f2 b k).2.2.2.2.1,(f2 b k).2.2.2.2.2⟩
   ·obtain⟨sl,e1⟩:=u.slot b o e n k hx
    exact⟨sl,(a3.2 b (ne b o e)).trans e1⟩
   ·obtain⟨o',e1⟩:=u.there b o e hx
    exact⟨o',(a3.2 b (ne b o e)).trans e1⟩
   ·refine(I5.hok b ob e).stay (λc w' hc q=>(a3.2 c ?_).trans q) (λ_ q=>q) λ_ _ q=>q
    have fC:H3 P2.objs.size=none:=I5.free
    rintro rfl
    rcases hc with z|z
    ·rw[←z,fC] at e;cases e
    ·rw[fC] at z;cases z
  ·refine cP (T.item (aY X N a R P2.objs.size f H2 fp) rfl rfl rfl hc i [] s3 a4 H3 _ I3 (a0 rfl c5) b4 go) λr s4 Z=> ?_
   obtain⟨u,hr,h4⟩:=Z
   subst hr
   refine cP h4 λ_ s5 Z=> ?_
   obtain⟨x,H5,I5,r5,y5,a9,d1⟩:=Z
   have d2:=I5.pinned (a0 rfl d1) (T.obj _ _ a9)
   refine cP (hg P2.objs.size f H2 fp _ s5 a4 H5 x u _ d2 r5 (c6 x H5 y5)) λ_ s6 Z=> ?_
   obtain⟨K,H6,I6,q6⟩:=Z
   refine cP (ht P2.objs.size f H2 fp _ s6 K H6 _ I6 q6) λok s7 Z=> ?_
   obtain⟨H7,I7,q7⟩:=Z
   have again:∀{s8:Shared} {H8:Hp},Inv (aY X N a R P2.objs.size f H2 fp) ([]++l9 fp s5.heap) K H8 s8->Nx K H8->∃m,m<n/\∃i a2 Y,Inv (aY X N a R P2.objs.size f H2 fp) [] a2 Y s8/\tn i s8.heap/\(∀b∈fp,Y b=none)/\W i m a2 Y:=λ{s8 H8} I8 n8=>by
    obtain⟨m',hm,w8⟩:=hN K H8 n8
    refine⟨m',hm,i+1,K,H8,I8.unpinned,T.keep _ _ _ a9 λb k o e=>(I8.pin (b,o) (Qoq _ (Qoq _ (dm k e)))).1,λb k=> ?_,w8⟩
    obtain⟨o,e,d⟩:=T.obj _ _ a9 b k
    exact(I8.pin (b,o) (Qoq _ (Qoq _ (dm k e)))).2.1
   cases ok with
   |false=>exact again I7 q7
   | true=>
     refine cP (he P2.objs.size f H2 fp _ s7 K H7 _ I7 q7) λyv s8 Z=> ?_
     obtain⟨y,H8,I8,ry,xs,hx,hl,n8⟩:=Z
     refine cP (n_ (X:=aY X N a R P2.objs.size f H2 fp) _ s8 K H8 (.ref f.heap.objs.size) [y] (.ref f.heap.objs.size) [yv] (λ_ Y=>Nx K Y) I8 rfl (.cons ry .nil) ⟨_,xs,y,rfl,rfl,hx,hl,n8⟩) λ_ s9 Z=> ?_
     obtain⟨z,H9,I9,_,q9⟩:=Z
     exact again I9 q9
 exact codeAny_compStart_list a6 (T.self _ 0 _ _ _ (T.keep _ _ _ b3 λb _ o e=>U b o e) a6)
section
variable{X:Cx}
def C3:gL X (.builtin "isinstance") (λxs H Q=>∃x T t b,xs= [x,.ty T]/\nL X.K H x t/\PySem.W.kitOne X.K t (.type T)=some b/\Q (.bl b) H):=by
 intro a s g H xs f Q I r h
 obtain⟨x,T,t,b,rfl,ty,e,q⟩:=h
 obtain⟨u,c,rfl,rx,rt⟩:=vals2 r
 cases (show c=Value.type T from rt)
 exact A0 I rx ty e λd=>⟨.bl b,H,I.tok d,rfl,q⟩
def Gj:List V->List V->Bool
 | [],[]=>true
 |x::xs,y::ys=>nh x y&&Gj xs ys
 |_,_=>false
theorem Am:∀{xs ys:List V},xs.length≠ys.length->Gj xs ys=false
 | [],[],h=>absurd rfl h
 | [],_::_,_=>rfl
 |_::_,[],_=>rfl
 | x::xs,y::ys,h=>by
   have:=Am (xs:=xs) (ys:=ys) λe=>h (by simp[e])
   show(nh x y&&Gj xs ys)=false
   rw[this,Bool.and_false]
theorem AQ:∀{xs ys:List V},xs.length=ys.length->(List.range xs.length).all (λj=>nh (xs.getD j .non) (ys.getD j .non))=Gj xs ys
 | [],[],_=>rfl
 | [],_::_,h=>by cases h
 |_::_,[],h=>by cases h
 | x::xs,y::ys,h=>by
   have a:=AQ (xs:=xs) (ys:=ys) (Nat.succ.inj h)
   rw[Qnq,List.range_succ_eq_map,List.all_cons,List.all_map]
   show(nh x y&&_)=(nh x y&&Gj xs ys)
   rw[←a]
   rfl
def Hl{A:Around}{s:Shared}{xs ys:List V}{a vs:List Value}(r:bD xs a)(d:bD ys vs)(f:xs.all gJ=true)(f':ys.all gJ=true)(j:Nat)(m:j<a.toArray.size)(k:j<vs.toArray.size):
  SeqAt.EqAt A s a.toArray[j] vs.toArray[j] (nh (xs.getD j .non) (ys.getD j .non)):=by
 have q:=r.length
 have p:=d.length
 have c:j<xs.length:=by rw[q];simpa using m
 have b:j<ys.length:=by rw[p];simpa using k
 obtain⟨u,i,o⟩:=r.get (gQe c)
 obtain⟨v,e,g⟩:=d.get (gQe b)
 have t:xs.getD j .non=xs[j]:=by rw[Qlq,gQe c];rfl
 have n:ys.getD j .non=ys[j]:=by rw[Qlq,gQe b];rfl
 have h:a.toArray[j]=u:=by
  have:=(gQs.mp i).2
  simpa using this
 have l:vs.toArray[j]=v:=by
  have:=(gQs.mp e).2
  simpa using this
 rw[h,l,t,n]
 exact Cb o g (QUq.mp f _ (List.getElem_mem c)) (QUq.mp f' _ (List.getElem_mem b))
def KJ(K:PySem.W.Frag)(e:Bool):R2:=λx y H Q=>∃a b c d,x=.ref a/\y=.ref b/\iM K H a c/\iM K H b d/\c.all gJ=true/\d.all gJ=true/\Q (.bl (if e then !Gj c d else Gj c d)) H
def HN(o:X.A.units<cLine):jI X (compareOp .NotEq) (KJ X.K true):=by
 intro t s G H x y v u Q I F B h
 obtain⟨a,b,f,m,rfl,rfl,ha,hb,fa,fb,q⟩:=h
 cases F
 cases B
 obtain⟨d,r,p,J⟩:=I.list ha
 obtain⟨k,l,c,w⟩:=I.list hb
 by_cases g:f.length=m.length
 ·have i:d.toArray.size=k.toArray.size:=by simp[←r.length,←l.length,g]
  refine SeqAt.RcNeAt.lists (e:=λj=>nh (f.getD j .non) (m.getD j .non)) p.isList c.isList i o (λj C z=>Hl r l fa fb j C z) _ _ _ _ ⟨.bl _,H,I,rfl,?_⟩
  rw[show d.toArray.size=f.length by simp[r.length],AQ g]
  exact q
 ·refine SeqAt.RcNeAt.lists_lengths p.isList c.isList (by simpa [←r.length,←l.length] using g) o _ _ _ _ ⟨.bl _,H,I,rfl,?_⟩
  have n:Q (.bl (!Gj f m)) H:=q
  rw[Am g] at n
  exact n
end
section
variable{X:Cx}
def Cs{bs:List Bool}{a:List Value}(r:bD (bs.map V.bl) a){i:Nat}{v:Value}(h:a.toArray[i]?=some v):v=.bool (bs.getD i false):=by
 have f:i<a.length:=by
  have:=(Array.getElem?_eq_some_iff.mp h).1
  simpa using this
 have l:=r.length
 rw[lQm] at l
 have b:i<bs.length:=by omega
 obtain⟨u,e,q⟩:=r.get (i:=i) (x:=V.bl bs[i]) (by rw[gQm,gQe b];rfl)
 have c:a[i]?=some v:=by simpa using h
 rw[e] at c
 cases c
 have d:bs.getD i false=bs[i]:=by rw[Qlq,gQe b];rfl
 rw[d]
 exact q
theorem xI:∀bs:List Bool,(List.range bs.length).all (λi=>bs.getD i false)=bs.all id
 | []=>rfl
 | b::bs=>by
   rw[Qnq,List.range_succ_eq_map,List.all_cons,List.all_map,List.all_cons,←xI bs]
   rfl
def J7(K:PySem.W.Frag)(f:List Bool->Bool):List V->Hp->VK->Prop:=λc H Q=>∃a b,c= [.ref a]/\iM K H a (b.map V.bl)/\Q (.bl (f b)) H
def B1(k:X.calm=true):gL X (.builtin "all") (J7 X.K λbs=>bs.all id):=by
 intro j s y H x t Q I r h
 obtain⟨a,bs,rfl,ha,q⟩:=h
 obtain⟨u,rfl,rx⟩:=vals1 r
 cases (show u=Value.ref a from rx)
 obtain⟨c,g,d,z⟩:=I.list ha
 have m:c.toArray.size=bs.length:=by have:=g.length;simp at this;simp[this]
 have f:a<s.heap.objs.size:=by obtain⟨o,e,_⟩:=d.isList;exact Qiq e
 refine call_all_walk (wpAny_pyIter_list d.isList ⟨s.heap.objs.size,_,_,_,_,_,λi=>bs.getD i false,rfl,Walks.list (A:=X.A.in1) (show X.A.in1.handled=none from I.ok.hd k) s.heap.objs.size a (Qwq f) c.toArray,⟨⟨_,Qrq _ rfl,rfl,rfl⟩,d.isList.at λo e=>Qcq _ e⟩,?_,λh' F p=> ?_⟩)
 ·intro i v B C w n l
  rw[Cs g n]
  exact wpAny_truthy_bool l
 ·rw[m,xI]
  refine⟨.bl _,H,I.kept (h':=h') λb o e=>p b o ?_ (Qcq _ e),rfl,q⟩
  have:=Qiq e
  simp
  exact Qwq this
end
end L2
namespace Dk
open PySem
def qV:mroOf (Value.type "dict")=pure [Value.type "dict",Value.type "object"]:=by
 rw[mroOf_type]
 rfl
def pP:typeLookup (Value.type "dict") (Str.ofString "__new__")=pure (some (Value.builtin "dict.__new__")):=by
 rw[typeLookup_type,builtinLookup_eq_fast]
 rfl
def v8:isSubtype (Value.type "dict") (Value.type "dict")=pure true:=by
 rw[isSubtype_type]
 rfl
def ib:plainId "dict.__new__"=true:=by decide +kernel
def dg:TypeCalled "dict" "dict.__new__" "dict.__init__" where
 notType:=by decide +kernel
 canCreate:=by decide +kernel
 mro:=⟨_,_,qV⟩
 made:=madeBy_type qV pP (by decide +kernel)
 plain:=ib
 sub:=v8
 init:=F.slot_dict_init
def pL(a:Value):checkTypeCall "dict" {pos:= [a]}=pure ():=by rfl
def rM(a:Value):checkBuiltinCall "dict.__new__" {pos:= [Value.type "dict",a]}=pure ():=by with_unfolding_all rfl
def qS:entryFor table "dict.__new__"=some Builtin.«dict.__new__»:=by rfl
def pG{prog:Program}{w:World}{A:Around}{E:Value->Shared->Prop}{s:Shared}(a:Value){Q₁:Value->Shared->Prop}
  (h:Q₁ (.ref s.heap.objs.size) {s with heap:=s.heap.push {cls:=.type "dict",data:=.dict #[]}}):
  codeAny (model prog w) A (.call (.builtin "dict.__new__") {pos:= [.type "dict",a]}) (wants Q₁ E) s:=by
 refine codeAny_of_tree ?_
 show wpAny _ _ (do checkBuiltinCall "dict.__new__" _;_) _ _ _
 refine Qaq (wpAny_of_eq (rM a) (Qgq ⟨plainId_quiet ib _,codeAny_builtin qS ?_⟩))
 rw[Around.under_plainId ib]
 refine Qaq (Qgq (QgQ rfl (Qaq (wpAny_of_eq v8 (QgQ rfl (Qaq (wpAny_of_eq qV (QgQ ?_ ?_))))))))
 ·rfl
 ·refine Qaq ?_
  have e:newObj (.type "dict") (.dict #[])=newObjAsIs (.type "dict") (.dict #[]):=by
   unfold newObj
   simp
  rw[e]
  exact Qaq (wpAny_alloc (Qgq (Qgq h)))
def wN{prog:Program}{w:World}{A:Around}{E:Value->Shared->Prop}{s:Shared}{a:Value}{Q:Value->Shared->Prop}
  (h:wpAny (model prog w) A.in1.in1 (Builtin.«dict.__init__» {pos:= [.ref s.heap.objs.size,a]})
   (λq s'=>match q with|.done f=>wants (λr b=>r=.none/\Q (.ref s.heap.objs.size) b) E (.ok f) s'|.again u=>u.quiet=true/\codeAny (model prog w) A.in1 u (wants (λr b=>r=.none/\Q (.ref s.heap.objs.size) b) E) s')
   (λe s'=>wants (λr b=>r=.none/\Q (.ref s.heap.objs.size) b) E (.error e) s') {s with heap:=s.heap.push {cls:=.type "dict",data:=.dict #[]}}):
  wpAny (model prog w) A (call (.type "dict") [a]) Q E s:=by
 obtain⟨c,B,j⟩:=dg.mro
 have i:=dg.made
 have k:=dg.sub
 refine wpAny_call (codeAny_of_tree ?_)
 refine Qgq ⟨Code.quiet_builtin _ (by decide +kernel),codeAny_builtin F.entry_type_call ?_⟩
 rw[Around.under_plain (weight_type_call_type "dict" [a] []) rfl]
 have C:=dg.notType
 have z:=dg.canCreate
 have p:=pL a
 unfold Builtin.«type.__call__»
 dsimp only
 refine QgQ rfl ?_
 refine QgQ (by rw[z];rfl) ?_
 refine Qaq (wpAny_of_eq p (Qaq (wpAny_of_eq j (QgQ rfl (Qaq (wpAny_of_eq i (Qaq (Qgq (Qaq (QLq (wpAny_call (codeAny_mono (pG (E:=E) (Q₁:=λv d=>v=.ref s.heap.objs.size/\d={s with heap:=s.heap.push {cls:=.type "dict",data:=.dict #[]}}) a ⟨rfl,rfl⟩) λr d g=> ?_))))))))))))
 cases r with
 |error e=>exact g
 | ok n=>
   cases n with
   | ret x=>
     obtain⟨rfl,rfl⟩:=g
     have y:=Qrq s.heap (o:={cls:=.type "dict",data:=.dict #[]}) rfl
     have t:Shared.TypeIs {s with heap:=s.heap.push {cls:=.type "dict",data:=.dict #[]}} (.ref s.heap.objs.size) "dict":=⟨_,y,rfl⟩
     have l:=dg.init.lookup
     have m:=dg.init.bind (.ref s.heap.objs.size)
     refine Qaq (wpAny_isInstance t k (QgQ rfl (Qaq (QLq ?_))))
     unfold callSpecial?
     refine Qaq (wpAny_specialOf t l (QLq (Qaq (wpAny_of_eq m (Qaq (wpAny_call (codeAny_mono (codeAny_call_builtin dg.init.plain F.entry_dict_init (dg.init.check _ _ _ _ _ [a] [] _ t (F.args_dict_init_2 _ _) h)) λr b g=> ?_)))))))
     cases r with
     |error e=>exact g
     | ok n=>
       cases n with
       | ret v=>
         obtain⟨rfl,hq⟩:=g
         exact Qgq (QgQ rfl (Qgq hq))
       |_=>exact g.elim
   |_=>exact g.elim
def jN:entryFor table "dict.update.loop"=some Builtin.«dict.update.loop»:=by rfl
def gG:plainId "dict.update.loop"=true:=by decide +kernel
section
variable{prog:Program}{w:World}{K:Type}[DecidableEq K]{knd:KeyKind prog w K}
def y4(kvs:List (K×Value))(k:K)(v:Value):(stored kvs k v).length<=kvs.length+1:=by
 unfold stored
 split
 ·rw[lQm];omega
 ·rw[lQa];simp
def G9(a:Nat->K)(b:Nat->Value):Nat->List (K×Value)
 |0=> []
 |i+1=>stored (G9 a b i) (a i) (b i)
theorem zK(a:Nat->K)(b:Nat->Value):∀i,(G9 a b i).length<=i
 |0=>Qmq _
 |i+1=>QAq (y4 _ _ _) (Nat.succ_le_succ (zK a b i))
end
end Dk
namespace L2
open PySem PySem.Spec PyProof.Rows
section
variable{X:Cx}
def key_is{k:Key}{u:Value}(r:RelV (kV k) u)(P:Program)(w:World):(bN P w).is k u=true:=by
 cases k with
 |inl i=>obtain⟨t,rfl⟩:=(show∃t,u=Value.int i t from r);simp[bN,oZ,Value.isInt]
 |inr x=>obtain⟨t,rfl⟩:=(show∃t,u=Value.str x t from r);simp[bN,oZ,Value.isStrOf]
end
end L2
namespace Dk
open PySem
end Dk
namespace L2
open PySem PySem.Spec PyProof.Rows
def EZ{X:Cx}{N:List Str}{js:List (Option Nat)}{a:Scope}{U:List (Str×Addr)}{tg P a6 G:Expr}{a5:List Expr}{pos b0:Pos}{wi:TI}{g gt:TG}{tt:TT}{te:TE}
  (S:bp X N js a U) (hc:X.calm=true) (hi:PI X tg P wi)
  (hg:∀C s H fp,PG (aY X N a U C s H fp) tg g) (ht:∀C s H fp,pB (aY X N a U C s H fp) a5 tt) (he:∀C s H fp,PE (aY X N a U C s H fp) a6 te) (d4:PG X G gt)
  (hs:∀x,foldedSetIterable P X.env x=pure x:=by intro _;rfl) (d9:swapsWithSole [G] (.ListComp a6 [⟨tg,P,a5,0⟩] a pos) b0.line X.env=pure true:=by rfl)
  (h1:(assignEach [G] X.env).map (·.2)= [assign G X.env]:=by rfl):PS X (.Assign [G] (.ListComp a6 [⟨tg,P,a5,0⟩] a pos) b0) (BS (Dd js wi g tt te) gt):=by
 intro Y s σ H Dn I h
 rw[exec_Assign_arm]
 refine Qaq (wpAny_standAt (Qaq (wpAny_of_eq d9 (wpAny_ite_true rfl (Qaq ?_)))))
 rw[h1]
 show wpAny _ _ (do let _←comprehension _ _ _ _ _ _ _ (some λv=>assignAll v [assign G X.env]);pure ()) _ _ _
 refine Qaq ?_
 refine wpAny_comprehension_free (use:=some λv=>assignAll v [assign G X.env]) rfl hs S.clos S.kind S.names (cP (hi Y s σ H _ I h) λv s1 h1=>cP h1 λe3 k h2=> ?_)
 obtain⟨it,fp,tn,J,H2,e,B,T,b4,f2,hD⟩:=h2
 subst e
 refine QhQ (wpAny_newFunctionEnv S.nocell (by intro y hy;simp at hy) (λM L t=> ?_) S.kind)
 dsimp only at L t⊢
 generalize b2:k.heap.push {cls:=.type "list",dict:=none,data:=.seq ([]:List Value).toArray}=P2 at L t⊢
 have hC:P2.objs.size=k.heap.objs.size+1:=by rw[←b2,Heap.size_push]
 have b7:k.heap.objs.size≠P2.objs.size:=by rw[hC];exact Qwq (Nat.lt_succ_self _)
 have a3:k.heap.objs.size<=P2.objs.size:=by rw[hC];exact Nat.le_succ _
 have K:∀b,b<k.heap.objs.size->b≠P2.objs.size:=λb f=>by rw[hC];exact Qwq (Nat.lt_succ_of_lt f)
 have Z:∀b o,k.heap.get? b=some o->M.get? b=some o:=λb o e=>t.extBut b o (K b (Qiq e)) (Qcq _ (b2▸Qcq _ e))
 have b8:M.get? k.heap.objs.size=some {cls:=.type "list",dict:=none,data:=.seq ([]:List Value).toArray}:=t.extBut _ _ b7 (Qcq _ (b2▸Qrq _ rfl))
 have nD:H2 k.heap.objs.size=none:=B.fresh
 have nC:H2 P2.objs.size=none:=B.hok.fresh a3
 have b3:∀b∈fp,b<k.heap.objs.size:=λb f=>by
  obtain⟨o,e,_⟩:=T.obj _ _ b4 b f
  exact Qiq e
 obtain⟨W,⟨m0,w0⟩,c5⟩:=hD k.heap.objs.size nD
 have c0:(aY X N a U P2.objs.size k H2 fp).Ok:=by
  refine⟨B.ok.mod,S.kind,B.ok.glob,B.ok.blt,a3,λx y c h1 h2=>B.ok.inj x y c (S.sub x c h1) (S.sub y c h2),S.has,(λx c h=>by cases h),B.ok.hd,B.ok.frames,.inl rfl,
   λb f=>⟨K b (b3 b f),λx c h=>(f2 b f).2.2.2.2.1 x c (S.sub x c h)⟩,B.bs,QAq B.ok.bsz B.sz,λb o e f=> ?_,λb f z=> ?_,B.stack,B.stkFree⟩
  ·rcases(f2 b f).2.2.2.1 with z|z
   ·exact B.ok.noex b o e z
   ·exact absurd (Qqq (Qqq (Qiq e) B.ok.bsz) z) (Nat.lt_irrefl _)
  ·rcases Qsq.mp (B.stkSub b z) with q|q
   ·exact(f2 b f).2.1 q
   ·exact(f2 b f).2.2.1 q
 have c4:cY X.prog X.w (upd H2 k.heap.objs.size (.lst [])) M k.heap.objs.size (.lst []):=⟨Nat.zero_le _,[],0,.nil,b8⟩
 have I4:Inv (aY X N a U P2.objs.size k H2 fp) [] (jo js σ) (upd H2 k.heap.objs.size (.lst [])) {k with heap:=M,toks:=k.toks+([]:List (Str×Value)).length}:=by
  refine⟨c0,rfl,B.bare,Un.laid Z (Qmq _) nD,⟨_,L,λi x v h1 h2 h3=> ?_⟩,λx c h=> ?_,by show upd H2 _ _ P2.objs.size=none;rw[bj b7.symm];exact nC,λx c h=> ?_,λp hp=>absurd (show p∈([]:List (Addr×Obj)) from hp) (by simp),B.hok.laid Z (Qmq _) c4,by show(jo js σ).length=N.length;unfold jo;rw[lQm];exact S.len⟩
  ·unfold jo at h2
   rw[gQm] at h2
   cases e:js[i]? with
   |none=>rw[e] at h2;cases h2
   | some o=>
     rw[e] at h2
     cases o with
     |none=>cases h2
     | some j=>
       have a2:σ.getD j none=some v:=QdQ h2
       have hj:σ[j]?=some (some v):=by
         rw[Qlq] at a2
         cases q:σ[j]? with
         |none=>rw[q] at a2;cases a2
         |some y=>rw[q] at a2;exact congrArg some a2
       obtain⟨c1,c2,c3⟩:=S.cap i j x e h1
       obtain⟨m,hn,hl⟩:=B.loc
       have d7:F_ X.env.scope x:=by
         rcases c2 with z|z
         · exact .inr (.inl z)
         · exact .inr (.inr z)
       obtain⟨u,r,l⟩:=hl j x v c1 hj d7
       refine⟨u,r,.inr ⟨c3,?_⟩⟩
       obtain⟨c,c6⟩:=S.has x c3
       refine⟨c,c6,?_⟩
       rcases l with⟨z,_⟩|⟨_,c',e',z⟩
       · rcases c2 with y|y <;>rw[y] at z <;>cases z
       · rw[S.sub x c c6] at e'
         cases e'
         obtain⟨o,ho,hd⟩:=z
         exact⟨o,Z _ _ ho,hd⟩
  ·obtain⟨v,o,ho,hd⟩:=B.cell x c (S.sub x c h)
   exact⟨v,o,Z _ _ ho,hd⟩
  ·obtain⟨v,o,ho,hd⟩:=B.cell x c (S.sub x c h)
   rw[bj (Qwq (Qiq ho))]
   exact B.freeC x c (S.sub x c h)
 have a1:∀{Q:List (Addr×Obj)} {H':Hp},Q= []->(∀b∈fp,H' b=none)->∀b∈fp,nX (aY X N a U P2.objs.size k H2 fp) Q H' b:=λ{Q H'} ep hn b f=>by
  subst ep
  refine⟨hn b f,K b (b3 b f),λz=>c0.exfs b f z,.inl f,λx c h=>(f2 b f).2.2.2.2.1 x c (S.sub x c h),λp hp=>absurd (show p∈([]:List (Addr×Obj)) from hp) (by simp)⟩
 have a9:codeAny (model X.prog X.w) X.A (.compLoop (.ListComp a6 [⟨tg,P,a5,0⟩] a pos) 0 (.ref it) (.ref k.heap.objs.size) (compEnvC a U P2.objs.size X.env))
   (compPost (model X.prog X.w) X.A X.xe (some λv=>assignAll v [assign G X.env]) (λ_ s9=>wpAny (model X.prog X.w) X.A (pure ()) (λ_ e2=>wpAny (model X.prog X.w) X.A (pure Flow.next) (SP X Y Dn) X.xe e2) X.xe s9) (.ref k.heap.objs.size) P2.objs.size) {k with heap:=M,toks:=k.toks+([]:List (Str×Value)).length}:=by
  refine mE (λn s'=>∃i a4 H',Inv (aY X N a U P2.objs.size k H2 fp) [] a4 H' s'/\tn i s'.heap/\(∀b∈fp,H' b=none)/\W i n a4 H') ?_ m0
   ⟨0,_,_,I4,T.keep _ _ _ b4 λb _ o e=>Z b o e,λb f=>by rw[bj (Qwq (b3 b f))];exact(f2 b f).1,w0⟩
  rintro n s3 ⟨i,a8,H3,I3,b6,d1,w3⟩
  rcases c5 i n a8 H3 w3 with⟨stop,q⟩|⟨go,Nx,hN,d2⟩
  ·refine cP (T.done (aY X N a U P2.objs.size k H2 fp) rfl rfl rfl hc i [] s3 a8 H3 _ I3 (a1 rfl d1) b6 stop) λr s4 R=> ?_
   obtain⟨hr,I5⟩:=R
   subst hr
   obtain⟨m,hn,_⟩:=id I5.loc
   have e0:∀h',Heap.SameBut P2.objs.size s4.heap h'->Inv X Y σ H3 {s4 with heap:=h'}:=by
    intro h' a0
    have u:=I5.base
    have ne:∀b o,k.heap.get? b=some o->b≠P2.objs.size:=λb o e=>K b (Qiq e)
    refine B.call' (ch:=fp) I5.os ⟨λb o e n f hx=>(a0.2 b (ne b o e)).trans (u.keep b o e n f hx),λb o e n f hx=> ?_,u.free,λb o e hx=> ?_,u.tups,u.frzs,u.tbls⟩ (λb ob e=> ?_) I5.bare λb f=>⟨(f2 b f).2.2.2.1,(f2 b f).2.1,(f2 b f).2.2.2.2.1,(f2 b f).2.2.2.2.2⟩
    ·obtain⟨sl,e1⟩:=u.slot b o e n f hx
     exact⟨sl,(a0.2 b (ne b o e)).trans e1⟩
    ·obtain⟨o',e1⟩:=u.there b o e hx
     exact⟨o',(a0.2 b (ne b o e)).trans e1⟩
    ·refine(I5.hok b ob e).stay (λc w' hc q=>(a0.2 c ?_).trans q) (λ_ q=>q) λ_ _ q=>q
     have fC:H3 P2.objs.size=none:=I5.free
     rintro rfl
     rcases hc with z|z
     ·rw[←z,fC] at e;cases e
     ·rw[fC] at z;cases z
   have IX:=e0 s4.heap ⟨rfl,λ_ _=>rfl⟩
   have a7:nX X Y H3 P2.objs.size:=B.fpOk a3 I5.free
   obtain⟨oC,es,ep,b5,d3,d8⟩:=hn
   have IP:=IX.pinned (fp:= [P2.objs.size]) (λb f=>by rw[Qfq] at f;rw[f];exact a7) (λb f=>by rw[Qfq] at f;rw[f];exact⟨oC,b5,λv=>by rw[d3];simp⟩)
   show wpAny _ _ (assignAll (.ref k.heap.objs.size) [assign G X.env]) _ _ _
   rw[assignAll.eq_2]
   refine cP (d4 _ s4 σ H3 (.ref k.heap.objs.size) (.ref k.heap.objs.size) _ IP rfl q) λ_ s6 R=> ?_
   obtain⟨F,H6,I6,q6⟩:=R
   have pC:=I6.pin (P2.objs.size,oC) (Qoq _ (Qoq _ (dm (Qfq.mpr rfl) b5)))
   refine⟨m,⟨oC,es,ep,pC.1,d3,d8⟩,λh' a0=>Qgq (Qgq ⟨F,H6,?_,q6⟩)⟩
   exact I6.unpinned.turned (it:=P2.objs.size) (t':=s6.toks) (λb o' f e=>(a0.2 b f).trans e) pC.2.1 pC.2.2.1 a7.2.2.2.1 a7.2.2.2.2.1 a7.2.2.2.2.2
  ·refine cP (T.item (aY X N a U P2.objs.size k H2 fp) rfl rfl rfl hc i [] s3 a8 H3 _ I3 (a1 rfl d1) b6 go) λr s4 R=> ?_
   obtain⟨u,hr,h4⟩:=R
   subst hr
   refine cP h4 λ_ s5 R=> ?_
   obtain⟨x,H5,I5,r5,y5,b1,d5⟩:=R
   have d6:=I5.pinned (a1 rfl d5) (T.obj _ _ b1)
   refine cP (hg P2.objs.size k H2 fp _ s5 a8 H5 x u _ d6 r5 (d2 x H5 y5)) λ_ s6 R=> ?_
   obtain⟨F,H6,I6,q6⟩:=R
   refine cP (ht P2.objs.size k H2 fp _ s6 F H6 _ I6 q6) λok s7 R=> ?_
   obtain⟨H7,I7,q7⟩:=R
   have again:∀{s8:Shared} {H8:Hp},Inv (aY X N a U P2.objs.size k H2 fp) ([]++l9 fp s5.heap) F H8 s8->Nx F H8->∃m,m<n/\∃i a4 H',Inv (aY X N a U P2.objs.size k H2 fp) [] a4 H' s8/\tn i s8.heap/\(∀b∈fp,H' b=none)/\W i m a4 H':=λ{s8 H8} I8 n8=>by
    obtain⟨m',hm,w8⟩:=hN F H8 n8
    refine⟨m',hm,i+1,F,H8,I8.unpinned,T.keep _ _ _ b1 λb f o e=>(I8.pin (b,o) (Qoq _ (Qoq _ (dm f e)))).1,λb f=> ?_,w8⟩
    obtain⟨o,e,d⟩:=T.obj _ _ b1 b f
    exact(I8.pin (b,o) (Qoq _ (Qoq _ (dm f e)))).2.1
   cases ok with
   |false=>exact again I7 q7
   | true=>
     refine cP (he P2.objs.size k H2 fp _ s7 F H7 _ I7 q7) λyv s8 R=> ?_
     obtain⟨y,H8,I8,ry,xs,hx,hl,n8⟩:=R
     refine cP (n_ (X:=aY X N a U P2.objs.size k H2 fp) _ s8 F H8 (.ref k.heap.objs.size) [y] (.ref k.heap.objs.size) [yv] (λ_ H'=>Nx F H') I8 rfl (.cons ry .nil) ⟨_,xs,y,rfl,rfl,hx,hl,n8⟩) λ_ s9 R=> ?_
     obtain⟨z,H9,I9,_,q9⟩:=R
     exact again I9 q9
 exact codeAny_compStart_list a9 (T.self _ 0 _ _ _ (T.keep _ _ _ b4 λb _ o e=>Z b o e) a9)
end L2
namespace Dk
open PySem
end Dk
namespace L2
open PySem PySem.Spec PyProof.Rows
end L2
namespace Zp
open PySem
section
variable{prog:Program}{w:World}{A:Around}{E:Value->Shared->Prop}{s:Shared}
def IH{i t:Addr}{k:Nat}{vs:Array Value}{v:Value}{Q:Value->Shared->Prop}(c:s.heap.IsTupleIter i t k)(g:s.heap.IsTuple t vs)(e:vs[k]?=some v)
  (q:∀h',h'.IsTupleIter i t (k+1)->Heap.SameBut i s.heap h'->Q v {s with heap:=h'}):wpAny (model prog w) A (Builtin.SmallTypes.nextOf (.ref i)) Q E s:=by
 obtain⟨j,b,d,a⟩:=id c
 obtain⟨l,h,_,m,f⟩:=g
 unfold Builtin.SmallTypes.nextOf
 refine Qaq (QiQ (name:=Str.ofString "__next__") c.typeIs F.slot_tuple_iterator_next (wpAny_call_entry F.slot_tuple_iterator_next c.typeIs F.entry_tuple_iterator_next ?_ (F.args_tuple_iterator_next_1 _)))
 refine(?_:wpAny _ _ (field (.ref i) 0 >>= _) _ _ s)
 refine Qaq (QMq b a (x:=.ref t) rfl ?_)
 refine(?_:wpAny _ _ (if (Value.ref t==Value.none)=true then _ else _) _ _ s)
 rw[Quq (λz=>by cases (show false=true from z))]
 refine(?_:wpAny _ _ (field (.ref i) 1 >>= _) _ _ s)
 refine Qaq (QMq b a (x:=.int k 0) rfl ?_)
 refine(?_:wpAny _ _ (seqItems? (.ref t) >>= _) _ _ s)
 refine Qaq (wpAny_seqItems h f ?_)
 simp only[Int.toNat_natCast,e]
 refine Qaq (wpAny_setField b a (by simp) (Qgq ⟨v,rfl,Qgq (q _ ⟨_,Heap.get?_update_self _ b (Obj.isFreed_of_fields (Obj.data_mapFields a _)),(Obj.cls_mapFields ..).trans d,?_⟩ (Heap.SameBut.update ..))⟩))
 rw[Obj.data_mapFields a]
 simp[rawInt]
def JB{i t:Addr}{k:Nat}{vs:Array Value}{Q:Value->Shared->Prop}(f:A.handled=none)(c:s.heap.IsTupleIter i t k)(j:s.heap.IsTuple t vs)(g:vs[k]?=none)
  (q:∀h' e,Heap.ExtBut i s.heap h'->(∃o,h'.get? e=some o/\o.cls=.type "StopIteration")->E (.ref e) {s with heap:=h'}):wpAny (model prog w) A (Builtin.SmallTypes.nextOf (.ref i)) Q E s:=by
 obtain⟨p,b,n,d⟩:=id c
 obtain⟨r,l,_,u,h⟩:=j
 unfold Builtin.SmallTypes.nextOf
 refine Qaq (QiQ (name:=Str.ofString "__next__") c.typeIs F.slot_tuple_iterator_next (wpAny_call_entry F.slot_tuple_iterator_next c.typeIs F.entry_tuple_iterator_next ?_ (F.args_tuple_iterator_next_1 _)))
 refine(?_:wpAny _ _ (field (.ref i) 0 >>= _) _ _ s)
 refine Qaq (QMq b d (x:=.ref t) rfl ?_)
 refine(?_:wpAny _ _ (if (Value.ref t==Value.none)=true then _ else _) _ _ s)
 rw[Quq (λz=>by cases (show false=true from z))]
 refine(?_:wpAny _ _ (field (.ref i) 1 >>= _) _ _ s)
 refine Qaq (QMq b d (x:=.int k 0) rfl ?_)
 refine(?_:wpAny _ _ (seqItems? (.ref t) >>= _) _ _ s)
 refine Qaq (wpAny_seqItems l h ?_)
 simp only[Int.toNat_natCast,g]
 refine Qaq (wpAny_rule (Qaq (wpAny_setField b d (by simp) ?_)))
 refine(?_:wpAny _ _ (newExc (.type "StopIteration") [] >>= _) _ _ _)
 refine Qaq ?_
 simp only[newExc,newTuple]
 refine Qaq (QhQ ?_ (by size_fits))
 refine Qaq (m:=firstArgMember _ _) (wpAny_of_eq (a:=Value.none) (by first|rfl|(simp only[firstArgMember];rfl)) (QhQ ?_ (by size_fits)))
 simp only[raiseNew]
 refine Qaq (wpAny_handled ?_)
 first|rw[show A.in1.handled=none from f]|rw[f]
 exact Qaq (Qgq (wpAny_throw (q _ _ (((Heap.SameBut.update ..).extBut.push _).push _) ⟨_,Qrq _ rfl,rfl⟩)))
end
def Rest(z O i j:Addr)(h h':Heap):Prop:=∀c o,c≠z->c≠O->c≠i->c≠j->h.get? c=some o->h'.get? c=some o
end Zp
namespace L2
open PySem PySem.Spec PyProof.Rows
section
variable{X:Cx}{pins:List (Addr×Obj)}{σ:St}{H:Hp}{s:Shared}{h':Heap}
def Inv.turnedL{t':Nat}{fp:List Addr}(I:Inv X pins σ H s)(d:∀b∈fp,nX X pins H b)(k:∀b o,b∉fp->s.heap.get? b=some o->h'.get? b=some o):Inv X pins σ H {s with heap:=h',toks:=t'}:=by
 have f:∀b u,H b=some u->b∉fp:=λb u e z=>by rw[(d b z).1] at e;cases e
 refine I.step (g':=s.gens) (d':=s.drawn) (ch:=fp) (λb g=>⟨(d b g).2.2.2.1,(d b g).2.1,(d b g).2.2.2.2.1,(d b g).2.2.2.2.2⟩) (λb o _ _ a e _=>k b o a e) (λb o _ _ a e _=>⟨o.slots,k b o a e⟩) (λ_ _ _ _ n=>n)
  (λb o a e=>⟨o,k b o a e⟩) (λ_ _ e=>e) (λ_ _ _ e=>e) (λb p e=>⟨#[],by rw[e];simp⟩) (λm l=> ?_) (λb u e=> ?_) I.bare
 ·obtain⟨o,h,j,i,r⟩:=l
  exact⟨o,h,j,k _ o (λz=>(d _ z).2.1 rfl) i,r⟩
 ·refine(I.hok b u e).stay (λc v a q=>k c v ?_ q) (λ_ q=>q) λ_ _ q=>q
  rcases a with z|z
  ·rw[z];exact f b u e
  ·exact f c _ z
def Inv.turnedNew{t':Nat}{fp:List Addr}{p:Addr}{o:HO}(I:Inv X pins σ H s)(f:∀b∈fp,nX X pins H b)(k:∀b u,b∉fp->s.heap.get? b=some u->h'.get? b=some u)(i:s.heap.objs.size<=p)
  (new:cY X.prog X.w (upd H p o) h' p o):Inv X pins σ (upd H p o) {s with heap:=h',toks:=t'}:=by
 have j:=I.hok.fresh i
 have g:∀b u,H b=some u->b∉fp:=λb u e z=>by rw[(f b z).1] at e;cases e
 have h:∀b u,H b=some u->upd H p o b=some u:=λb u e=>by rw[bj (eX e j)];exact e
 refine I.step (g':=s.gens) (d':=s.drawn) (ch:=fp) (λb d=>⟨(f b d).2.2.2.1,(f b d).2.1,(f b d).2.2.2.2.1,(f b d).2.2.2.2.2⟩) (λb o _ _ a e _=>k b o a e) (λb o _ _ a e _=>⟨o.slots,k b o a e⟩)
  (λb u _ e n=>by rw[bj (λz=>Nat.lt_irrefl _ (Qqq (Qiq e) (by rw[z];exact i)))];exact n)
  (λb o a e=>⟨o,k b o a e⟩) (λb B e=>h b _ e) (λb u v e=>h b _ e) (λb A e=>⟨#[],by rw[h b _ e];simp⟩) (λm y=> ?_) (λb u e=> ?_) I.bare
 ·obtain⟨o,l,x,t,r⟩:=y
  exact⟨o,l,x,k _ o (λz=>(f _ z).2.1 rfl) t,r⟩
 ·by_cases d:b=p
  ·subst d
   rw[bQ] at e
   cases e
   exact new
  ·rw[bj d] at e
   refine(I.hok b u e).stay (λc v a q=>k c v ?_ q) (λc q=>h c _ q) λc _ q=>h c _ q
   rcases a with z|z
   ·rw[z];exact g b u e
   ·exact g c _ z
end
end L2
namespace Zp
open PySem PySem.W PyProof.Rows
def oF:KasT (Array Nat)->List (Array Nat)
 |.ret p=> [p]
 |.ask _ _ k=>oF (k true)++oF (k false)
def ql(n:Nat):KasT (Array Nat)->Bool
 |.ret _=>true
 |.ask i j k=>decide (i<n)&&decide (j<n)&&decide (i≠j)&&ql n (k true)&&ql n (k false)
def pQ:∀n:Nat,n<=3->2<=n->ql n (kas_sort n)=true/\(oF (kas_sort n)).all (λp=>p.toList.isPerm (List.range n))=true:=by
 intro n b a
 have:n=2\/n=3:=by omega
 rcases this with rfl|rfl
 ·decide +kernel
 ·decide +kernel
inductive eh(h:Heap):List Value->List Str->Prop
 |nil:eh h [] []
 |cons {a:Addr} {o:Obj} {xs:Array Value} {n:Nat} {x:Str} {t:Tok} {vs:List Value} {fs:List Str}:h.get? a=some o->o.cls=.type "tuple" ->o.data=.seq xs n->xs[0]?=some (.str x t)->eh h vs fs->eh h (.ref a::vs) (x::fs)
theorem eh.keep{h h':Heap}(k:∀a o,h.get? a=some o->o.cls=.type "tuple" ->h'.get? a=some o):∀{vs:List Value} {fs:List Str},eh h vs fs->eh h' vs fs
 |_,_,.nil=>.nil
 |_,_,.cons e c d f r=>.cons (k _ _ e c) c d f (r.keep k)
theorem eh.len{h:Heap}:∀{vs:List Value} {fs:List Str},eh h vs fs->vs.length=fs.length
 |_,_,.nil=>rfl
 |_,_,.cons _ _ _ _ r=>congrArg (·+1) r.len
theorem eh.get{h:Heap}:∀{vs:List Value} {fs:List Str} {i:Nat},eh h vs fs->i<fs.length->∃a o xs n t,vs.getD i Value.none=.ref a/\h.get? a=some o/\o.data=.seq xs n/\xs[0]?=some (.str (fs.getD i "") t)
 |_,_,0,.cons e c d f r,_=>⟨_,_,_,_,_,rfl,e,d,f⟩
 | _,_,i+1,.cons e c d f r,hi=>by
   have:=r.get (i:=i) (by simpa using hi)
   simpa using this
 |_,_,_,.nil,hi=>by simp at hi
theorem eh.firsts{h:Heap}:∀{vs:List Value} {fs:List Str},eh h vs fs->∃a:List Value,KatTups h vs a/\a.length=fs.length/\∀v∈a,∃x t,v=.str x t
 |_,_,.nil=>⟨[],KatTups.nil,rfl,by simp⟩
 | _,_,.cons e c d f r=>by
   obtain⟨a,k,l,m⟩:=r.firsts
   exact⟨_::a,KatTups.cons e c d f k,by simp[l],λv b=>by
     rcases Qsq.mp b with z|z
     · exact⟨_,_,z⟩
     · exact m v z⟩
end Zp
namespace L2
open PySem PySem.Spec PyProof.Rows
mutual
inductive pH(N:Addr->Prop)(H:Hp):PyData->V->Prop
 |non:pH N H .none .non
 |bl (b:Bool):pH N H (.bool b) (.bl b)
 |int (i:Int):pH N H (.int i) (.int i)
 |str (x:Str):pH N H (.str x) (.str x)
 |tup {a:Addr} {us:List V} {xs:List PyData}:H a=some (.tup us)->qQ N H xs us->pH N H (.tuple xs) (.ref a)
 |lst {a:Addr} {us:List V} {xs:List PyData}:H a=some (.lst us)->N a->qQ N H xs us->pH N H (.list xs) (.ref a)
 |dct {a:Addr}:H a=some (.dK [])->pH N H (.dict []) (.ref a)
inductive qQ(N:Addr->Prop)(H:Hp):List PyData->List V->Prop
 |nil:qQ N H [] []
 |cons {x:PyData} {u:V} {xs:List PyData} {us:List V}:pH N H x u->qQ N H xs us->qQ N H (x::xs) (u::us)
end
section
variable{X:Cx}
mutual
theorem kg{g:List (Addr×Obj)}{B:St}{H:Hp}{s:Shared}{N:Addr->Prop}(I:Inv X g B H s)(l:∀a,N a->a≠sysModules):∀{d:PyData} {v:V} {u:Value},pH N H d v->RelV v u->∃as,Reads s.heap u d as/\sysModules∉as
 |_,_,_,.non,r=>by cases r;exact⟨_,.none,by simp⟩
 |_,_,_,.bl b,r=>by cases r;exact⟨_,.bool b,by simp⟩
 |_,_,_,.int i,r=>by obtain⟨t,rfl⟩:=r;exact⟨_,.int i t,by simp⟩
 |_,_,_,.str x,r=>by obtain⟨t,rfl⟩:=r;exact⟨_,.str x t,by simp⟩
 | _,_,_,.tup (a:=a) h hs,r=>by
   cases r
   obtain⟨m,p,⟨o,f,c,n,q⟩,C⟩:=I.tuple (ic.of h)
   obtain⟨as,j,k⟩:=nT I l hs p
   exact⟨as,.tuple f c q (by simpa using j),k⟩
 | _,_,_,.lst (a:=a) h n hs,r=>by
   cases r
   obtain⟨m,p,J,C⟩:=I.list (iM.of h)
   obtain⟨o,f,c,M,q⟩:=J.isList
   obtain⟨as,j,k⟩:=nT I l hs p
   exact⟨_,.list f c q (by simpa using j),by rw[Qsq];exact λe=>e.elim (λe=>l _ n e.symm) k⟩
 | _,_,_,.dct (a:=a) h,r=>by
   cases r
   obtain⟨_,w,L,K,G⟩:=xt I.hok h
   cases K
   obtain⟨o,A,P,f,F,c,_,z,_⟩:=G
   have y:A.toList= []:=List.eq_nil_of_length_eq_zero z.length
   exact⟨_,.dict (as:= []) (bs:= []) (kvs:= []) f F.1 c (by rw[y];exact .nil) (by rw[y];exact .nil),by
     simp
     intro e
     rw[e] at w
     simp at w⟩
theorem nT{b:List (Addr×Obj)}{j:St}{H:Hp}{s:Shared}{N:Addr->Prop}(I:Inv X b j H s)(d:∀a,N a->a≠sysModules):∀{xs:List PyData} {c:List V} {vs:List Value},qQ N H xs c->bD c vs->∃as,ReadsAll s.heap vs xs as/\sysModules∉as
 |_,_,_,.nil,r=>by cases r;exact⟨_,.nil,by simp⟩
 | _,_,_,.cons h hs,r=>by
   cases r with
   | cons r g=>
     obtain⟨as,f,i⟩:=kg I d h r
     obtain⟨m,l,k⟩:=nT I d hs g
     exact⟨_,.cons f l,by rw[mQa];exact λe=>e.elim i k⟩
end
end
section
variable{X:Cx}
def FX:jI X (binaryOp .Mult) (rI IntMulOk λi j=>.int (i*j)):=Ki λ_ _ _ _ _ _ _ a q=>mul_int q a
inductive tX(H:Hp):List Addr->List Str->Prop
 |nil:tX H [] []
 |cons {a:Addr} {x:Str} {us:List V} {rs:List Addr} {ss:List Str}:H a=some (.tup (.str x::us))->tX H rs ss->tX H (a::rs) (x::ss)
theorem xS{b:List (Addr×Obj)}{i:St}{H:Hp}{s:Shared}(I:Inv X b i H s):∀{c:List Addr} {d:List Str},tX H c d->Zp.eh s.heap (c.map Value.ref) d
 |_,_,.nil=>.nil
 | _,_,.cons (a:=a) h r=>by
   obtain⟨e,f,⟨o,g,k,n,j⟩,l⟩:=I.tuple (ic.of h)
   cases f with
   | cons r0 m=>
     obtain⟨t,rfl⟩:=r0
     exact .cons (t:=t) g k j (by simp) (xS I r)
theorem t6:∀{b:List Addr} {c:List Value},bD (b.map V.ref) c->c=b.map Value.ref
 | [],_,r=>by cases r;rfl
 | a::b,_,r=>by
   cases r with
   | cons h t=>
     cases h
     rw[t6 t]
     rfl
theorem rV:∀(b:List Addr),bD (b.map V.ref) (b.map Value.ref)
 | []=>.nil
 |a::b=>.cons rfl (rV b)
end
section
variable{X:Cx}
def Cd:JR X (λx y H Q=>∃p xs k v,x=.ref p/\y=.int ((k:Nat):Int)/\iM X.K H p xs/\xs[k]?=some v/\Q v H):=by
 intro b s l H x y v u Q I i f h
 obtain⟨p,xs,k,z,rfl,rfl,hq,he,q⟩:=h
 cases i
 obtain⟨t,rfl⟩:=f
 obtain⟨e,r,d,m⟩:=I.list hq
 obtain⟨g,c,a⟩:=r.get he
 have n:k<xs.length:=(gQs.mp he).1
 have j:=jh
 exact wpAny_getItem_list d.isList (x:=g) (Int.natCast_nonneg k) (by omega) (by simpa using c) ⟨z,H,I,a,q⟩
end
section
variable{X:Cx}
def Ea(K:PySem.W.Frag):R2:=λx y H Q=>∃a b c,x=.ref a/\y=.ref b/\iM K H a c/\iM K H b []/\Q (.bl (!c.isEmpty)) H
def Dr(e:X.A.units<cLine):jI X (compareOp .NotEq) (Ea X.K):=by
 intro c s j H x y v u Q I g f h
 obtain⟨a,b,i,rfl,rfl,ha,hb,q⟩:=h
 cases i with
 |nil=>exact HN e c s j H _ _ v u Q I g f ⟨a,b,[],[],rfl,rfl,ha,hb,rfl,rfl,q⟩
 | cons z w=>
   cases g
   cases f
   obtain⟨m,r,l,B⟩:=I.list ha
   obtain⟨n,p,d,k⟩:=I.list hb
   have t:=r.length
   have o:=p.length
   exact SeqAt.RcNeAt.lists_lengths l.isList d.isList (by simp[←t,←o]) e _ _ _ _ ⟨.bl true,H,I,rfl,q⟩
end
end L2
namespace HT
open PySem PySem.Spec PyProof.Rows
section
variable{prog:Program}{w:World}{A:Around}{E:Value->Shared->Prop}{s:Shared}
def kR{t c:Addr}{items:Array Value}{j g:Value}{lo hi:Option Int}{Q:Value->Shared->Prop}(ht:IsTup s.heap t items)(i:s.heap.IsSliceOf c j g .none)(n:IsPart j lo)(p:IsPart g hi)
  (f:eU items.size 0 lo=0/\eU items.size items.size hi=items.size) (h:Q (.ref t) s):wpAny (model prog w) A (getItem (.ref t) (.ref c)) Q E s:=by
 obtain⟨k,e,b,l⟩:=id i
 have d:s.TypeIs (.ref c) "slice":=⟨k,e,b⟩
 unfold getItem
 try with_reducible refine QLq ?_
 first|refine Qaq (Qgq ?_)|skip
 refine Qaq (wpAny_sequenceKey ht.typeIs (by decide) ?_)
 refine Qaq (QiQ (name:=Str.ofString "__getitem__") ht.typeIs PyProof.Rows.slot_tuple_getitem
  (wpAny_call_entry PyProof.Rows.slot_tuple_getitem ht.typeIs entry_tuple_getitem ?_ (args_tuple_getitem _ _)))
 show wpAny _ _ (Builtin.Tuple.tupleItemsOf (.ref t) >>= _) _ _ s
 refine Qaq (tupleItemsOf_ ht ?_)
 refine Qaq (wpAny_typeOf d ?_)
 rw[Qhq (by decide)]
 refine Qaq (i_ i n p ?_)
 have a:(((eU items.size 0 lo:Nat):Int)==0&&(1:Int)==1&&(eU items.size items.size hi-eU items.size 0 lo)==items.size)=true:=by
  rw[f.1,f.2]
  simp
 show wpAny _ _ (if (((eU items.size 0 lo:Nat):Int)==0&&(1:Int)==1&&(eU items.size items.size hi-eU items.size 0 lo)==items.size)=true then _ else _) _ _ s
 rw[Qhq a]
 have o:∀{A:Around} {E:Value->Shared->Prop} {R:Bool->Shared->Prop},R true s->wpAny (model prog w) A (Builtin.Tuple.tupleIsExact (.ref t)) R E s:=λ{A E R} h=>by
  unfold Builtin.Tuple.tupleIsExact
  exact Qaq (wpAny_typeOf ht.typeIs (Qgq h))
 refine Qaq (m:=Builtin.Tuple.tupleIsExact _) (o ?_)
 rw[Qhq rfl]
 refine Qaq (wpAny_rule ?_)
 exact Qgq ⟨_,rfl,Qgq h⟩
end
end HT
namespace L2
open PySem PySem.Spec PyProof.Rows
def K_(K:PySem.W.Frag):V->Option Int->Option Int->Hp->VK->Prop:=λx c d H Q=>∃a b,x=.ref a/\ic K H a b∧
 (HT.eU b.length 0 c=0/\HT.eU b.length b.length d=b.length->Q (.ref a) H)/\(¬(HT.eU b.length 0 c=0/\HT.eU b.length b.length d=b.length)->∀p,H p=none->Q (.ref p) (upd H p (.tup (yL b c d))))
def E_{X:Cx}:KO X (K_ X.K):=by
 intro d s o H x v t q j g p Q I l m i k h
 obtain⟨a,b,rfl,hx,q1,q2⟩:=h
 by_cases e:HT.eU b.length 0 j=0/\HT.eU b.length b.length g=b.length
 ·cases l
  obtain⟨f,r,n,u⟩:=I.tuple hx
  have c:f.toArray.size=b.length:=by rw[Qjq];exact r.length.symm
  refine⟨"tuple",_,PyProof.Rows.slot_tuple_getitem.lookup,n.typeIs,?_⟩
  exact HT.kR n m i k (by rw[c];exact e) ⟨.ref a,H,I,rfl,q1 e⟩
 ·exact Ih d s o H _ v t q j g p Q I l m i k ⟨a,b,rfl,hx,e,q2 e⟩
end L2
namespace DL
open PySem PySem.Spec PyProof.Rows L2
inductive D where
 |non|bl (b:Bool)|int (i:Int)|str (x:Str)|tup (xs:List D)|ref (k:Nat)|fn (x:Str)
inductive O where
 |lst (xs:List D)|frz (xs:List D)|dct (kvs:List (Key×D))
abbrev aI:=List O
abbrev dt:=List (Option D)
structure Md where
 K:PySem.W.Frag
 mg:Str->Option Value
mutual
inductive Rel(M:Md)(ρ:List Addr)(H:Hp):D->V->Prop
 |non:Rel M ρ H .non .non
 |bl (b:Bool):Rel M ρ H (.bl b) (.bl b)
 |int (i:Int):Rel M ρ H (.int i) (.int i)
 |str (x:Str):Rel M ρ H (.str x) (.str x)
 |tup {a:Addr} {vs:List V} {ds:List D}:H a=some (.tup vs)->a_ M ρ H ds vs->Rel M ρ H (.tup ds) (.ref a)
 |ref {k:Nat} {a:Addr}:ρ[k]?=some a->Rel M ρ H (.ref k) (.ref a)
 |fn {x:Str} {a:Addr}:M.mg x=some (.ref a)->Rel M ρ H (.fn x) (.ref a)
inductive a_(M:Md)(ρ:List Addr)(H:Hp):List D->List V->Prop
 |nil:a_ M ρ H [] []
 |cons {d:D} {v:V} {ds:List D} {vs:List V}:Rel M ρ H d v->a_ M ρ H ds vs->a_ M ρ H (d::ds) (v::vs)
end
section
variable{M:Md}{ρ ρ':List Addr}{H H':Hp}
def Ln:HO->Prop
 |.tup _=>True
 |.frz _ _=>True
 |_=>False
structure b9(ρ:List Addr)(H:Hp)(ρ':List Addr)(H':Hp):Prop where
 pre:ρ <+: ρ'
 new:∀a∈ρ',a∈ρ\/H a=none
 keep:∀a o,H a=some o->a∉ρ\/Ln o->H' a=some o
 grow:∀a,H' a=none->H a=none
def b9.refl:b9 ρ H ρ H:=⟨List.prefix_refl _,λ_ h=>.inl h,λ_ _ h _=>h,λ_ h=>h⟩
def b9.trans{b d:List Addr}{H1 H2:Hp}(e:b9 ρ H b H1)(f:b9 b H1 d H2):b9 ρ H d H2 where
 pre:=e.pre.trans f.pre
 new:=λa h=>(f.new a h).elim (λh=>e.new a h) λh=>.inr (e.grow a h)
 keep:=λa o h c=>f.keep a o (e.keep a o h c) (c.imp (λn m=>(e.new a m).elim n λz=>by rw[z] at h;cases h) id)
 grow:=λa h=>e.grow a (f.grow a h)
def b9.laid{a:Addr}{o:HO}(h:H a=none):b9 ρ H ρ (upd H a o) where
 pre:=List.prefix_refl _
 new:=λ_ h=>.inl h
 keep:=λb c e _=>by rw[bj];exact e;intro z;subst z;rw[h] at e;cases e
 grow:=λb e=>by
  by_cases z:b=a
  ·subst z;exact h
  ·rw[bj z] at e;exact e
theorem ke{α:Type}:∀{l:List α},l.Nodup->∀{i j:Nat} {a:α},l[i]?=some a->l[j]?=some a->i=j
 | [],_,_,_,_,h,_=>by simp at h
 |x::l,n,0,0,_,_,_=>rfl
 | x::l,n,0,j+1,a,h1,h2=>by
   rw[List.nodup_cons] at n
   simp at h1 h2
   subst h1
   exact absurd (mQg h2) n.1
 | x::l,n,i+1,0,a,h1,h2=>by
   rw[List.nodup_cons] at n
   simp at h1 h2
   subst h2
   exact absurd (mQg h1) n.1
 | x::l,n,i+1,j+1,a,h1,h2=>by
   rw[List.nodup_cons] at n
   simp at h1 h2
   exact congrArg (·+1) (ke n.2 h1 h2)
def cx{α e:Type}{a c:α}{b d:e}(h:some (a,b)=some (c,d)):a=c/\b=d:=by cases h;exact⟨rfl,rfl⟩
def cV{α:Type}{l b:List α}(h:l <+: b){k:Nat}{a:α}(e:l[k]?=some a):b[k]?=some a:=by
 obtain⟨t,rfl⟩:=h
 rw[QHq (gQs.mp e).1]
 exact e
mutual
theorem Rel.ext(e:b9 ρ H ρ' H'):∀{d:D} {v:V},Rel M ρ H d v->Rel M ρ' H' d v
 |_,_,.non=>.non
 |_,_,.bl b=>.bl b
 |_,_,.int i=>.int i
 |_,_,.str x=>.str x
 |_,_,.tup h hs=>.tup (e.keep _ _ h (.inr trivial)) (a_.ext e hs)
 |_,_,.ref h=>.ref (cV e.pre h)
 |_,_,.fn h=>.fn h
theorem a_.ext(e:b9 ρ H ρ' H'):∀{ds:List D} {vs:List V},a_ M ρ H ds vs->a_ M ρ' H' ds vs
 |_,_,.nil=>.nil
 |_,_,.cons h hs=>.cons (Rel.ext e h) (a_.ext e hs)
end
mutual
theorem Rel.pre(e:ρ <+: ρ'):∀{d:D} {v:V},Rel M ρ H d v->Rel M ρ' H d v
 |_,_,.non=>.non
 |_,_,.bl b=>.bl b
 |_,_,.int i=>.int i
 |_,_,.str x=>.str x
 |_,_,.tup h hs=>.tup h (a_.pre e hs)
 |_,_,.ref h=>.ref (cV e h)
 |_,_,.fn h=>.fn h
theorem a_.pre(e:ρ <+: ρ'):∀{ds:List D} {vs:List V},a_ M ρ H ds vs->a_ M ρ' H ds vs
 |_,_,.nil=>.nil
 |_,_,.cons h hs=>.cons (Rel.pre e h) (a_.pre e hs)
end
theorem a_.length:∀{ds:List D} {vs:List V},a_ M ρ H ds vs->ds.length=vs.length
 |_,_,.nil=>rfl
 |_,_,.cons _ h=>congrArg (·+1) h.length
theorem a_.append:∀{ds a:List D} {vs ws:List V},a_ M ρ H ds vs->a_ M ρ H a ws->a_ M ρ H (ds++a) (vs++ws)
 |_,_,_,_,.nil,h=>h
 |_,_,_,_,.cons h hs,h'=>.cons h (hs.append h')
theorem a_.get:∀{ds:List D} {vs:List V} {i:Nat} {d:D},a_ M ρ H ds vs->ds[i]?=some d->∃v,vs[i]?=some v/\Rel M ρ H d v
 |_,_,0,_,.cons h _,e=>by cases e;exact⟨_,rfl,h⟩
 |_,_,i+1,_,.cons _ hs,e=>hs.get (i:=i) (by simpa using e)
 |_,_,_,_,.nil,e=>by simp at e
theorem a_.set{d:D}{v:V}(h:Rel M ρ H d v):∀{ds:List D} {vs:List V} (i:Nat),a_ M ρ H ds vs->a_ M ρ H (ds.set i d) (vs.set i v)
 |_,_,_,.nil=>.nil
 |_,_,0,.cons _ t=>.cons h t
 |_,_,i+1,.cons q t=>.cons q (a_.set h i t)
theorem a_.take:∀{ds:List D} {vs:List V} (n:Nat),a_ M ρ H ds vs->a_ M ρ H (ds.take n) (vs.take n)
 |_,_,0,_=>.nil
 |_,_,_+1,.nil=>.nil
 |_,_,n+1,.cons h hs=>.cons h (hs.take n)
theorem a_.drop:∀{ds:List D} {vs:List V} (n:Nat),a_ M ρ H ds vs->a_ M ρ H (ds.drop n) (vs.drop n)
 |_,_,0,h=>h
 |_,_,_+1,.nil=>.nil
 |_,_,n+1,.cons _ hs=>hs.drop n
theorem a_.eraseIdx:∀{ds:List D} {vs:List V} (n:Nat),a_ M ρ H ds vs->a_ M ρ H (ds.eraseIdx n) (vs.eraseIdx n)
 |_,_,_,.nil=>.nil
 |_,_,0,.cons _ h=>h
 |_,_,n+1,.cons h hs=>.cons h (hs.eraseIdx n)
theorem a_.rep{ds:List D}{vs:List V}(h:a_ M ρ H ds vs):∀k:Nat,a_ M ρ H (List.replicate k ds).flatten (List.replicate k vs).flatten
 |0=>.nil
 |k+1=>by rw[QNq,QNq,List.flatten_cons,List.flatten_cons];exact h.append (h.rep k)
def b_(M:Md)(ρ:List Addr)(H:Hp):List (Key×D)->List (Key×V)->Prop
 | [],kv=>kv= []
 |(k,d)::r,kv=>∃v t,kv=(k,v)::t/\Rel M ρ H d v/\b_ M ρ H r t
theorem b_.imp{ρ':List Addr}{H':Hp}(f:∀d v,Rel M ρ H d v->Rel M ρ' H' d v):∀{l:List (Key×D)} {kv:List (Key×V)},b_ M ρ H l kv->b_ M ρ' H' l kv
 | [],_,h=>h
 |(_,_)::_,_,⟨v,t,e,h,hs⟩=>⟨v,t,e,f _ _ h,b_.imp f hs⟩
theorem b_.length:∀{l:List (Key×D)} {kv:List (Key×V)},b_ M ρ H l kv->l.length=kv.length
 | [],_,h=>by cases h;rfl
 |(_,_)::_,_,⟨v,t,e,h,hs⟩=>by subst e;exact congrArg (·+1) hs.length
def mP(M:Md)(ρ:List Addr)(H:Hp)(a:Addr):O->Prop
 |.lst c=>∃b,H a=some (.lst b)/\a_ M ρ H c b
 |.frz c=>∃b o,H a=some (.frz o (.lst b))/\a_ M ρ H c b
 |.dct d=>∃e,H a=some (.dK e)/\b_ M ρ H d e
structure fF(M:Md)(ρ:List Addr)(S:aI)(H:Hp):Prop where
 len:ρ.length=S.length
 nd:ρ.Nodup
 obj:∀(k:Nat) (a:Addr) (o:O),ρ[k]?=some a->S[k]?=some o->mP M ρ H a o
def mP.lay{a b:Addr}{o:O}{u:HO}(h:mP M ρ H a o)(i:H b=none):mP M ρ (upd H b u) a o:=by
 have e:b9 ρ H ρ (upd H b u):=b9.laid i
 have f:∀{x},H a=some x->upd H b u a=some x:=λ{x} h=>by rw[bj];exact h;intro z;subst z;rw[i] at h;cases h
 cases o with
 |lst j=>obtain⟨g,c,d⟩:=h;exact⟨g,f c,d.ext e⟩
 |frz j=>obtain⟨g,o,c,d⟩:=h;exact⟨g,o,f c,d.ext e⟩
 |dct k=>obtain⟨l,c,d⟩:=h;exact⟨l,f c,d.imp λ_ _ r=>r.ext e⟩
def fF.lay{S:aI}{b:Addr}{u:HO}(h:fF M ρ S H)(c:H b=none):fF M ρ S (upd H b u):=⟨h.len,h.nd,λk a o d e=>(h.obj k a o d e).lay c⟩
theorem mP.pre{a:Addr}{o:O}(e:ρ <+: ρ')(h:mP M ρ H a o):mP M ρ' H a o:=by
 cases o with
 |lst f=>obtain⟨d,b,c⟩:=h;exact⟨d,b,c.pre e⟩
 |frz f=>obtain⟨d,o,b,c⟩:=h;exact⟨d,o,b,c.pre e⟩
 |dct g=>obtain⟨i,b,c⟩:=h;exact⟨i,b,c.imp λ_ _ r=>r.pre e⟩
def fF.box{S:aI}{a:Addr}{o:O}(h:fF M ρ S H)(i:a∉ρ)(j:mP M (ρ++ [a]) H a o):fF M (ρ++ [a]) (S++ [o]) H where
 len:=by rw[lQa,lQa,h.len];rfl
 nd:=by rw[List.nodup_append];exact⟨h.nd,by simp,λx l y f=>by rw[Qfq] at f;subst f;exact λz=>i (z▸l)⟩
 obj:=λk b u d e=>by
  by_cases c:k<ρ.length
  ·rw[QHq c] at d
   rw[QHq (h.len▸c)] at e
   exact(h.obj k b u d e).pre (List.prefix_append _ _)
  ·have c:ρ.length<=k:=Nat.le_of_not_lt c
   rw[QQq c] at d
   rw[QQq (h.len▸c)] at e
   have z:k-ρ.length=0:=by
    have:=(gQs.mp d).1
    simp at this
    omega
   have g:k-S.length=0:=by rw[←h.len];exact z
   rw[z] at d
   rw[g] at e
   cases d
   cases e
   exact j
def fF.put{S:aI}{k:Nat}{a:Addr}{o o':O}{u:HO}(h:fF M ρ S H)(m:ρ[k]?=some a)(J:S[k]?=some o)(F:mP M ρ (upd H a u) a o')(A:∀x,H a=some x->¬Ln x):fF M ρ (S.set k o') (upd H a u)/\b9 ρ H ρ (upd H a u):=by
 have G:a∈ρ:=mQg m
 have e:b9 ρ H ρ (upd H a u):=by
  refine⟨List.prefix_refl _,λ_ h=>.inl h,λb x v c=> ?_,λb l=> ?_⟩
  ·rw[bj]
   ·exact v
   ·intro z
    subst z
    exact c.elim (λn=>n G) λI=>A _ v I
  ·by_cases z:b=a
   ·subst z;rw[bQ] at l;cases l
   ·rw[bj z] at l;exact l
 refine⟨⟨by rw[List.length_set];exact h.len,h.nd,λj b p f i=> ?_⟩,e⟩
 by_cases c:j=k
 ·subst c
  rw[m] at f
  cases f
  rw[Qyq (gQs.mp J).1] at i
  cases i
  exact F
 ·rw[QKq (Ne.symm c)] at i
  have t:b≠a:=by
   intro z
   subst z
   have y:=(gQs.mp f)
   have w:=(gQs.mp m)
   obtain⟨y,N⟩:=y
   obtain⟨w,L⟩:=w
   exact c (ke h.nd f m)
  have q:=h.obj j b p f i
  cases p with
  |lst B=>obtain⟨s,g,d⟩:=q;exact⟨s,by rw[bj t];exact g,d.ext e⟩
  |frz B=>obtain⟨s,o,g,d⟩:=q;exact⟨s,o,by rw[bj t];exact g,d.ext e⟩
  |dct C=>obtain⟨K,g,d⟩:=q;exact⟨K,by rw[bj t];exact g,d.imp λ_ _ r=>r.ext e⟩
end
structure En(M:Md)(ρ:List Addr)(H:Hp)(Γ:dt)(σ:L2.St):Prop where
 len:σ.length=Γ.length
 get:∀(i:Nat) (d:D),Γ[i]?=some (some d)->∃v,σ[i]?=some (some v)/\Rel M ρ H d v
def En.ext{M:Md}{ρ a:List Addr}{H f:Hp}{b:dt}{c:L2.St}(h:En M ρ H b c)(e:b9 ρ H a f):En M a f b c:=⟨h.len,λi d q=>by obtain⟨v,g,j⟩:=h.get i d q;exact⟨v,g,j.ext e⟩⟩
def En.set{M:Md}{ρ:List Addr}{H:Hp}{a:dt}{b:L2.St}{i:Nat}{d:D}{v:V}(h:En M ρ H a b)(r:Rel M ρ H d v):En M ρ H (a.set i (some d)) (b.set i (some v)) where
 len:=by rw[List.length_set,List.length_set];exact h.len
 get:=λj e q=>by
  by_cases c:i=j
  ·subst c
   have l:i<a.length:=by
    have:=(gQs.mp q).1
    rwa [List.length_set] at this
   rw[Qyq l] at q
   cases q
   exact⟨v,Qyq (h.len▸l),r⟩
  ·rw[QKq c] at q⊢
   exact h.get j e q
structure Ok(M:Md)(ρ:List Addr)(Γ:dt)(S:aI)(σ:L2.St)(H:Hp):Prop where
 en:En M ρ H Γ σ
 st:fF M ρ S H
def Ok.to{M:Md}{ρ a:List Addr}{c:dt}{S f:aI}{d:L2.St}{H b:Hp}(h:Ok M ρ c S d H)(e:b9 ρ H a b)(s:fF M a f b):Ok M a c f d b:=⟨h.en.ext e,s⟩
abbrev bA:=dt->aI->Option (D×aI)
abbrev gW:=dt->aI->Option (List D×aI)
abbrev jA:=dt->aI->Option (Bool×aI)
def tD(M:Md)(f:bA):TE:=λh H Q=>∃g c S d e,Ok M g c S h H/\f c S=some (d,e)/\∀a v b,b9 g H a b->fF M a e b->Rel M a b d v->Q v b
def tL(M:Md)(f:gW):TE:=λj H Q=>∃i g S e h,Ok M i g S j H/\f g S=some (e,h)∧
 ∀b a d c,b9 i H b c->fF M b h c->H a=none->a∉b->c a=some (.lst d)->a_ M b c e d->Q (.ref a) c
def wF(M:Md)(f:gW):TA:=λi H Q=>∃h e S d g,Ok M h e S i H/\f e S=some (d,g)/\∀a c b,b9 h H a b->fF M a g b->a_ M a b d c->Q c b
def tB(M:Md)(f:jA):TT:=λh H Q=>∃g d S b e,Ok M g d S h H/\f d S=some (b,e)/\∀a c,b9 g H a c->fF M a e c->Q b c
section
variable{X:Cx}
abbrev md(X:Cx):Md:=⟨X.K,X.mg⟩
def j2{e:Expr}{t t':TE}(h:PE X e t)(w:∀b H Q,t' b H Q->t b H Q):PE X e t':=λa s b H Q I q=>h a s b H Q I (w _ _ _ q)
def Kh{e:Expr}{t t':TT}(h:PT X e t)(w:∀b H Q,t' b H Q->t b H Q):PT X e t':=λa s b H Q I q=>h a s b H Q I (w _ _ _ q)
def Lp{e:Expr}{t t':TT}(h:PW X e t)(w:∀b H Q,t' b H Q->t b H Q):PW X e t':=λc a s b H Q I q=>h c a s b H Q I (w _ _ _ q)
def Lq{d:List Expr}{t t':TA}(h:PA X d t)(w:∀b H Q,t' b H Q->t b H Q):PA X d t':=λc a s b H Q I q=>h c a s b H Q I (w _ _ _ q)
def Ad{e:Stmt}{t t':TS}(h:PS X e t)(w:∀D b H,t' D b H->t D b H):PS X e t':=λa s b H D I q=>h a s b H D I (w _ _ _ q)
def Jo{e:List Stmt}{t t':TS}(h:pO X e t)(w:∀D b H,t' D b H->t D b H):pO X e t':=λa s b H D I q=>h a s b H D I (w _ _ _ q)
noncomputable def av(i:Nat):bA:=λa S=>match a[i]? with
 |some (some d)=>some (d,S)
 |_=>none
def BI{i:Nat}{a:dt}{S:aI}{d:D}{b:aI}(h:av i a S=some (d,b)):a[i]?=some (some d)/\b=S:=by
 unfold av at h
 split at h
 ·cases h;exact⟨by assumption,rfl⟩
 ·cases h
def J6{e:Expr}{i:Nat}(h:PE X e (HE i)):PE X e (tD (md X) (av i)):=j2 h λk H Q b=>by
 obtain⟨g,j,S,d,l,ok,e,q⟩:=b
 obtain⟨a,rfl⟩:=BI e
 obtain⟨v,c,f⟩:=ok.en.get i d a
 exact⟨v,c,q g v H b9.refl ok.st f⟩
noncomputable def cF(d:D):bA:=λ_ S=>some (d,S)
def de{e:Expr}{v:V}{d:D}(h:PE X e (tC v))(r:∀ρ H,Rel (md X) ρ H d v):PE X e (tD (md X) (cF d)):=j2 h λf H Q a=>by
 obtain⟨ρ,c,S,b,g,ok,e,q⟩:=a
 cases e
 exact q ρ v H b9.refl ok.st (r _ _)
def ax{i:Int}{j pos}:PE X (.Constant (.int i) j pos) (tD (md X) (cF (.int i))):=de GL λ_ _=>.int i
def BL{b:Bool}{j pos}:PE X (.Constant (.bool b) j pos) (tD (md X) (cF (.bl b))):=de I_ λ_ _=>.bl b
def fZ{j pos}:PE X (.Constant .none j pos) (tD (md X) (cF .non)):=de Hw λ_ _=>.non
def bh{x:Str}{j pos}:PE X (.Constant (.str x) j pos) (tD (md X) (cF (.str x))):=de HU λ_ _=>.str x
def i6(f:gW):bA:=λc S=>(f c S).bind λ(b,a)=>some (.ref a.length,a++ [.lst b])
def jU{e:Expr}{f:gW}(h:PE X e (tL (md X) f)):PE X e (tD (md X) (i6 f)):=j2 h λz H Q w=>by
 obtain⟨v,k,S,d,A,ok,e,q⟩:=w
 unfold i6 at e
 cases i:f k S with
 |none=>rw[i] at e;cases e
 | some p=>
   obtain⟨n,s⟩:=p
   rw[i] at e
   obtain⟨rfl,rfl⟩:=cx e
   refine⟨v,k,S,n,s,ok,i,λg a m o x l u y t r=> ?_⟩
   have j:=r.pre (List.prefix_append g [a])
   refine q (g++ [a]) (.ref a) o ⟨x.pre.trans (List.prefix_append _ _),λb c=> ?_,x.keep,x.grow⟩ (l.box y ⟨m,t,j⟩) (.ref ?_)
   · rcases mQa.mp c with c|c
     · exact x.new b c
     · rw[Qfq] at c;subst c;exact .inr u
   · rw[←l.len,QQq (Qmq _)]
     simp
noncomputable def aA:gW:=λ_ S=>some ([],S)
noncomputable def au(f:bA)(g:gW):gW:=λa S=>(f a S).bind λ(d,e)=>(g a e).bind λ(c,b)=>some (d::c,b)
def ar{α c:Type}{o:Option α}{f:α->Option c}{b:c}(h:o.bind f=some b):∃a,o=some a/\f a=some b:=by
 cases o with
 |none=>cases h
 |some a=>exact⟨a,rfl,h⟩
def aw:PA X [] (wF (md X) aA):=Lq gF λf H Q a=>by
 obtain⟨b,c,S,d,g,ok,e,q⟩:=a
 cases e
 exact q b [] H b9.refl ok.st .nil
def aq{e:Expr}{a:List Expr}{f:bA}{g:gW}(u:PE X e (tD (md X) f))(t:PA X a (wF (md X) g))(B:starEach (e::a) X.env=(false,eval e X.env)::starEach a X.env:=by rfl):PA X (e::a) (wF (md X) (au f g)):=
 Lq (dG u t B) λC H Q z=>by
  obtain⟨y,m,S,d,F,ok,e,q⟩:=z
  obtain⟨⟨x,k⟩,r,e⟩:=ar e
  obtain⟨⟨o,A⟩,p,e⟩:=ar e
  obtain⟨rfl,rfl⟩:=cx e
  refine⟨y,m,S,x,k,ok,r,λb v H1 j c w=>⟨b,m,k,o,A,ok.to j c,p,λh n H2 l i s=> ?_⟩⟩
  exact q h (v::n) H2 (j.trans l) i (.cons (w.ext l) s)
def aX(f:gW):bA:=λb S=>(f b S).bind λ(a,c)=>if a.length<=sizeLine then some (.tup a,c) else none
def aM{i:List Expr}{f:gW}{k pos}(h:PA X i (wF (md X) f)):PE X (.Tuple i k pos) (tD (md X) (aX f)):=j2 (Ie h) λv H Q t=>by
 obtain⟨s,r,S,d,w,ok,e,q⟩:=t
 obtain⟨⟨l,o⟩,n,e⟩:=ar e
 dsimp only at e
 split at e
 ·rename_i c
  obtain⟨rfl,rfl⟩:=cx e
  refine⟨s,r,S,l,o,ok,n,λb u H1 m g j=>⟨j.length▸c,λp a=> ?_⟩⟩
  exact q b (.ref p) _ (m.trans (b9.laid a)) (g.lay a) (.tup bQ (j.ext (b9.laid a)))
 ·cases e
def gn(f:gW):gW:=λb S=>(f b S).bind λ(a,c)=>if a.length<=sizeLine then some (a,c) else none
def fh{M:Md}{ρ a:List Addr}{S:aI}{H c:Hp}{p:Addr}(x:b9 ρ H a c)(st:fF M a S c)(b:c p=none):p∉a:=λm=>by
 obtain⟨k,g⟩:=List.getElem?_of_mem m
 have l:k<S.length:=st.len▸(gQs.mp g).1
 have:=st.obj k p _ g (gQe l)
 cases e:S[k] with
 |lst f=>rw[e] at this;obtain⟨d,h,_⟩:=this;rw[b] at h;cases h
 |frz f=>rw[e] at this;obtain⟨d,o,h,_⟩:=this;rw[b] at h;cases h
 |dct f=>rw[e] at this;obtain⟨d,h,_⟩:=this;rw[b] at h;cases h
def jL{j:List Expr}{f:gW}{pos}(h:PA X j (wF (md X) f)):PE X (.List j pos) (tL (md X) (gn f)):=j2 (GA h) λu H Q t=>by
 obtain⟨s,r,S,d,v,ok,e,q⟩:=t
 obtain⟨⟨m,o⟩,n,e⟩:=ar e
 dsimp only at e
 split at e
 ·rename_i c
  obtain⟨rfl,rfl⟩:=cx e
  refine⟨s,r,S,m,o,ok,n,λg l H1 i b k=>⟨k.length▸c,λp a=> ?_⟩⟩
  exact q g p l _ (i.trans (b9.laid a)) (b.lay a) (i.grow p a) (fh i b a) bQ (k.ext (b9.laid a))
 ·cases e
end
section
variable{X:Cx}{a b c e:Expr}{pos:Pos}
def DN:jI X (binaryOp .Add) (λx y H Q=>∃a b ys,x=.ref a/\y=.ref b/\ic X.K H a []/\ic X.K H b ys/\Q (.ref b) H):=by
 intro w s S H x y v u Q I M J h
 obtain⟨a,b,ys,rfl,rfl,ha,k,q⟩:=h
 cases M
 cases J
 obtain⟨C,L,P,_⟩:=I.tuple ha
 obtain⟨i,R,k,_⟩:=I.tuple k
 cases L
 obtain⟨⟨A,B,r,G⟩,z,o,n,t⟩:=id P
 obtain⟨⟨p,l,j,m⟩,g,f,N,d⟩:=id k
 simp only at o t f d
 subst o t f d
 exact concat_meets ⟨_,z,rfl⟩ ⟨_,g,rfl⟩ noFill_tuple_add seq_tuple_add PySem.F.slot_tuple_add PySem.F.entry_tuple_add (PySem.F.args_tuple_add_2 _ _)
   (tuple_addW0 a b _ i.toArray n N B l G m (by simp)) ⟨z,g,.ref b,H,I,rfl,q⟩
abbrev rp:=aI->D->D->Option D
def jS(M:Md)(r:R2)(o:rp):Prop:=∀{f:List Addr} {S:aI} {H:Hp} {x y d:D} {u v:V} {Q:VK},fF M f S H->Rel M f H x u->Rel M f H y v->o S x y=some d->(∀w g,b9 f H f g->fF M f S g->Rel M f g d w->Q w g)->r u v H Q
noncomputable def aG(o:rp)(f g:bA):bA:=λi S=>(f i S).bind λ(x,j)=>(g i j).bind λ(y,h)=>(o h x y).bind λd=>some (d,h)
def mR{r:R2}{o:rp}{f g:bA}(F:jS (md X) r o)(h:PE X e (Gr r (tD (md X) f) (tD (md X) g))):PE X e (tD (md X) (aG o f g)):=j2 h λN H Q K=>by
 obtain⟨I,t,S,d,R,ok,e,q⟩:=K
 obtain⟨⟨x,p⟩,A,e⟩:=ar e
 obtain⟨⟨y,L⟩,z,e⟩:=ar e
 obtain⟨P,M,e⟩:=ar e
 obtain⟨rfl,rfl⟩:=cx e
 refine⟨I,t,S,x,p,ok,A,λi v H1 n j G=>⟨i,t,p,y,L,ok.to n j,z,λl w H2 s m B=> ?_⟩⟩
 exact F m (G.ext s) B M λC H3 J k u=>q l C H3 ((n.trans s).trans J) k u
def cJ:rp:=λ_ x y=>match x,y with
 |.int i,.int j=>some (.int (i+j))
 |.str i,.str j=>if i.length+j.length<=sizeLine then some (.str (i++j)) else none
 |.tup i,.tup j=>if i.length+j.length<=sizeLine then some (.tup (i++j)) else none
 |_,_=>none
abbrev J5(K:PySem.W.Frag):R2:=λx y H Q=>(∃i j,x=.int i/\y=.int j/\Q (.int (i+j)) H)\/(∃i j,x=.str i/\y=.str j/\i.length+j.length<=sizeLine/\Q (.str (i++j)) H)∨
 (∃a b d,x=.ref a/\y=.ref b/\ic K H a []/\ic K H b d/\Q (.ref b) H)\/F2 K x y H Q
def ET:jI X (binaryOp .Add) (J5 X.K):=Hn.or (zt.or (DN.or FH))
def Gz{M:Md}:jS M (J5 M.K) cJ:=by
 intro w S H x y d u v Q h r l e q
 cases r with
 |int i=>cases l <;>simp only[cJ,reduceCtorEq] at e;cases e;exact .inl ⟨_,_,rfl,rfl,q _ _ b9.refl h (.int _)⟩
 | str i=>
   cases l <;>simp only[cJ,reduceCtorEq] at e
   split at e <;>cases e
   exact .inr (.inl ⟨_,_,rfl,rfl,by assumption,q _ _ b9.refl h (.str _)⟩)
 | tup m g=>
   cases l with
   | tup n j=>
     simp only[cJ] at e
     split at e <;>cases e
     rename_i o
     have t:=g.length
     have s:=j.length
     cases g with
     |nil=>exact .inr (.inr (.inl ⟨_,_,_,rfl,rfl,ic.of m,ic.of n,q _ _ b9.refl h (.tup n j)⟩))
     | cons g f=>
       refine .inr (.inr (.inr ⟨_,_,_,_,rfl,rfl,ic.of m,ic.of n,by simp,by rw[←t,←s];exact o,λz=> ?_,λz p k=> ?_⟩))
       · subst z
         cases j
         rw[List.append_nil] at q
         exact q _ _ b9.refl h (.tup m (.cons g f))
       · exact q _ _ (b9.laid k) (h.lay k) (.tup bQ ((a_.append (.cons g f) j).ext (b9.laid k)))
   |_=>simp only[cJ,reduceCtorEq] at e
 |_=>simp only[cJ,reduceCtorEq] at e
def cz{f g:bA}(d:PE X a (tD (md X) f))(h:PE X b (tD (md X) g)):PE X (.BinOp a .Add b pos) (tD (md X) (aG cJ f g)):=mR Gz (oI ET d h)
def intD(C:Int->Int->Prop)[∀i j,Decidable (C i j)](k:Int->Int->D):rp:=λ_ x y=>match x,y with
 |.int i,.int j=>if C i j then some (k i j) else none
 |_,_=>none
def uI{M:Md}{C:Int->Int->Prop}[∀i j,Decidable (C i j)]{k:Int->Int->D}{g:Int->Int->V}(h:∀i j ρ H,Rel M ρ H (k i j) (g i j)):jS M (rI C g) (intD C k):=by
 intro ρ S H x y d u v Q m l f e q
 cases l <;>cases f <;>simp only[intD,reduceCtorEq] at e
 split at e <;>cases e
 exact⟨_,_,rfl,rfl,by assumption,q _ _ b9.refl m (h _ _ _ _)⟩
def m4{M:Md}{k:Int->Int->D}{g:Int->Int->V}(h:∀i j ρ H,Rel M ρ H (k i j) (g i j)):jS M (A8 g) (intD (λ_ _=>True) k):=by
 intro ρ S H x y d u v Q m l f e q
 cases l <;>cases f <;>simp only[intD,reduceCtorEq] at e
 rw[Qhq trivial] at e
 cases e
 exact⟨_,_,rfl,rfl,q _ _ b9.refl m (h _ _ _ _)⟩
instance{i j:Int}:Decidable (De i j):=by unfold De;infer_instance
instance{i j:Int}:Decidable (D2 i j):=by unfold D2;infer_instance
open Classical in
noncomputable instance{i j:Int}:Decidable (IntMulOk i j):=Classical.propDecidable _
abbrev Dc:rp:=intD (λ_ _=>True) λi j=>.int (i-j)
noncomputable abbrev lM:rp:=intD IntMulOk λi j=>.int (i*j)
abbrev pF:rp:=intD (λ_ j=>0<j) λi j=>.int (i%j)
abbrev xB:rp:=intD De λi j=>.int (i/j)
abbrev uP:rp:=intD D2 λi j=>.int (i^j.toNat)
def AC{f g:bA}(h:PE X a (tD (md X) f))(d:PE X b (tD (md X) g)):PE X (.BinOp a .Sub b pos) (tD (md X) (aG Dc f g)):=mR (m4 λi j _ _=>.int _) (oI GS h d)
def qv{f g:bA}(h:PE X a (tD (md X) f))(d:PE X b (tD (md X) g)):PE X (.BinOp a .Mult b pos) (tD (md X) (aG lM f g)):=mR (uI λi j _ _=>.int _) (oI FX h d)
def qw{f g:bA}(h:PE X a (tD (md X) f))(d:PE X b (tD (md X) g)):PE X (.BinOp a .Mod b pos) (tD (md X) (aG pF f g)):=mR (uI λi j _ _=>.int _) (oI G8 h d)
def D7{f g:bA}(h:PE X a (tD (md X) f))(d:PE X b (tD (md X) g)):PE X (.BinOp a .FloorDiv b pos) (tD (md X) (aG xB f g)):=mR (uI λi j _ _=>.int _) (oI EL h d)
def Cc{f g:bA}(h:PE X a (tD (md X) f))(d:PE X b (tD (md X) g)):PE X (.BinOp a .Pow b pos) (tD (md X) (aG uP f g)):=mR (uI λi j _ _=>.int _) (oI He h d)
def sT(f:bA):bA:=λg S=>(f g S).bind λ(d,h)=>match d with
 |.int i=>some (.int (-i),h)
 |_=>none
def qK{f:bA}(l:PE X a (tD (md X) f)):PE X (.UnaryOp .USub a pos) (tD (md X) (sT f)):=j2 (IU GX l) λr H Q p=>by
 obtain⟨o,m,S,d,s,ok,e,q⟩:=p
 obtain⟨⟨x,k⟩,j,e⟩:=ar e
 dsimp only at e
 split at e
 ·obtain⟨rfl,rfl⟩:=cx e
  refine⟨o,m,S,_,k,ok,j,λh v H1 i g n=> ?_⟩
  cases n
  exact⟨_,rfl,q _ _ _ i g (.int _)⟩
 ·cases e
def ua:D->Option V
 |.non=>some .non
 |.bl b=>some (.bl b)
 |.int i=>some (.int i)
 |.str x=>some (.str x)
 |_=>none
def lE{M:Md}{ρ:List Addr}{H:Hp}{d:D}{u v:V}(r:Rel M ρ H d u)(e:ua d=some v):u=v:=by
 cases r <;>simp[ua] at e <;>exact e
def iJ(d:Bool):rp:=λ_ x y=>match ua x,ua y with
 |some u,some v=>if yl u v=true then some (.bl (if d then !decide (u=v) else decide (u=v))) else none
 |_,_=>none
def xQ{f:Bool}{S:aI}{x y d:D}(e:iJ f S x y=some d):∃u v,ua x=some u/\ua y=some v/\yl u v=true/\d=.bl (if f then !decide (u=v) else decide (u=v)):=by
 unfold iJ at e
 split at e
 ·split at e <;>cases e
  exact⟨_,_,by assumption,by assumption,by assumption,rfl⟩
 ·cases e
def dR{M:Md}:jS M Ly (iJ false):=by
 intro n S H x y d u v Q k i f e q
 obtain⟨l,m,h,g,j,rfl⟩:=xQ e
 cases lE i h
 cases lE f g
 exact⟨j,q _ _ b9.refl k (.bl _)⟩
def uk{M:Md}:jS M Le (iJ true):=by
 intro n S H x y d u v Q k i f e q
 obtain⟨l,m,h,g,j,rfl⟩:=xQ e
 cases lE i h
 cases lE f g
 exact⟨j,q _ _ b9.refl k (.bl _)⟩
abbrev Kv:rp:=intD (λ_ _=>True) λi j=>.bl (decide (i<j))
abbrev Kp:rp:=intD (λ_ _=>True) λi j=>.bl (decide (i<=j))
abbrev Ir:rp:=intD (λ_ _=>True) λi j=>.bl (decide (j<i))
abbrev KR:rp:=intD (λ_ _=>True) λi j=>.bl (decide (j<=i))
def F8{M:Md}:jS M (A8 λi j=>.bl (decide (i<j))) Kv:=m4 λi j _ _=>.bl _
def F5{M:Md}:jS M (A8 λi j=>.bl (decide (i<=j))) Kp:=m4 λi j _ _=>.bl _
def xK{M:Md}:jS M (A8 λi j=>.bl (decide (j<i))) Ir:=m4 λi j _ _=>.bl _
def JH{M:Md}:jS M (A8 λi j=>.bl (decide (j<=i))) KR:=m4 λi j _ _=>.bl _
def isNone:D->Bool
 |.non=>true
 |_=>false
def sJ(d:Bool):rp:=λ_ x y=>match y with
 |.non=>some (.bl (if d then !isNone x else isNone x))
 |_=>none
def uu{M:Md}{ρ:List Addr}{H:Hp}{d:D}{u:V}(r:Rel M ρ H d u):decide (u=V.non)=isNone d:=by
 cases r <;>simp[isNone]
def zv{M:Md}:jS M (λx y H Q=>y=.non/\Q (.bl (decide (x=.non))) H) (sJ false):=by
 intro i S H x y d u v Q f h g e q
 cases g <;>simp only[sJ,reduceCtorEq] at e
 cases e
 rw[uu h]
 exact⟨rfl,q _ _ b9.refl f (.bl _)⟩
def zY{M:Md}:jS M (λx y H Q=>y=.non/\Q (.bl (!decide (x=.non))) H) (sJ true):=by
 intro i S H x y d u v Q f h g e q
 cases g <;>simp only[sJ,reduceCtorEq] at e
 cases e
 rw[uu h]
 exact⟨rfl,q _ _ b9.refl f (.bl _)⟩
def oO{d:CmpOp}{r:R2}{o:rp}{f g:bA}(k:jI X (compareOp d) r)(j:jS (md X) r o)(i:PE X a (tD (md X) f))(h:PE X b (tD (md X) g))(l:behindInMarks d b=false):PE X (.Compare a [d] [b] pos) (tD (md X) (aG o f g)):=mR j (FP k i h l)
noncomputable def aV(f:bA):jA:=λg S=>(f g S).bind λ(d,h)=>match d with
 |.bl k=>some (k,h)
 |_=>none
def r8{f:bA}{g:dt}{S h:aI}{k:Bool}(e:aV f g S=some (k,h)):f g S=some (.bl k,h):=by
 obtain⟨⟨d,j⟩,i,e⟩:=ar e
 dsimp only at e
 split at e
 ·cases e;exact i
 ·cases e
def Jp{r:R2}{o:rp}{f g:bA}(C:jS (md X) r o)(h:PT X e (CG (Gr r (tD (md X) f) (tD (md X) g)))):PT X e (tB (md X) (aV (aG o f g))):=Kh h λM H Q J=>by
 obtain⟨G,t,S,d,R,ok,e,q⟩:=J
 have e:=r8 e
 obtain⟨⟨x,p⟩,A,e⟩:=ar e
 obtain⟨⟨y,K⟩,z,e⟩:=ar e
 obtain⟨P,L,e⟩:=ar e
 obtain⟨rfl,rfl⟩:=cx e
 refine⟨G,t,S,x,p,ok,A,λi v H1 n j F=>⟨i,t,p,y,K,ok.to n j,z,λl w H2 s m B=> ?_⟩⟩
 exact C m (F.ext s) B L λN H3 I k u=>by cases u;exact⟨_,rfl,q l H3 ((n.trans s).trans I) k⟩
def bU{d:CmpOp}{r:R2}{o:rp}{f g:bA}(k:jI X (compareOp d) r)(j:jS (md X) r o)(i:PE X a (tD (md X) f))(h:PE X b (tD (md X) g))(l:behindInMarks d b=false):PT X (.Compare a [d] [b] pos) (tB (md X) (aV (aG o f g))):=Jp j (p7 k i h l)
def yE(S:aI):D->Option Bool
 |.non=>some false
 |.bl b=>some b
 |.int i=>some (i !=0)
 |.str y=>if y.length<=sizeLine then some ((y.length:Int) !=0) else none
 |.tup d=>some (!d.isEmpty)
 | .ref k=>match S[k]? with
   |some (.lst d)=>some (!d.isEmpty)
   |some (.dct d)=>some (!d.isEmpty)
   |_=>none
 |.fn _=>none
def a_.isEmpty{M:Md}{ρ:List Addr}{H:Hp}{ds:List D}{vs:List V}(h:a_ M ρ H ds vs):ds.isEmpty=vs.isEmpty:=by cases h <;>rfl
theorem b_.isEmpty{M:Md}{ρ:List Addr}{H:Hp}{ds:List (Key×D)}{vs:List (Key×V)}(h:b_ M ρ H ds vs):ds.isEmpty=vs.isEmpty:=by
 cases ds with
 |nil=>cases h;rfl
 |cons p r=>obtain⟨v,t,e,_⟩:=h;subst e;rfl
def EF{M:Md}{ρ:List Addr}{S:aI}{H:Hp}{d:D}{u:V}{k:Bool}(st:fF M ρ S H)(r:Rel M ρ H d u)(e:yE S d=some k):HS M.K u H k:=by
 cases r with
 |non=>cases e;rfl
 |bl=>cases e;rfl
 |int=>cases e;rfl
 |str=>simp only[yE] at e;split at e <;>cases e;exact⟨by assumption,rfl⟩
 |tup h j=>cases e;exact .inr (.inl ⟨_,ic.of h,by rw[j.isEmpty]⟩)
 |fn=>cases e
 | ref h=>
   simp only[yE] at e
   split at e
   · cases e
     obtain⟨f,g,i⟩:=st.obj _ _ _ h (by assumption)
     exact .inl ⟨f,iM.of g,by rw[i.isEmpty]⟩
   · cases e
     obtain⟨f,g,i⟩:=st.obj _ _ _ h (by assumption)
     exact .inr (.inr ⟨f,g,by rw[i.isEmpty]⟩)
   · cases e
def kU(f:bA):jA:=λh S=>(f h S).bind λ(d,g)=>(yE g d).bind λk=>some (k,g)
def jM{f:bA}(o:PE X a (tD (md X) f))(he:∀d,isTrue a X.env d=(do let v←d;standAt a.pos;holding [v] (truthy v)):=by intro _;rfl):PT X a (tB (md X) (kU f)):=Kh (Dh o he) λu H Q t=>by
 obtain⟨s,p,S,k,w,ok,e,q⟩:=t
 obtain⟨⟨x,n⟩,l,e⟩:=ar e
 obtain⟨m,j,e⟩:=ar e
 obtain⟨rfl,rfl⟩:=cx e
 exact⟨s,p,S,x,n,ok,l,λh v H1 i g r=>⟨m,EF g r j,q _ _ i g⟩⟩
def xY(f:jA):jA:=λd S=>(f d S).bind λ(k,g)=>some (!k,g)
def xk{f:jA}(m:PT X a (tB (md X) f)):PT X (.UnaryOp .Not a pos) (tB (md X) (xY f)):=Kh (HR m) λr H Q p=>by
 obtain⟨o,n,S,k,s,ok,e,q⟩:=p
 obtain⟨⟨h,l⟩,j,e⟩:=ar e
 obtain⟨rfl,rfl⟩:=cx e
 exact⟨o,n,S,h,l,ok,j,λg H1 i d=>q _ _ i d⟩
def xw(f g:jA):jA:=λd S=>(f d S).bind λ(k,h)=>if k=true then g d h else some (false,h)
def El(f g:jA):jA:=λd S=>(f d S).bind λ(k,h)=>if k=true then some (true,h) else g d h
def ze{f:jA}(d:PT X a (tB (md X) f)):PW X (.BoolOp .And [a] pos) (tB (md X) f):=FF d
def sZ{f:jA}(d:PT X a (tB (md X) f)):PW X (.BoolOp .Or [a] pos) (tB (md X) f):=G3 d
def w_and{d:List Expr}{f g:jA}(t:PT X a (tB (md X) f))(r:PW X (.BoolOp .And (b::d) pos) (tB (md X) g)):PW X (.BoolOp .And (a::b::d) pos) (tB (md X) (xw f g)):=Lp (Hx t r) λy H Q w=>by
 obtain⟨u,n,S,k,x,ok,e,q⟩:=w
 obtain⟨⟨o,m⟩,p,e⟩:=ar e
 refine⟨u,n,S,o,m,ok,p,λi H1 j h=> ?_⟩
 dsimp only at e
 split at e
 ·rename_i c
  rw[Qhq c]
  exact⟨i,n,m,k,x,ok.to j h,e,λv H2 s l=>q _ _ (j.trans s) l⟩
 ·rename_i c
  rw[Quq c]
  obtain⟨rfl,rfl⟩:=cx e
  exact q _ _ j h
def w_or{d:List Expr}{f g:jA}(t:PT X a (tB (md X) f))(r:PW X (.BoolOp .Or (b::d) pos) (tB (md X) g)):PW X (.BoolOp .Or (a::b::d) pos) (tB (md X) (El f g)):=Lp (ID t r) λy H Q w=>by
 obtain⟨u,n,S,k,x,ok,e,q⟩:=w
 obtain⟨⟨o,m⟩,p,e⟩:=ar e
 refine⟨u,n,S,o,m,ok,p,λi H1 j h=> ?_⟩
 dsimp only at e
 split at e
 ·rename_i c
  rw[Qhq c]
  obtain⟨rfl,rfl⟩:=cx e
  exact q _ _ j h
 ·rename_i c
  rw[Quq c]
  exact⟨i,n,m,k,x,ok.to j h,e,λv H2 s l=>q _ _ (j.trans s) l⟩
def xv(f g:bA):bA:=λh S=>(f h S).bind λ(d,i)=>match d with
 |.bl true=>g h i
 |.bl false=>some (.bl false,i)
 |_=>none
def FD(f:bA):bA:=λg S=>(f g S).bind λ(d,h)=>match d with
 |.bl k=>some (.bl (!k),h)
 |_=>none
def B_{op}{f:bA}(h:PE X a (tD (md X) f)):PE X (.BoolOp op [a] pos) (tD (md X) f):=HK h
def zO{h:List Expr}{f g:bA}(u:PE X a (tD (md X) f))(s:PE X (.BoolOp .And (b::h) pos) (tD (md X) g)):PE X (.BoolOp .And (a::b::h) pos) (tD (md X) (xv f g)):=j2 (GP u s) λC H Q A=>by
 obtain⟨y,n,S,d,B,ok,e,q⟩:=A
 obtain⟨⟨x,m⟩,p,e⟩:=ar e
 refine⟨y,n,S,x,m,ok,p,λj v H1 k i o=> ?_⟩
 dsimp only at e
 split at e
 ·cases o
  refine⟨_,rfl,?_⟩
  rw[Qhq rfl]
  exact⟨j,n,m,d,B,ok.to k i,e,λz w H2 t l r=>q _ _ _ (k.trans t) l r⟩
 ·cases o
  refine⟨_,rfl,?_⟩
  rw[Quq Qtq]
  obtain⟨rfl,rfl⟩:=cx e
  exact q _ _ _ k i (.bl _)
 ·cases e
def Iv{f:bA}(l:PE X a (tD (md X) f)):PE X (.UnaryOp .Not a pos) (tD (md X) (FD f)):=j2 (HD l) λr H Q p=>by
 obtain⟨o,m,S,d,s,ok,e,q⟩:=p
 obtain⟨⟨x,k⟩,j,e⟩:=ar e
 refine⟨o,m,S,x,k,ok,j,λh v H1 i g n=> ?_⟩
 dsimp only at e
 split at e
 ·cases n
  obtain⟨rfl,rfl⟩:=cx e
  exact⟨_,rfl,q _ _ _ i g (.bl _)⟩
 ·cases e
def nu(c:jA)(f g:bA):bA:=λd S=>(c d S).bind λ(k,h)=>if k=true then f d h else g d h
def mI{h:jA}{f g:bA}(t:PT X c (tB (md X) h))(y:PE X a (tD (md X) f))(x:PE X b (tD (md X) g)):PE X (.IfExp c a b pos) (tD (md X) (nu h f g)):=j2 (D3 t y x) λB H Q A=>by
 obtain⟨z,p,S,d,s,ok,e,q⟩:=A
 obtain⟨⟨u,n⟩,v,e⟩:=ar e
 refine⟨z,p,S,u,n,ok,v,λj H1 l k=> ?_⟩
 dsimp only at e
 split at e
 ·rename_i c
  rw[Qhq c]
  exact⟨j,p,n,d,s,ok.to l k,e,λr w H2 o i m=>q _ _ _ (l.trans o) i m⟩
 ·rename_i c
  rw[Quq c]
  exact⟨j,p,n,d,s,ok.to l k,e,λr w H2 o i m=>q _ _ _ (l.trans o) i m⟩
def aS:rp:=λS x y=>match x,y with
 |.tup xs,.int i=>kW xs i
 |.str z,.int i=>if z.length<=sizeLine then(kW z.cps.toList i).map λc=>.str ⟨#[c]⟩ else none
 | .ref k,.int i=>match S[k]? with
   |some (.lst xs)=>kW xs i
   |some (.frz xs)=>kW xs i
   |_=>none
 |_,_=>none
def FQ{α d:Type}{xs:List α}{ys:List d}{i:Int}{x:α}(h:kW xs i=some x)(l:xs.length=ys.length):∃j:Nat,xs[j]?=some x/\∀y,ys[j]?=some y->kW ys i=some y:=by
 unfold kW at h
 obtain⟨j,e,h⟩:=ar h
 exact⟨j,h,λy f=>by unfold kW;rw[←l,e];exact f⟩
def a_.atI{M:Md}{ρ:List Addr}{H:Hp}{ds:List D}{vs:List V}{i:Int}{d:D}(h:a_ M ρ H ds vs)(e:L2.kW ds i=some d):∃v,L2.kW vs i=some v/\Rel M ρ H d v:=by
 obtain⟨j,f,l⟩:=FQ e h.length
 obtain⟨v,k,g⟩:=h.get f
 exact⟨v,l v k,g⟩
def Jk{M:Md}:jS M (Lk M.K) aS:=by
 intro r S H x y d u v Q i n m e q
 cases m <;>cases n <;>simp only[aS,reduceCtorEq] at e
 ·split at e
  ·obtain⟨c,g,f⟩:=oQm.mp e
   subst f
   exact .inr (.inr ⟨_,_,c,rfl,rfl,by assumption,g,q _ _ b9.refl i (.str _)⟩)
  ·cases e
 ·rename_i h p
  obtain⟨v,g,f⟩:=p.atI e
  exact .inr (.inl ⟨_,_,_,v,rfl,rfl,ic.of h,g,q _ _ b9.refl i f⟩)
 ·rename_i h
  split at e
  ·obtain⟨l,k,j⟩:=i.obj _ _ _ h (by assumption)
   obtain⟨v,g,f⟩:=j.atI e
   exact .inl ⟨_,_,_,v,rfl,rfl,iM.of k,g,q _ _ b9.refl i f⟩
  ·obtain⟨l,o,k,j⟩:=i.obj _ _ _ h (by assumption)
   obtain⟨v,g,f⟩:=j.atI e
   exact .inl ⟨_,_,_,v,rfl,rfl,.inl (.inr ⟨o,k⟩),g,q _ _ b9.refl i f⟩
  ·cases e
def aE{f g:bA}(h:PE X a (tD (md X) f))(d:PE X b (tD (md X) g))(i:Ax b:=by intro _ _;rfl):PE X (.Subscript a b pos) (tD (md X) (aG aS f g)):=mR Jk (JA GE h d i)
end
inductive Tag where
 |tu|fr|st (k:Nat)|fz (k:Nat)
def zg(M:Md)(ρ:List Addr)(H:Hp)(a:Addr)(vs:List V):Tag->Prop
 |.tu=>ic M.K H a vs
 |.fr=>H a=some (.lst vs)/\a∉ρ
 |.st k=>ρ[k]?=some a/\H a=some (.lst vs)
 |.fz k=>ρ[k]?=some a/\∃o,H a=some (.frz o (.lst vs))
abbrev fE:=dt->aI->Option ((List D×Tag)×aI)
def tQ(M:Md)(f:fE):TE:=λj H Q=>∃i g S e t h,Ok M i g S j H/\f g S=some ((e,t),h)∧
 ∀b a d c,b9 i H b c->fF M b h c->zg M b c a d t->a_ M b c e d->Q (.ref a) c
def zg.sq{M:Md}{ρ:List Addr}{H:Hp}{a:Addr}{vs:List V}{t:Tag}(h:zg M ρ H a vs t):iM M.K H a vs\/ic M.K H a vs:=by
 cases t with
 |tu=>exact .inr h
 |fr=>exact .inl (iM.of h.1)
 |st k=>exact .inl (iM.of h.2)
 |fz k=>obtain⟨_,o,h⟩:=h;exact .inl (.inl (.inr ⟨o,h⟩))
def Tag.isL:Tag->Bool
 |.tu=>false
 |_=>true
def Tag.isM:Tag->Bool
 |.fr=>true
 |.st _=>true
 |_=>false
def zg.sqL{M:Md}{ρ:List Addr}{H:Hp}{a:Addr}{vs:List V}{t:Tag}(h:zg M ρ H a vs t)(c:t.isL=true):iM M.K H a vs:=by
 cases t with
 |tu=>cases c
 |fr=>exact iM.of h.1
 |st k=>exact iM.of h.2
 |fz k=>obtain⟨_,o,h⟩:=h;exact .inl (.inr ⟨o,h⟩)
def zg.sqM{M:Md}{ρ:List Addr}{H:Hp}{a:Addr}{vs:List V}{t:Tag}(h:zg M ρ H a vs t)(c:t.isM=true):H a=some (.lst vs):=by
 cases t with
 |tu=>cases c
 |fr=>exact h.1
 |st k=>exact h.2
 |fz k=>cases c
def zg.sqT{M:Md}{ρ:List Addr}{H:Hp}{a:Addr}{vs:List V}{t:Tag}(h:zg M ρ H a vs t)(c:t.isL=false):ic M.K H a vs:=by
 cases t with
 |tu=>exact h
 |fr=>cases c
 |st k=>cases c
 |fz k=>cases c
def Tag.stays(S:aI)(ds:List D):Tag->Prop
 |.st k=>S[k]?=some (.lst ds)
 |.fz k=>S[k]?=some (.frz ds)
 |_=>True
def ic.ext{K:PySem.W.Frag}{ρ b:List Addr}{H c:Hp}{a:Addr}{vs:List V}(e:b9 ρ H b c)(h:ic K H a vs):ic K c a vs:=by
 rcases h with(h|⟨o,h⟩)|h
 ·exact .inl (.inl (e.keep _ _ h (.inr trivial)))
 ·exact .inl (.inr ⟨o,e.keep _ _ h (.inr trivial)⟩)
 ·exact .inr h
def zg.to{M:Md}{ρ d:List Addr}{S:aI}{H i:Hp}{a:Addr}{vs:List V}{ds:List D}{t:Tag}(h:zg M ρ H a vs t)(r:a_ M ρ H ds vs)(e:b9 ρ H d i)(st:fF M d S i)(c:t.stays S ds):∃b,zg M d i a b t/\a_ M d i ds b:=by
 cases t with
 |tu=>exact⟨vs,ic.ext e h,r.ext e⟩
 |fr=>exact⟨vs,⟨e.keep _ _ h.1 (.inl h.2),λm=>(e.new a m).elim h.2 λz=>by have f:=h.1;rw[z] at f;cases f⟩,r.ext e⟩
 | st k=>
   have g:=cV e.pre h.1
   obtain⟨b,f,j⟩:=st.obj k a _ g c
   exact⟨b,⟨g,f⟩,j⟩
 | fz k=>
   have g:=cV e.pre h.1
   obtain⟨b,o,f,j⟩:=st.obj k a _ g c
   exact⟨b,⟨g,o,f⟩,j⟩
section
variable{X:Cx}{a b c e:Expr}{pos:Pos}
def ni(f:gW):fE:=λg S=>(f g S).bind λ(d,h)=>some ((d,.fr),h)
def sk{f:gW}(h:PE X e (tL (md X) f)):PE X e (tQ (md X) (ni f)):=j2 h λy H Q o=>by
 obtain⟨n,m,S,v,t,A,ok,e,q⟩:=o
 obtain⟨⟨d,k⟩,i,e⟩:=ar e
 obtain⟨g,rfl⟩:=cx e
 obtain⟨rfl,rfl⟩:=Prod.mk.inj g
 exact⟨n,m,S,d,k,ok,i,λp a u w x s z r l j=>q _ _ _ _ x s ⟨l,r⟩ j⟩
def m5(S:aI):D->Option (List D×Tag)
 |.tup d=>some (d,.tu)
 | .ref k=>match S[k]? with
   |some (.lst d)=>some (d,.st k)
   |some (.frz d)=>some (d,.fz k)
   |_=>none
 |_=>none
def cq(f:bA):fE:=λh S=>(f h S).bind λ(d,g)=>(m5 g d).bind λp=>some (p,g)
def zG{M:Md}{ρ:List Addr}{S:aI}{H:Hp}{d:D}{v:V}{ds:List D}{t:Tag}(st:fF M ρ S H)(r:Rel M ρ H d v)(e:m5 S d=some (ds,t)):∃a vs,v=.ref a/\zg M ρ H a vs t/\a_ M ρ H ds vs:=by
 cases r with
 |tup h i=>simp only[m5] at e;cases e;exact⟨_,_,rfl,ic.of h,i⟩
 | ref h=>
   simp only[m5] at e
   split at e
   · rename_i q
     cases e
     obtain⟨vs,g,f⟩:=st.obj _ _ _ h q
     exact⟨_,vs,rfl,⟨h,g⟩,f⟩
   · rename_i q
     cases e
     obtain⟨vs,o,g,f⟩:=st.obj _ _ _ h q
     exact⟨_,vs,rfl,⟨h,o,g⟩,f⟩
   · cases e
 |_=>simp only[m5,reduceCtorEq] at e
def gE{f:bA}(h:PE X e (tD (md X) f)):PE X e (tQ (md X) (cq f)):=j2 h λz H Q o=>by
 obtain⟨n,m,S,w,t,B,ok,e,q⟩:=o
 obtain⟨⟨d,l⟩,k,e⟩:=ar e
 obtain⟨⟨j,A⟩,i,e⟩:=ar e
 obtain⟨p,rfl⟩:=cx e
 obtain⟨rfl,rfl⟩:=Prod.mk.inj p
 refine⟨n,m,S,d,l,ok,k,λs v y x g r=> ?_⟩
 obtain⟨a,u,rfl,h1,h2⟩:=zG g r i
 exact q _ _ _ _ x g h1 h2
def ja{f:fE}{p:Pos}(n:Gl X "len")(w:X.mg "len"=none)(o:PE X a (tQ (md X) f))(k:starEach [a] X.env= [(false,eval a X.env)]:=by rfl):
  PE X (.Call (.Name "len" p) [a] [] pos) (tD (md X) λi S=>(f i S).bind λ(p,g)=>some (.int p.1.length,g)):=
 j2 (d_ mQ n w PySem.boot_len (dG o gF k) (he:=k)) λA H Q u=>by
  obtain⟨s,i,S,d,B,ok,e,q⟩:=u
  obtain⟨⟨⟨l,t⟩,g⟩,m,e⟩:=ar e
  obtain⟨rfl,rfl⟩:=cx e
  refine⟨s,i,S,l,t,g,ok,m,λv a j z x y h r=>⟨a,j,rfl,h.sq,?_⟩⟩
  have:=q _ (.int j.length) _ x y (by rw[←r.length];exact .int _)
  exact this
def kT(f:fE):bA:=λd S=>(f d S).bind λ(p,g)=>some (.int p.1.length,g)
def tupQ(f:fE):bA:=λd S=>(f d S).bind λ(p,g)=>some (.tup p.1,g)
def fV{f:fE}{p:Pos}(o:Gl X "tuple")(z:X.mg "tuple"=none)(u:PE X a (tQ (md X) f))(k:starEach [a] X.env= [(false,eval a X.env)]:=by rfl)(ht:∀i S ds t m,f i S=some ((ds,t),m)->t.isL=true):
  PE X (.Call (.Name "tuple" p) [a] [] pos) (tD (md X) (tupQ f)):=
 j2 (i0 sV o z (by rfl) (dG u gF k) (he:=k)) λC H Q w=>by
  obtain⟨v,i,S,d,m,ok,e,q⟩:=w
  obtain⟨⟨⟨ds,t⟩,s⟩,j,e⟩:=ar e
  obtain⟨rfl,rfl⟩:=cx e
  refine⟨v,i,S,ds,t,s,ok,j,λy a n B x A h r=>⟨a,n,rfl,.inl ⟨h.sqL (ht _ _ _ _ _ j),λl g=> ?_⟩⟩⟩
  exact q _ _ _ (x.trans (b9.laid g)) (A.lay g) (.tup bQ (r.ext (b9.laid g)))
def iz{f:gW}:∀d S ds t g,ni f d S=some ((ds,t),g)->t.isL=true:=λd S ds t g e=>by
 obtain⟨⟨h,j⟩,i,e⟩:=ar e
 cases e
 rfl
def kQ(f:fE):fE:=λd S=>(f d S).bind λ(p,g)=>if p.2.isL=true then some (p,g) else none
def oS{f:fE}:∀d S ds t g,kQ f d S=some ((ds,t),g)->t.isL=true:=λd S ds t g e=>by
 obtain⟨⟨⟨h,k⟩,j⟩,i,e⟩:=ar e
 dsimp only at e
 split at e <;>cases e
 assumption
def F3{f:fE}(h:PE X e (tQ (md X) f)):PE X e (tQ (md X) (kQ f)):=j2 h λp H Q j=>by
 obtain⟨m,l,S,o,t,r,ok,e,q⟩:=j
 obtain⟨⟨⟨d,n⟩,i⟩,g,e⟩:=ar e
 dsimp only at e
 split at e
 ·obtain⟨k,rfl⟩:=cx e
  obtain⟨rfl,rfl⟩:=Prod.mk.inj k
  exact⟨m,l,S,d,n,i,ok,g,q⟩
 ·cases e
def HM:List D->Option (List Bool)
 | []=>some []
 |.bl b::r=>(HM r).bind λd=>some (b::d)
 |_::_=>none
theorem Ee{M:Md}{ρ:List Addr}{H:Hp}:∀{ds:List D} {vs:List V} {bs:List Bool},a_ M ρ H ds vs->HM ds=some bs->vs=bs.map V.bl
 | [],_,_,h,e=>by cases h;cases e;rfl
 | d::ds,_,_,h,e=>by
   cases d with
   | bl b=>
     simp only[HM] at e
     obtain⟨g,f,e⟩:=ar e
     cases e
     cases h with
     | cons h i=>
       cases h
       rw[Ee i f]
       rfl
   |_=>cases e
def FZ(f:fE):bA:=λg S=>(f g S).bind λ(p,h)=>if p.2.isL=true then(HM p.1).bind λd=>some (.bl (d.all id),h) else none
def JK{f:fE}{p:Pos}(i:X.calm=true)(m:Gl X "all")(z:X.mg "all"=none)(s:PE X a (tQ (md X) f))(g:starEach [a] X.env= [(false,eval a X.env)]:=by rfl):
  PE X (.Call (.Name "all" p) [a] [] pos) (tD (md X) (FZ f)):=
 j2 (d_ (B1 i) m z (by rfl) (dG s gF g) (he:=g)) λF H Q w=>by
  obtain⟨v,u,S,d,G,ok,e,q⟩:=w
  obtain⟨⟨⟨j,t⟩,n⟩,l,e⟩:=ar e
  dsimp only at e
  split at e
  ·rename_i c
   obtain⟨o,k,e⟩:=ar e
   obtain⟨rfl,rfl⟩:=cx e
   refine⟨v,u,S,j,t,n,ok,l,λy a B C x A h r=>⟨a,o,rfl,?_,q _ _ _ x A (.bl _)⟩⟩
   rw[←Ee r k]
   exact h.sqL c
  ·cases e
def EV(S:aI)(T:String):D->Option Bool
 |.non=>some (T=="NoneType")
 |.bl _=>some (T=="bool" ||T=="int")
 |.int _=>some (T=="int")
 |.str _=>some (T=="str")
 |.tup _=>some (T=="tuple")
 | .ref k=>match S[k]? with
   |some (.lst _)=>some (T=="list")
   |some (.frz _)=>some (T=="list")
   |some (.dct _)=>some (T=="dict")
   |_=>none
 |.fn _=>none
def J2(K:PySem.W.Frag)(T:String):Prop:=(PySem.W.kitOne K (.type "NoneType") (.type T)=some (T=="NoneType"))/\(PySem.W.kitOne K (.type "bool") (.type T)=some (T=="bool" ||T=="int"))/\(PySem.W.kitOne K (.type "int") (.type T)=some (T=="int"))/\(PySem.W.kitOne K (.type "str") (.type T)=some (T=="str"))∧
 (PySem.W.kitOne K (.type "tuple") (.type T)=some (T=="tuple"))/\(PySem.W.kitOne K (.type "list") (.type T)=some (T=="list"))/\(PySem.W.kitOne K (.type "dict") (.type T)=some (T=="dict"))
def oz(T:String)(f:bA):bA:=λh S=>(f h S).bind λ(d,g)=>(EV g T d).bind λk=>some (.bl k,g)
def mN{T:String}{l:Expr}{f:bA}{p:Pos}(N:J2 X.K T)(F:Gl X "isinstance")(Y:X.mg "isinstance"=none)(J:PE X a (tD (md X) f))(ht:PE X l (tC (.ty T)))(t:starEach [a,l] X.env= [(false,eval a X.env),(false,eval l X.env)]:=by rfl)(j:starEach [l] X.env= [(false,eval l X.env)]:=by rfl):
  PE X (.Call (.Name "isinstance" p) [a,l] [] pos) (tD (md X) (oz T f)):=
 j2 (d_ C3 F Y boot_isinstance (dG J (dG ht gF j) (by rw[t,j])) (he:=by rw[t,j]) (hpl:=by rw[j];rfl)) λσ H Q U=>by
  obtain⟨P,L,S,d,S',ok,e,q⟩:=U
  obtain⟨⟨R,G⟩,C,e⟩:=ar e
  obtain⟨k,i,e⟩:=ar e
  obtain⟨rfl,rfl⟩:=cx e
  obtain⟨z,I,M,y,B,w,A⟩:=N
  refine⟨P,L,S,R,G,ok,C,λW v Z x s r=> ?_⟩
  have g:=q _ _ _ x s (.bl _)
  cases r with
  |non=>cases i;exact⟨_,_,_,_,rfl,.non,z,g⟩
  |bl=>cases i;exact⟨_,_,_,_,rfl,.bl _,I,g⟩
  |int=>cases i;exact⟨_,_,_,_,rfl,.int _,M,g⟩
  |str=>cases i;exact⟨_,_,_,_,rfl,.str _,y,g⟩
  |tup h t=>cases i;exact⟨_,_,_,_,rfl,.tup h,B,g⟩
  |fn=>cases i
  | ref h=>
    simp only[EV] at i
    split at i
    · rename_i m;cases i;obtain⟨u,n,_⟩:=s.obj _ _ _ h m;exact⟨_,_,_,_,rfl,.lst n,w,g⟩
    · rename_i m;cases i;obtain⟨u,o,n,_⟩:=s.obj _ _ _ h m;exact⟨_,_,_,_,rfl,.frz n,w,g⟩
    · rename_i m;cases i;obtain⟨u,n,_⟩:=s.obj _ _ _ h m;exact⟨_,_,_,_,rfl,.dK n,A,g⟩
    · cases i
abbrev Ga:=List D->Option D
def DS(M:Md)(r:List V->Hp->VK->Prop)(o:Ga):Prop:=∀{f:List Addr} {S:aI} {H:Hp} {h:List D} {d:D} {g:List V} {Q:VK},fF M f S H->a_ M f H h g->o h=some d->(∀w,Rel M f H d w->Q w H)->r g H Q
def Ap(o:Ga)(f:gW):bA:=λh S=>(f h S).bind λ(g,i)=>(o g).bind λd=>some (d,i)
def sE{r:List V->Hp->VK->Prop}{o:Ga}{f:gW}(s:DS (md X) r o)(h:PE X e (Kj r (wF (md X) f))):PE X e (tD (md X) (Ap o f)):=j2 h λz H Q v=>by
 obtain⟨u,p,S,d,B,ok,e,q⟩:=v
 obtain⟨⟨k,n⟩,m,e⟩:=ar e
 obtain⟨A,x,e⟩:=ar e
 obtain⟨rfl,rfl⟩:=cx e
 exact⟨u,p,S,k,n,ok,m,λi y H1 l g t=>s g t x λw j=>q i w H1 l g j⟩
def Ft:Ga
 | [.int i]=>some (.int (if i<0 then -i else i))
 |_=>none
def maxD:Ga
 | [.int i,.int j]=>some (.int (if j>i then j else i))
 |_=>none
def minD:Ga
 | [.int i,.int j]=>some (.int (if j<i then j else i))
 |_=>none
def intOfD:Ga
 | [.int i]=>some (.int i)
 | [.bl k]=>some (.int (if k then 1 else 0))
 |_=>none
def HP{M:Md}:DS M (λxs H Q=>∃i,xs= [.int i]/\Q (.int (if i<0 then -i else i)) H) Ft:=by
 intro j S H xs d g Q h r e q
 unfold Ft at e
 split at e <;>cases e
 cases r with|cons r f=>cases f;cases r;exact⟨_,rfl,q _ (.int _)⟩
def D6{M:Md}:DS M (λxs H Q=>∃i j,xs= [.int i,.int j]/\Q (.int (if j>i then j else i)) H) maxD:=by
 intro l S H xs d h Q k r e q
 unfold maxD at e
 split at e <;>cases e
 cases r with|cons r f=>cases f with|cons g f=>cases f;cases r;cases g;exact⟨_,_,rfl,q _ (.int _)⟩
def yk{M:Md}:DS M (λxs H Q=>∃i j,xs= [.int i,.int j]/\Q (.int (if j<i then j else i)) H) minD:=by
 intro l S H xs d h Q k r e q
 unfold minD at e
 split at e <;>cases e
 cases r with|cons r f=>cases f with|cons g f=>cases f;cases r;cases g;exact⟨_,_,rfl,q _ (.int _)⟩
def mK{M:Md}:DS M (λxs H Q=>(∃i,xs= [.int i]/\Q (.int i) H)\/∃k,xs= [.bl k]/\Q (.int (if k then 1 else 0)) H) intOfD:=by
 intro j S H xs d g Q h r e q
 unfold intOfD at e
 split at e <;>cases e
 ·cases r with|cons r f=>cases f;cases r;exact .inl ⟨_,rfl,q _ (.int _)⟩
 ·cases r with|cons r f=>cases f;cases r;exact .inr ⟨_,rfl,q _ (.int _)⟩
def m3:List D->Option (List V)
 | []=>some []
 |d::r=>(ua d).bind λv=>(m3 r).bind λf=>some (v::f)
def qi{d:D}{v:V}(e:ua d=some v):gJ v=true:=by
 cases d <;>simp[ua] at e <;>subst e <;>rfl
theorem qH{M:Md}{ρ:List Addr}{H:Hp}:∀{ds:List D} {d vs:List V},a_ M ρ H ds d->m3 ds=some vs->d=vs/\vs.all gJ=true
 |_,_,_,.nil,e=>by cases e;exact⟨rfl,rfl⟩
 | _,_,_,.cons h hs,e=>by
   obtain⟨v,f,e⟩:=ar e
   obtain⟨vs,j,e⟩:=ar e
   cases e
   obtain⟨g,i⟩:=qH hs j
   rw[lE h f,g]
   exact⟨rfl,by rw[List.all_cons,qi f,i];rfl⟩
def B4(d:Bool)(f:bA)(g:fE):bA:=λi S=>(f i S).bind λ(x,k)=>(g i k).bind λ(p,j)=>(ua x).bind λv=>(m3 p.1).bind λh=>some (.bl (if d then !Dt v h else Dt v h),j)
def zz{f:bA}{t:TE}(i:∀d H Q,tD (md X) f d H Q->t d H Q)(h:PT X e (CG t)):PT X e (tB (md X) (aV f)):=Kh h λd H Q ⟨n,j,S,k,m,ok,e,q⟩=>
 i _ _ _ ⟨n,j,S,.bl k,m,ok,r8 e,λl v o x g r=>by cases r;exact⟨k,rfl,q _ _ x g⟩⟩
def F1{h:Bool}{f:bA}{g:fE}:∀j H Q,tD (md X) (B4 h f g) j H Q->Gr (K8 X.K h) (tD (md X) f) (tQ (md X) g) j H Q:=λj H Q J=>by
 obtain⟨G,o,S,d,R,ok,e,q⟩:=J
 obtain⟨⟨x,n⟩,y,e⟩:=ar e
 obtain⟨⟨⟨s,t⟩,L⟩,w,e⟩:=ar e
 obtain⟨v,p,e⟩:=ar e
 obtain⟨P,B,e⟩:=ar e
 obtain⟨rfl,rfl⟩:=cx e
 refine⟨G,o,S,x,n,ok,y,λi u H1 m k F=>⟨i,o,n,s,t,L,ok.to m k,w,λI a r H2 C l A z=> ?_⟩⟩
 cases lE F p
 obtain⟨N,M⟩:=qH z B
 subst N
 exact⟨a,r,rfl,A.sq,qi p,M,q _ _ _ (m.trans C) l (.bl _)⟩
def Ct{f:bA}{g:fE}(h:PE X a (tD (md X) f))(d:PE X b (tQ (md X) g))(i:behindInMarks .In b=false:=by rfl):PT X (.Compare a [.In] [b] pos) (tB (md X) (aV (B4 false f g))):=zz F1 (p7 AZ h d i)
def uF{f:bA}{g:fE}(h:PE X a (tD (md X) f))(d:PE X b (tQ (md X) g))(i:behindInMarks .NotIn b=false:=by rfl):PT X (.Compare a [.NotIn] [b] pos) (tB (md X) (aV (B4 true f g))):=zz F1 (p7 vt h d i)
end
inductive Out where
 |nx (Γ:dt) (S:aI)|bk (Γ:dt) (S:aI)|ct (Γ:dt) (S:aI)|rt (d:D) (S:aI)|rl (ds:List D) (S:aI)
abbrev cZ:=dt->aI->Option Out
def vc(M:Md)(ρ:List Addr)(H:Hp)(D:Ends):Out->Prop
 |.nx f g=>∀b e c,b9 ρ H b c->Ok M b f g e c->D.nx e c
 |.bk f g=>∀b e c,b9 ρ H b c->Ok M b f g e c->D.bk e c
 |.ct f g=>∀b e c,b9 ρ H b c->Ok M b f g e c->D.ct e c
 |.rt d g=>∀b v c,b9 ρ H b c->fF M b g c->Rel M b c d v->D.rt v c
 |.rl i g=>∀b a h c,b9 ρ H b c->fF M b g c->H a=none->a∉b->c a=some (.lst h)->a_ M b c i h->D.rt (.ref a) c
def vc.to{M:Md}{ρ c:List Addr}{H H1:Hp}{D:Ends}{o:Out}(h:vc M ρ H D o)(e:b9 ρ H c H1):vc M c H1 D o:=by
 cases o with
 |nx=>exact λb d f x ok=>h _ _ _ (e.trans x) ok
 |bk=>exact λb d f x ok=>h _ _ _ (e.trans x) ok
 |ct=>exact λb d f x ok=>h _ _ _ (e.trans x) ok
 |rt=>exact λb v f x g r=>h _ _ _ (e.trans x) g r
 |rl=>exact λb a l f x g j k i r=>h _ _ _ _ (e.trans x) g (e.grow _ j) k i r
def tS(M:Md)(g:cZ):TS:=λD c H=>∃b a S o,Ok M b a S c H/\g a S=some o/\vc M b H D o
section
variable{X:Cx}{a b c e:Expr}{pos:Pos}{st:Stmt}{rest body other:List Stmt}
def gr:cZ:=λd S=>some (.nx d S)
def bI:pO X [] (tS (md X) gr):=Jo FM λD f H ⟨g,d,S,o,ok,e,q⟩=>by cases e;exact q _ _ _ b9.refl ok
noncomputable def aK(f g:cZ):cZ:=λh S=>(f h S).bind λo=>match o with
 |.nx d i=>g d i
 |o=>some o
def az{f g:cZ}(p:PS X st (tS (md X) f))(m:pO X rest (tS (md X) g)):pO X (st::rest) (tS (md X) (aK f g)):=Jo (CB p m) λD v H t=>by
 obtain⟨s,r,S,o,ok,e,q⟩:=t
 obtain⟨j,l,e⟩:=ar e
 refine⟨s,r,S,j,ok,l,?_⟩
 cases j with
 |nx i n=>exact λd u H1 k h=>⟨d,i,n,o,h,e,q.to k⟩
 |bk=>cases e;exact q
 |ct=>cases e;exact q
 |rt=>cases e;exact q
 |rl=>cases e;exact q
def aH{f:cZ}(d:PS X st (tS (md X) f)):pO X [st] (tS (md X) f):=Fg d
def never:cZ:=λ_ _=>none
def zS:PS X st (tS (md X) never):=Ad Cr λD f H ⟨g,d,S,o,ok,e,q⟩=>by cases e
def Ek(f:bA):cZ:=λd S=>(f d S).bind λ(_,g)=>some (.nx d g)
def lD{f:bA}(h:PE X e (tD (md X) f))(m:swapsWith e none pos.line X.env=pure false:=by rfl):PS X (.Expr e pos) (tS (md X) (Ek f)):=Ad (E4 h m) λD s H l=>by
 obtain⟨k,j,S,o,ok,e,q⟩:=l
 obtain⟨⟨d,i⟩,g,e⟩:=ar e
 cases e
 exact⟨k,j,S,d,i,ok,g,λn v p x st r=>q _ _ _ x (ok.to x st)⟩
noncomputable def cK(f:bA):cZ:=λg S=>(f g S).bind λ(d,h)=>some (.rt d h)
def aO{f:bA}(h:PE X e (tD (md X) f)):PS X (.Return (some e) pos) (tS (md X) (cK f)):=Ad (Dv h) λD m H i=>by
 obtain⟨l,j,S,o,ok,e,q⟩:=i
 obtain⟨⟨d,k⟩,g,e⟩:=ar e
 cases e
 exact⟨l,j,S,d,k,ok,g,q⟩
noncomputable def Gq(f:gW):cZ:=λg S=>(f g S).bind λ(d,h)=>some (.rl d h)
def uZ{f:gW}(h:PE X e (tL (md X) f)):PS X (.Return (some e) pos) (tS (md X) (Gq f)):=Ad (Dv h) λD m H i=>by
 obtain⟨l,j,S,o,ok,e,q⟩:=i
 obtain⟨⟨d,k⟩,g,e⟩:=ar e
 cases e
 exact⟨l,j,S,d,k,ok,g,q⟩
def gg(c:jA)(f g:cZ):cZ:=λd S=>(c d S).bind λ(k,h)=>if k=true then f d h else g d h
def cO{h:jA}{f g:cZ}(n:PT X c (tB (md X) h))(s:pO X body (tS (md X) f))(r:pO X other (tS (md X) g)):PS X (.If c body other pos) (tS (md X) (gg h f g)):=Ad (JJ n s r) λD v H u=>by
 obtain⟨t,m,S,o,ok,e,q⟩:=u
 obtain⟨⟨k,l⟩,p,e⟩:=ar e
 refine⟨t,m,S,k,l,ok,p,λd H1 j i=> ?_⟩
 dsimp only at e
 split at e
 ·rename_i c
  rw[Qhq c]
  exact⟨d,m,l,o,ok.to j i,e,q.to j⟩
 ·rename_i c
  rw[Quq c]
  exact⟨d,m,l,o,ok.to j i,e,q.to j⟩
abbrev mf:=D->dt->aI->Option (dt×aI)
abbrev pz:=List D->dt->aI->Option (dt×aI)
def tG(M:Md)(g:mf):TG:=λv n H Q=>∃k l S d i m,Ok M k l S n H/\Rel M k H d v/\g d l S=some (i,m)/\∀h f j,b9 k H h j->Ok M h i m f j->Q f j
def J_(M:Md)(g:pz):Fj:=λn o H Q=>∃j l S k h m,Ok M j l S o H/\a_ M j H k n/\g k l S=some (h,m)/\∀f d i,b9 j H f i->Ok M f h m d i->Q d i
def KU{t t':TG}(h:PG X e t)(w:∀v f H Q,t' v f H Q->t v f H Q):PG X e t':=λd s f H v u Q I r q=>h d s f H v u Q I r (w _ _ _ _ q)
def JW{g:List Expr}{t t':Fj}(h:Em X g t)(w:∀v f H Q,t' v f H Q->t v f H Q):Em X g t':=λd s f H v u Q I r q=>h d s f H v u Q I r (w _ _ _ _ q)
def cy(i:Nat):mf:=λd f S=>some (f.set i (some d),S)
def Dp{i:Nat}(h:PG X e (qz i)):PG X e (tG (md X) (cy i)):=KU h λv k H Q f=>by
 obtain⟨m,j,S,d,g,l,ok,r,e,q⟩:=f
 cases e
 exact q _ _ _ b9.refl ⟨ok.en.set r,ok.st⟩
def dQ:pz:=λd f S=>match d with
 | []=>some (f,S)
 |_=>none
def aN(f:mf)(g:pz):pz:=λi j S=>match i with
 |d::r=>(f d j S).bind λ(h,k)=>g r h k
 | []=>none
def bK:Em X [] (J_ (md X) dQ):=JW E1 λg j H Q d=>by
 obtain⟨l,i,S,h,f,k,ok,r,e,q⟩:=d
 cases r with
 |nil=>cases e;exact⟨rfl,q _ _ _ b9.refl ok⟩
 |cons=>cases e
def aC{h:List Expr}{f:mf}{g:pz}(v:PG X e (tG (md X) f))(t:Em X h (J_ (md X) g))(B:(assignEach (e::h) X.env).map (·.2)=assign e X.env::(assignEach h X.env).map (·.2):=by rfl):Em X (e::h) (J_ (md X) (aN f g)):=
 JW (CK v t B) λF I H Q z=>by
  obtain⟨x,w,S,G,l,C,ok,r,e,q⟩:=z
  cases r with
  |nil=>cases e
  | cons r s=>
    obtain⟨⟨d,n⟩,p,e⟩:=ar e
    refine⟨_,_,rfl,x,w,S,_,d,n,ok,r,p,λi A H1 m k=>⟨i,d,n,_,l,C,k,s.ext m,e,λy o H2 u j=>q _ _ _ (m.trans u) j⟩⟩
def ju(g:pz):mf:=λd h S=>match d with
 |.tup f=>g f h S
 |_=>none
def nG(n:Nat)(g:pz):pz:=λd f S=>if d.length=n then g d f S else none
def cC{f:List Expr}{k:Nat}{g:pz}{n:Nat}(m:X.calm=true)(h:Em X f (J_ (md X) g))(o:(assignEach f X.env).length=n:=by rfl)(i:(assignEach f X.env).findIdx? (·.1)=none:=by rfl):
  PG X (.Tuple f k pos) (tG (md X) (ju (nG n g))):=KU (Hq m h o i) λv u H Q ⟨s,p,S,d,j,t,ok,r,e,q⟩=>by
 cases r with
 | tup h l=>
   simp only[ju,nG] at e
   split at e
   · rename_i c
     exact⟨_,_,rfl,ic.of h,by rw[←l.length];exact c,s,p,S,_,j,t,ok,l,e,q⟩
   · cases e
 |_=>cases e
def p8(f:bA)(g:mf):cZ:=λi S=>(f i S).bind λ(d,k)=>(g d i k).bind λ(h,j)=>some (.nx h j)
def Ju{f:bA}{g:mf}:∀D k H,tS (md X) (p8 f g) D k H->BS (tD (md X) f) (tG (md X) g) D k H:=λD k H z=>by
 obtain⟨x,p,S,o,ok,e,q⟩:=z
 obtain⟨⟨d,n⟩,t,e⟩:=ar e
 obtain⟨⟨j,A⟩,s,e⟩:=ar e
 cases e
 exact⟨x,p,S,d,n,ok,t,λh v H1 m l w=>⟨h,p,n,d,j,A,ok.to m l,w,s,λy r H2 u i=>q _ _ _ (m.trans u) i⟩⟩
def fc{d:Expr}{f:bA}{g:mf}(he:PE X e (tD (md X) f))(k:PG X d (tG (md X) g))(j:swapsWithSole [d] e pos.line X.env=pure false:=by rfl)(i:swappedStores [d] e X.env=pure none:=by rfl)
  (h:(assignEach [d] X.env).map (·.2)= [assign d X.env]:=by rfl):PS X (.Assign [d] e pos) (tS (md X) (p8 f g)):=Ad (HF he k j i h) Ju
noncomputable def bu(i:Nat)(f:bA):cZ:=λg S=>(f g S).bind λ(d,h)=>some (.nx (g.set i (some d)) h)
def Jh{i:Nat}{f:bA}(h:PS X st (BS (tD (md X) f) (qz i))):PS X st (tS (md X) (bu i f)):=Ad h λD t H s=>by
 obtain⟨r,n,S,o,ok,e,q⟩:=s
 obtain⟨⟨d,m⟩,l,e⟩:=ar e
 cases e
 exact⟨r,n,S,d,m,ok,l,λk v H1 j g p=>q _ _ _ j ⟨(ok.en.ext j).set p,g⟩⟩
abbrev vT:=dt->aI->Option ((List D×(aI->Prop))×aI)
def Walks(M:Md)(J:It)(ρ:List Addr)(H:Hp)(ds:List D)(W:aI->Prop):Prop:=∀(i:Nat) (f:List Addr) (j:aI) (h:Hp),b9 ρ H f h->fF M f j h->W j→
 (∀d,ds[i]?=some d->J.go i h/\∀x g,J.yld i h x g->b9 f h f g/\fF M f j g/\Rel M f g d x)/\(i=ds.length->J.stop i h)
def tI(M:Md)(f:vT):TI:=λl H R=>∃k i S h W j,Ok M k i S l H/\f i S=some ((h,W),j)/\∀d J g,b9 k H d g->fF M d j g->Walks M J d g h W->R J g
def Kl{g:Expr}{t t':TI}(h:PI X g e t)(w:∀f H R,t' f H R->t f H R):PI X g e t':=λd s f H R I q=>h d s f H R I (w _ _ _ q)
def Ig{y l:Expr}{r:TE}(t:PE X l r):PI X y l (λk H R=>r k H λx H1=>∃a,x=.ref a/\((∃xs,iM X.K H1 a xs)/\R (LA X.K a) H1\/(∃xs,ic X.K H1 a xs)/\R (Lw X.K a) H1)):=by
 intro i s k H R I h
 refine cP (t i s k H _ I h) λv d A=> ?_
 obtain⟨x,H1,f,z,n⟩:=A
 obtain⟨a,e,n⟩:=n
 subst e
 cases z
 rcases n with⟨⟨xs,j⟩,q⟩|⟨⟨xs,j⟩,q⟩
 ·obtain⟨g,w,p,u⟩:=f.list j
  refine wpAny_pyIter_list p.isList ?_
  refine⟨d.heap.objs.size,[d.heap.objs.size],_,_,H1,rfl,f.kept (t':=d.toks) λb o e=>Qcq _ e,Bt a _,⟨_,Qrq _ rfl,rfl,rfl⟩,λb m=> ?_,q⟩
  have e:b=d.heap.objs.size:=by simpa using m
  subst e
  exact f.fpOk (Qmq _) (f.hok.fresh (Qmq _))
 ·obtain⟨g,w,p,u⟩:=f.tuple j
  refine wpAny_pyIter_tuple (show d.heap.IsTuple a g.toArray from p) ?_
  refine⟨d.heap.objs.size,[d.heap.objs.size],_,_,H1,rfl,f.kept (t':=d.toks) λb o e=>Qcq _ e,zj a _,⟨_,Qrq _ rfl,rfl,rfl⟩,λb m=> ?_,q⟩
  have e:b=d.heap.objs.size:=by simpa using m
  subst e
  exact f.fpOk (Qmq _) (f.hok.fresh (Qmq _))
def sm(f:fE):vT:=λd S=>(f d S).bind λ(p,h)=>some ((p.1,λg=>p.2.stays g p.1),h)
def g_{K l:Expr}{f:fE}(I:PE X l (tQ (md X) f)):PI X K l (tI (md X) (sm f)):=Kl (Ig I) λZ H R N=>by
 obtain⟨M,L,S,U,W,S',ok,e,q⟩:=N
 obtain⟨⟨⟨s,t⟩,J⟩,G,e⟩:=ar e
 obtain⟨F,rfl⟩:=cx e
 obtain⟨rfl,rfl⟩:=Prod.mk.inj F
 refine⟨M,L,S,s,t,J,ok,G,λQ a C Y x st h r=>⟨a,rfl,?_⟩⟩
 cases c:t.isL with
 | true=>
   refine .inl ⟨⟨C,h.sqL c⟩,q _ _ _ x st λi B P H2 z j w=> ?_⟩
   obtain⟨g,u,o⟩:=h.to r z j w
   have m:=u.sqL c
   refine⟨λd y=> ?_,λp=>⟨g,m,by rw[p,o.length];exact Qmq _⟩⟩
   obtain⟨v,n,A⟩:=o.get y
   refine⟨⟨g,v,m,n⟩,λx H3 k=> ?_⟩
   obtain⟨rfl,k⟩:=k
   have:=k g m
   rw[n] at this
   cases this
   exact⟨b9.refl,j,A⟩
 | false=>
   refine .inr ⟨⟨C,h.sqT c⟩,q _ _ _ x st λi B P H2 z j w=> ?_⟩
   obtain⟨g,u,o⟩:=h.to r z j w
   have m:=u.sqT c
   refine⟨λd y=> ?_,λp=>⟨g,m,by rw[p,o.length];exact Qmq _⟩⟩
   obtain⟨v,n,A⟩:=o.get y
   refine⟨⟨g,v,m,n⟩,λx H3 k=> ?_⟩
   obtain⟨rfl,k⟩:=k
   have:=k g m
   rw[n] at this
   cases this
   exact⟨b9.refl,j,A⟩
def q_(lo hi:Int):List D:=(List.range (hi-lo).toNat).map λ(i:Nat)=>D.int (lo+(i:Int))
def xV(f:bA):vT:=λg S=>(f g S).bind λ(d,h)=>match d with
 |.int j=>if -(2^62)<=j/\j<2^62 then some ((q_ 0 j,λ_=>True),h) else none
 |_=>none
def BU{M:Md}{ρ:List Addr}{H:Hp}{lo hi:Int}:Walks M (Kq lo (hi-lo).toNat) ρ H (q_ lo hi) (λ_=>True):=λi n p H2 o g w=>by
 unfold q_
 refine⟨λd h=> ?_,λhi=>by rw[lQm,QVq] at hi;exact Nat.le_of_eq hi.symm⟩
 rw[gQm] at h
 obtain⟨k,m,rfl⟩:=oQm.mp h
 have f:=(gQs.mp m)
 obtain⟨f,j⟩:=f
 rw[List.getElem_range] at j
 subst j
 rw[QVq] at f
 refine⟨f,λx H3 l=> ?_⟩
 obtain⟨rfl,rfl⟩:=l
 exact⟨b9.refl,g,.int _⟩
def qZ{u a:Expr}{f:bA}{p:Pos}(o:Gl X "range")(y:X.mg "range"=none)(t:PE X a (tD (md X) f))(i:starEach [a] X.env= [(false,eval a X.env)]:=by rfl):PI X u (.Call (.Name "range" p) [a] [] pos) (tI (md X) (xV f)):=
 Kl (BH o y (aq t aw i) i) λB H R w=>by
  obtain⟨ρ,v,S,A,W,C,ok,e,q⟩:=w
  obtain⟨⟨d,s⟩,n,e⟩:=ar e
  dsimp only at e
  split at e
  ·rename_i j
   split at e
   ·rename_i h
    obtain⟨l,rfl⟩:=cx e
    obtain⟨rfl,rfl⟩:=Prod.mk.inj l
    refine⟨ρ,v,S,[.int j],s,ok,by unfold au aA;rw[n];rfl,λg z k x st r=> ?_⟩
    cases r with
    | cons r m=>
      cases m
      cases r
      refine⟨j,rfl,h.1,h.2,q _ _ _ x st ?_⟩
      have:=BU (M:=md X) (ρ:=g) (H:=k) (lo:=0) (hi:=j)
      rw[Int.sub_zero] at this
      exact this
   ·cases e
  ·cases e
open Classical in
def forL(g:mf)(b:cZ)(W:aI->Prop):List D->dt->aI->Option Out
 | [],Γ,S=>if W S then some (.nx Γ S) else none
 |d ::ds,Γ,S=>if W S then(g d Γ S).bind λ(i,j)=>(b i j).bind λo=>match o with
    |.nx f h=>forL g b W ds f h
    |.ct f h=>forL g b W ds f h
    |.bk f h=>some (.nx f h)
    |.rt x h=>some (.rt x h)
    |.rl x h=>some (.rl x h)
  else none
def pE(i:vT)(g:mf)(b:cZ):cZ:=λd S=>(i d S).bind λ(p,f)=>forL g b p.2 p.1 d f
def mV{Z j:Expr}{i:vT}{g:mf}{f:cZ}(hp:PassesOwn (model X.prog X.w) X.A X.env X.xe)(hc:X.calm=true)(hi:PI X Z j (tI (md X) i))(hg:PG X Z (tG (md X) g))(hb:pO X body (tS (md X) f))
  (hs:∀x,foldedSetIterable j X.env x=pure x:=by intro _;rfl):PS X (.For Z j body [] pos) (tS (md X) (pE i g f)):=Ad (G2 hp hc hi hg hb hs) λD σ H ⟨ρ,Γ,S,o,ok,e,q⟩=>by
 obtain⟨⟨⟨h,W⟩,S1⟩,e1,e⟩:=ar e
 refine⟨ρ,Γ,S,h,W,S1,ok,e1,λu J H1 x1 R wk=> ?_⟩
 have M:=q.to x1
 have N:=ok.to x1 R
 refine⟨λi m r z=>m=h.length-i/\i<=h.length/\∃d n y,b9 u H1 d z/\Ok (md X) d n y r z/\forL g f W (h.drop i) n y=some o,⟨h.length,by simp,Nat.zero_le _,u,Γ,S1,b9.refl,N,e⟩,?_⟩
 rintro i m a1 H2 ⟨rfl,hi,d,n,y,x2,ok2,e2⟩
 by_cases v:i<h.length
 ·have hd:h[i]?=some h[i]:=gQe v
  rw[QWq v] at e2
  unfold forL at e2
  split at e2
  ·rename_i w
   obtain⟨w1,w2⟩:=wk i d y H2 x2 ok2.st w
   obtain⟨go,U⟩:=w1 _ hd
   refine .inr ⟨go,λr z=>∃p l L,b9 u H1 p z/\Ok (md X) p l L r z/\forL g f W (h.drop (i+1)) l L=some o,λr z ⟨p,l,L,h1,h2,h3⟩=>⟨h.length-(i+1),by omega,rfl,v,p,l,L,h1,h2,h3⟩,λx H3 hy=> ?_⟩
   obtain⟨x3,Q,r3⟩:=U x H3 hy
   obtain⟨⟨G,S4⟩,e4,e5⟩:=ar e2
   refine⟨d,n,y,_,G,S4,ok2.to x3 Q,r3,e4,λY a0 H4 x4 P=> ?_⟩
   obtain⟨o5,e6,I⟩:=ar e5
   have K:=(x2.trans x3).trans x4
   refine⟨Y,G,S4,o5,P,e6,?_⟩
   cases o5 with
   |nx t B=>exact λs C H6 F k=>⟨s,t,B,K.trans F,k,I⟩
   |ct t B=>exact λs C H6 F k=>⟨s,t,B,K.trans F,k,I⟩
   |bk t B=>cases I;exact λs C H6 F k=>M _ _ _ (K.trans F) k
   |rt d6 B=>cases I;exact M.to K
   |rl d6 B=>cases I;exact M.to K
  ·cases e2
 ·have e3:i=h.length:=by omega
  subst e3
  rw[List.drop_length] at e2
  unfold forL at e2
  split at e2
  ·rename_i w
   cases e2
   obtain⟨w1,w2⟩:=wk h.length d y H2 x2 ok2.st w
   exact .inl ⟨w2 rfl,M _ _ _ x2 ok2⟩
  ·cases e2
end
section
variable{M:Md}{ρ:List Addr}{H:Hp}{b:Addr}{us ws:List V}
mutual
theorem Rel.off(a:H b=some (.lst us)):∀{d:D} {v:V},Rel M ρ H d v->Rel M ρ (upd H b (.lst ws)) d v
 |_,_,.non=>.non
 |_,_,.bl x=>.bl x
 |_,_,.int i=>.int i
 |_,_,.str x=>.str x
 |_,_,.tup h hs=>.tup (by rw[bj (D8 h a (by intro z;cases z))];exact h) (a_.off a hs)
 |_,_,.ref h=>.ref h
 |_,_,.fn h=>.fn h
theorem a_.off(a:H b=some (.lst us)):∀{ds:List D} {vs:List V},a_ M ρ H ds vs->a_ M ρ (upd H b (.lst ws)) ds vs
 |_,_,.nil=>.nil
 |_,_,.cons h hs=>.cons (Rel.off a h) (a_.off a hs)
end
theorem fF.off{S:aI}(st:fF M ρ S H)(f:H b=some (.lst us))(n:b∉ρ):fF M ρ S (upd H b (.lst ws)):=⟨st.len,st.nd,λk a o h l=>by
 have q:=st.obj k a o h l
 have g:a≠b:=λz=>n (z▸mQg h)
 cases o with
 |lst i=>obtain⟨e,d,c⟩:=q;exact⟨e,by rw[bj g];exact d,c.off f⟩
 |frz i=>obtain⟨e,o,d,c⟩:=q;exact⟨e,o,by rw[bj g];exact d,c.off f⟩
 |dct j=>obtain⟨m,d,c⟩:=q;exact⟨m,by rw[bj g];exact d,c.imp λ_ _ r=>r.off f⟩⟩
def En.off{a:dt}{c:L2.St}(h:En M ρ H a c)(e:H b=some (.lst us)):En M ρ (upd H b (.lst ws)) a c:=⟨h.len,λi d q=>by obtain⟨v,f,g⟩:=h.get i d q;exact⟨v,f,g.off e⟩⟩
def b9.off{d:List Addr}{f:Hp}(e:b9 d f ρ H)(g:f b=none)(u:HO):b9 d f ρ (upd H b u):=⟨e.pre,e.new,λa o h c=>by rw[bj (eX h g)];exact e.keep a o h c,λa h=>by
 by_cases z:a=b
 ·subst z;exact g
 ·rw[bj z] at h;exact e.grow a h⟩
end
def m9(js:List (Option Nat))(a:dt):dt:=js.map λo=>o.bind λj=>a.getD j none
def En.sig{M:Md}{ρ:List Addr}{H:Hp}{b:dt}{c:L2.St}(js:List (Option Nat))(h:En M ρ H b c):En M ρ H (m9 js b) (jo js c) where
 len:=by unfold m9 jo;rw[lQm,lQm]
 get:=λi d q=>by
  unfold m9 at q
  unfold jo
  rw[gQm] at q⊢
  cases e:js[i]? with
  |none=>rw[e] at q;cases q
  | some o=>
    rw[e] at q
    cases o with
    |none=>cases q
    | some j=>
      have a:b.getD j none=some d:=QdQ q
      have k:b[j]?=some (some d):=by
        rw[Qlq] at a
        cases z:b[j]? with
        |none=>rw[z] at a;cases a
        |some y=>rw[z] at a;exact congrArg some a
      obtain⟨v,g,f⟩:=h.get j d k
      refine⟨v,?_,f⟩
      show some (c.getD j none)=some (some v)
      rw[Qlq,g]
      rfl
open Classical in
def k9(g:mf)(t:jA)(f:bA)(W:aI->Prop):List D->dt->aI->List D->Option (List D×aI)
 | [],Γ,S,acc=>if W S then some (acc,S) else none
 |d ::ds,Γ,S,acc=>if W S then(g d Γ S).bind λ(a,c)=>(t a c).bind λ(k,b)=>
    if k=true then(f a b).bind λ(y,e)=>if acc.length<sizeLine then k9 g t f W ds a e (acc++ [y]) else none
    else k9 g t f W ds a b acc
  else none
def dC(js:List (Option Nat))(i:vT)(g:mf)(t:jA)(f:bA):gW:=λa S=>(i a S).bind λ(p,b)=>k9 g t f p.2 p.1 (m9 js a) b []
section
variable{M:Md}
def C1{js:List (Option Nat)}{i:vT}{g:mf}{t:jA}{f:bA}:∀U H Q,tL M (dC js i g t f) U H Q->Dd js (tI M i) (tG M g) (tB M t) (tD M f) U H Q:=λU H Q qq=>by
 obtain⟨ρ,Γ,S,rs,S',ok,e,q⟩:=qq
 obtain⟨⟨⟨j,W⟩,S1⟩,e1,e⟩:=ar e
 refine⟨ρ,Γ,S,j,W,S1,ok,e1,λl J H1 Y R wk D L=> ?_⟩
 have n1:D∉l:=fh Y R L
 have a0:Ok M l (m9 js Γ) S1 (jo js U) (upd H1 D (.lst [])):=⟨((ok.en.ext Y).ext (b9.laid L)).sig js,R.lay L⟩
 refine⟨λi m B d=>m=j.length-i/\i<=j.length/\∃c s K b h,b9 l H1 c d/\Ok M c s K B d/\D∉c/\d D=some (.lst h)/\a_ M c d b h/\k9 g t f W (j.drop i) s K b=some (rs,S'),
  ⟨j.length,by simp,Nat.zero_le _,l,_,S1,[],[],b9.laid L,a0,n1,bQ,.nil,e⟩,?_⟩
 rintro i m a8 H2 ⟨rfl,hi,c,s,K,b,h,x2,ok2,n2,hD2,racc,e2⟩
 by_cases F:i<j.length
 ·have hd:j[i]?=some j[i]:=gQe F
  rw[QWq F] at e2
  unfold k9 at e2
  split at e2
  ·rename_i w
   obtain⟨w1,w2⟩:=wk i c K H2 x2 ok2.st w
   obtain⟨go,a4⟩:=w1 _ hd
   refine .inr ⟨go,λB d=>∃a p u b h,b9 l H1 a d/\Ok M a p u B d/\D∉a/\d D=some (.lst h)/\a_ M a d b h/\k9 g t f W (j.drop (i+1)) p u b=some (rs,S'),
    λB d ⟨a,p,u,b,h,h1,h2,h3,h4,h5,h6⟩=>⟨j.length-(i+1),by omega,rfl,F,a,p,u,b,h,h1,h2,h3,h4,h5,h6⟩,λx H3 hy=> ?_⟩
   obtain⟨x3,a3,r3⟩:=a4 x H3 hy
   obtain⟨⟨n,S4⟩,e4,e5⟩:=ar e2
   refine⟨c,s,K,_,n,S4,ok2.to x3 a3,r3,e4,λa6 a7 H4 x4 o=> ?_⟩
   obtain⟨⟨k,S5⟩,e6,Z⟩:=ar e5
   refine⟨a6,n,S4,k,S5,o,e6,λN H5 x5 P=> ?_⟩
   have A:=(x3.trans x4).trans x5
   have C:∀{a d},b9 c H2 a d->d D=some (.lst h)/\D∉a:=λ{a d} x=>⟨x.keep _ _ hD2 (.inl n2),λm=>(x.new _ m).elim n2 λz=>by rw[z] at hD2;cases hD2⟩
   dsimp only at Z⊢
   split at Z
   ·rename_i ck
    rw[Qhq ck]
    obtain⟨⟨y,S6⟩,e8,X⟩:=ar Z
    refine⟨N,n,S5,y,S6,o.to x5 P,e8,λa5 v H6 x6 a2 r6=> ?_⟩
    have I:=A.trans x6
    obtain⟨r,n6⟩:=C I
    have G:=racc.ext I
    dsimp only at X
    split at X
    ·rename_i cl
     refine⟨h,r,by rw[←racc.length];exact cl,a5,n,S6,b++ [y],h++ [v],(x2.trans I).off L _,⟨((o.en.ext x5).ext x6).off r,a2.off r n6⟩,n6,bQ,(G.append (.cons r6 .nil)).off r,X⟩
    ·cases X
   ·rename_i ck
    rw[Quq ck]
    obtain⟨a1,n5⟩:=C A
    exact⟨N,n,S5,b,h,x2.trans A,o.to x5 P,n5,a1,racc.ext A,Z⟩
  ·cases e2
 ·have e3:i=j.length:=by omega
  subst e3
  rw[List.drop_length] at e2
  unfold k9 at e2
  split at e2
  ·rename_i w
   obtain⟨rfl,rfl⟩:=cx e2
   obtain⟨w1,w2⟩:=wk j.length c K H2 x2 ok2.st w
   exact .inl ⟨w2 rfl,q c D h H2 (Y.trans x2) ok2.st (Y.grow _ L) n2 hD2 racc⟩
  ·cases e2
end
section
variable{X:Cx}{a b c e:Expr}{pos:Pos}{st:Stmt}{rest body other:List Stmt}
def e_:jA:=λ_ S=>some (true,S)
def JI{d:List Expr}{t t':TT}(h:pB X d t)(w:∀g H Q,t' g H Q->t g H Q):pB X d t':=λf s g H Q I q=>h f s g H Q I (w _ _ _ q)
def jO:pB X [] (tB (md X) e_):=JI GO λf H Q ⟨h,d,S,k,g,ok,e,q⟩=>by cases e;exact q _ _ b9.refl ok.st
def wV{f:jA}(d:PT X c (tB (md X) f)):pB X [c] (tB (md X) f):=HI d
def gD{N:List Str}{js:List (Option Nat)}{d:Scope}{l:List (Str×Addr)}{m h k:Expr}{j:List Expr}{i:vT}{g:mf}{t:jA}{f:bA}
  (S:bp X N js d l) (n:X.calm=true) (hi:PI X m h (tI (md X) i))
  (o:∀C s H fp,PG (aY X N d l C s H fp) m (tG (md X) g)) (ht:∀C s H fp,pB (aY X N d l C s H fp) j (tB (md X) t)) (he:∀C s H fp,PE (aY X N d l C s H fp) k (tD (md X) f))
  (p:∀x,foldedSetIterable h X.env x=pure x:=by intro _;rfl):PE X (.ListComp k [⟨m,h,j,0⟩] d pos) (tL (md X) (dC js i g t f)):=j2 (FB S n hi o ht he p) C1
def u7{N:List Str}{js:List (Option Nat)}{h:Scope}{w:List (Str×Addr)}{v j p k:Expr}{m:List Expr}{i:vT}{g:mf}{t:jA}{f:bA}{n:Nat}{l:Pos}
  (S:bp X N js h w) (K:X.calm=true) (hi:PI X v j (tI (md X) i))
  (U:∀C s H fp,PG (aY X N h w C s H fp) v (tG (md X) g)) (ht:∀C s H fp,pB (aY X N h w C s H fp) m (tB (md X) t)) (he:∀C s H fp,PE (aY X N h w C s H fp) p (tD (md X) f)) (A:PG X k (qz n))
  (hs:∀x,foldedSetIterable j X.env x=pure x:=by intro _;rfl) (y:swapsWithSole [k] (.ListComp p [⟨v,j,m,0⟩] h pos) l.line X.env=pure true:=by rfl)
  (W:(assignEach [k] X.env).map (·.2)= [assign k X.env]:=by rfl):PS X (.Assign [k] (.ListComp p [⟨v,j,m,0⟩] h pos) l) (tS (md X) (bu n (i6 (dC js i g t f)))):=
 Ad (EZ S K hi U ht he A hs y W) λD R H qq=>by
  obtain⟨J,Y,S,o,ok,e,q⟩:=qq
  obtain⟨⟨d,S1⟩,P,e⟩:=ar e
  cases e
  obtain⟨⟨F,S2⟩,M,e3⟩:=ar P
  obtain⟨rfl,rfl⟩:=cx e3
  refine C1 R H _ ⟨J,Y,S,F,S2,ok,M,λr a L G x st fr nr Z Q=> ?_⟩
  have z:=Q.pre (List.prefix_append r [a])
  have B:=st.box (o:=.lst F) nr ⟨L,Z,z⟩
  have I:b9 J H (r++ [a]) G:=⟨x.pre.trans (List.prefix_append _ _),λb u=>by
   rcases mQa.mp u with u|u
   ·exact x.new b u
   ·rw[Qfq] at u;subst u;exact .inr fr,x.keep,x.grow⟩
  refine q (r++ [a]) _ G I ⟨((ok.en.ext I).set (.ref ?_)),B⟩
  rw[←st.len,QQq (Qmq _)]
  simp
def Ej(c:jA)(b:cZ):Nat->dt->aI->Option Out
 |0,_,_=>none
 |n +1,Γ,S=>(c Γ S).bind λ(k,g)=>if k=true then(b Γ g).bind λo=>match o with
    |.nx d f=>Ej c b n d f
    |.ct d f=>Ej c b n d f
    |.bk d f=>some (.nx d f)
    |.rt x f=>some (.rt x f)
    |.rl x f=>some (.rl x f)
  else some (.nx Γ g)
def Ff{h:jA}{f:cZ}(n:Nat)(Q:PassesOwn (model X.prog X.w) X.A X.env X.xe)(R:PT X c (tB (md X) h))(hb:pO X body (tS (md X) f)):PS X (.While c body [] pos) (tS (md X) (Ej h f n)):=Ad (D_ Q R hb) λD σ H qq=>by
 obtain⟨I,Γ,S,o,ok,e,q⟩:=qq
 refine⟨λm r u=>∃d g t,b9 I H d u/\Ok (md X) d g t r u/\Ej h f m g t=some o,⟨n,I,Γ,S,b9.refl,ok,e⟩,?_⟩
 rintro m a0 H1 ⟨F,C,Z,U,y,i⟩
 cases m with
 |zero=>cases i
 | succ m=>
   unfold Ej at i
   obtain⟨⟨k,N⟩,W,i⟩:=ar i
   refine⟨F,C,Z,k,N,y,W,λJ H2 L K=> ?_⟩
   dsimp only at i⊢
   have x:=y.to L K
   have j:=U.trans L
   split at i
   · rename_i G
     rw[Qhq G]
     obtain⟨P,e3,i⟩:=ar i
     refine⟨λr u=>∃d g t,b9 I H d u/\Ok (md X) d g t r u/\Ej h f m g t=some o,λr u ⟨d,g,t,h1,Y,h3⟩=>⟨m,Nat.lt_succ_self _,d,g,t,h1,Y,h3⟩,J,C,N,P,x,e3,?_⟩
     cases P with
     |nx p v=>exact λs z M B l=>⟨s,p,v,j.trans B,l,i⟩
     |ct p v=>exact λs z M B l=>⟨s,p,v,j.trans B,l,i⟩
     |bk p v=>cases i;exact λs z M B l=>q _ _ _ (j.trans B) l
     |rt d6 v=>cases i;exact q.to j
     |rl d6 v=>cases i;exact q.to j
   · rename_i G
     rw[Quq G]
     cases i
     exact q _ _ _ j x
end
inductive Res where
 |d (x:D)|l (ds:List D)
abbrev dE:=List D->aI->Option (Res×aI)
def GN(M:Md)(ρ:List Addr)(H b:Hp)(v:V):Res->Prop
 |.d x=>Rel M ρ b x v
 |.l e=>∃a c,v=.ref a/\H a=none/\a∉ρ/\b a=some (.lst c)/\a_ M ρ b e c
def eM(M:Md)(n:Nat)(F:dE):Sp:=λf H Q _=>∃d S c r e,c.length=n/\a_ M d H c f/\fF M d S H/\F c S=some (r,e)/\∀a v b,b9 d H a b->fF M a e b->GN M a H b v r->Q v b
mutual
def cD(m:Nat):D->Bool
 |.ref k=>decide (k<m)
 |.tup a=>bS m a
 |_=>true
def bS(m:Nat):List D->Bool
 | []=>true
 |d::ds=>cD m d&&bS m ds
end
def Fb(m:Nat):O->Bool
 |.lst a=>bS m a
 |.frz a=>bS m a
 |.dct b=>bS m (b.map (·.2))
section
variable{M:Md}{ρ ρ':List Addr}{H:Hp}
mutual
theorem Rel.cut(e:ρ <+: ρ'):∀{d:D} {v:V},Rel M ρ' H d v->cD ρ.length d=true->Rel M ρ H d v
 |_,_,.non,_=>.non
 |_,_,.bl x,_=>.bl x
 |_,_,.int i,_=>.int i
 |_,_,.str x,_=>.str x
 |_,_,.tup h hs,b=>.tup h (a_.cut e hs (by simpa [cD] using b))
 | _,_,.ref (k:=k) (a:=a) h,b=>.ref (by
   obtain⟨t,rfl⟩:=e
   have c:k<ρ.length:=by simpa [cD] using b
   rwa [QHq c] at h)
 |_,_,.fn h,_=>.fn h
theorem a_.cut(e:ρ <+: ρ'):∀{ds:List D} {vs:List V},a_ M ρ' H ds vs->bS ρ.length ds=true->a_ M ρ H ds vs
 |_,_,.nil,_=>.nil
 | _,_,.cons h hs,b=>by
   have a:=b
   simp only[bS,QDq,QCq] at a
   exact .cons (Rel.cut e h a.1) (a_.cut e hs a.2)
end
theorem b_.cut(e:ρ <+: ρ'):∀{l:List (Key×D)} {kv:List (Key×V)},b_ M ρ' H l kv->bS ρ.length (l.map (·.2))=true->b_ M ρ H l kv
 | [],_,h,_=>h
 | (_,_)::_,_,⟨v,t,q,h,hs⟩,b=>by
   have a:=b
   simp only[bS,QDq,QCq] at a
   exact⟨v,t,q,h.cut e a.1,b_.cut e hs a.2⟩
theorem mP.cut{a:Addr}{o:O}(e:ρ <+: ρ')(h:mP M ρ' H a o)(b:Fb ρ.length o=true):mP M ρ H a o:=by
 cases o with
 |lst g=>obtain⟨f,c,d⟩:=h;exact⟨f,c,d.cut e b⟩
 |frz g=>obtain⟨f,o,c,d⟩:=h;exact⟨f,o,c,d.cut e b⟩
 |dct i=>obtain⟨j,c,d⟩:=h;exact⟨j,c,d.cut e b⟩
mutual
theorem Rel.low:∀{d:D} {v:V},Rel M ρ H d v->cD ρ.length d=true
 |_,_,.non=>rfl
 |_,_,.bl x=>rfl
 |_,_,.int i=>rfl
 |_,_,.str x=>rfl
 |_,_,.tup h hs=>by simp only[cD];exact a_.low hs
 |_,_,.ref h=>by simp only[cD];exact Qeq (gQs.mp h).1
 |_,_,.fn h=>rfl
theorem a_.low:∀{ds:List D} {vs:List V},a_ M ρ H ds vs->bS ρ.length ds=true
 |_,_,.nil=>rfl
 |_,_,.cons h hs=>by simp only[bS];rw[Rel.low h,a_.low hs];rfl
end
theorem b_.low:∀{l:List (Key×D)} {kv:List (Key×V)},b_ M ρ H l kv->bS ρ.length (l.map (·.2))=true
 | [],_,_=>rfl
 |(_,_)::_,_,⟨v,t,q,h,hs⟩=>by simp only[QDq,bS];rw[h.low,b_.low hs];rfl
theorem mP.low{a:Addr}{o:O}(h:mP M ρ H a o):Fb ρ.length o=true:=by
 cases o with
 |lst e=>obtain⟨d,c,b⟩:=h;exact b.low
 |frz e=>obtain⟨d,o,c,b⟩:=h;exact b.low
 |dct f=>obtain⟨g,c,b⟩:=h;exact b.low
end
def m8(S a:aI):Prop:=S.length<=a.length/\∀k o,k<S.length->a[k]?=some o->S[k]?=some o\/Fb S.length o=true
open Classical in
def settle(S:aI)(d:D)(a:aI):Option (Res×aI):=if m8 S a then match d with
  | .ref k=>if k<S.length then some (.d (.ref k),a.take S.length) else match a[k]? with
    |some (.lst ds)=>if bS S.length ds=true then some (.l ds,a.take S.length) else none
    |_=>none
  |d=>if cD S.length d=true then some (.d d,a.take S.length) else none
 else none
open Classical in
def fj(S:aI)(ds:List D)(a:aI):Option (Res×aI):=if m8 S a/\bS S.length ds=true then some (.l ds,a.take S.length) else none
noncomputable def fD(n:Nat)(b:cZ):dE:=λc S=>(b (c.map some++List.replicate (n-c.length) none) S).bind λo=>match o with
 |.nx _ a=>settle S .non a
 |.rt d a=>settle S d a
 |.rl l a=>fj S l a
 |_=>none
noncomputable def Iu(n:Nat)(b:cZ):dE:=λc S=>(b (c.map some++List.replicate (n-c.length) none) S).bind λo=>match o with
 |.nx _ a=>some (.d .non,a)
 |.rt d a=>some (.d d,a)
 |.rl l a=>some (.l l,a)
 |_=>none
def fF.clean{M:Md}{ρ d:List Addr}{S i:aI}{H e:Hp}(st:fF M ρ S H)(x:b9 ρ H d e)(j:fF M d i e)(c:m8 S i):fF M ρ (i.take S.length) e/\b9 ρ H ρ e:=by
 refine⟨⟨?_,st.nd,λk a o g f=> ?_⟩,List.prefix_refl _,λ_ h=>.inl h,x.keep,x.grow⟩
 ·rw[Qxq,st.len]
  have:=c.1
  omega
 ·have l:k<ρ.length:=(gQs.mp g).1
  have b:k<S.length:=st.len▸l
  rw[List.getElem?_take_of_lt b] at f
  refine(j.obj k a o (cV x.pre g) f).cut x.pre ?_
  rcases c.2 k o b f with z|z
  ·exact(st.obj k a o g z).low
  ·rw[st.len];exact z
def uh{M:Md}{ρ b:List Addr}{S u h:aI}{H g:Hp}{d:D}{v:V}{r:Res}(st:fF M ρ S H)(x:b9 ρ H b g)(f:fF M b u g)(p:Rel M b g d v)(e:settle S d u=some (r,h)):
  b9 ρ H ρ g/\fF M ρ h g/\GN M ρ H g v r:=by
 unfold settle at e
 split at e
 ·rename_i c
  obtain⟨i,l⟩:=st.clean x f c
  cases d with
  | ref k=>
    dsimp only at e
    split at e
    · rename_i q
      obtain⟨rfl,rfl⟩:=cx e
      exact⟨l,i,p.cut x.pre (by simp only[cD];rw[st.len];exact Qeq q)⟩
    · rename_i q
      split at e
      · rename_i B A
        split at e
        · rename_i n
          obtain⟨rfl,rfl⟩:=cx e
          cases p with
          | ref o=>
            rename_i a
            obtain⟨w,z,y⟩:=f.obj k a _ o A
            have s:a∉ρ:=λm=>by
              obtain⟨j,t⟩:=List.getElem?_of_mem m
              have:=ke f.nd (cV x.pre t) o
              subst this
              exact q (st.len▸(gQs.mp t).1)
            refine⟨l,i,a,w,rfl,(x.new a (mQg o)).resolve_left s,s,z,y.cut x.pre (by rw[st.len];exact n)⟩
        · cases e
      · cases e
  | _=>
    dsimp only at e
    split at e
    · rename_i n
      obtain⟨rfl,rfl⟩:=cx e
      exact⟨l,i,p.cut x.pre (by rw[st.len];exact n)⟩
    · cases e
 ·cases e
def zc{M:Md}{ρ b:List Addr}{S h f:aI}{H d:Hp}{ds:List D}{a:Addr}{vs:List V}{r:Res}(st:fF M ρ S H)(x:b9 ρ H b d)(g:fF M b h d)(o:H a=none)(k:a∉b)(l:d a=some (.lst vs))(n:a_ M b d ds vs)(e:fj S ds h=some (r,f)):
  b9 ρ H ρ d/\fF M ρ f d/\GN M ρ H d (.ref a) r:=by
 unfold fj at e
 split at e
 ·rename_i c
  obtain⟨i,j⟩:=st.clean x g c.1
  obtain⟨rfl,rfl⟩:=cx e
  exact⟨j,i,a,vs,rfl,o,λm=>k (x.pre.subset m),l,n.cut x.pre (by rw[st.len];exact c.2)⟩
 ·cases e
def w9{M:Md}{ρ:List Addr}{H:Hp}{ds:List D}{vs:List V}{N:List Str}(r:a_ M ρ H ds vs):En M ρ H (ds.map some++List.replicate (N.length-ds.length) none) (L2.start N vs) where
 len:=by unfold L2.start;simp[r.length]
 get:=λi d q=>by
  unfold L2.start
  by_cases c:i<ds.length
  ·rw[QHq (by rw[lQm];exact c),gQm] at q
   obtain⟨g,a,f⟩:=oQm.mp q
   cases f
   obtain⟨v,e,b⟩:=r.get a
   exact⟨v,by rw[QHq (by rw[lQm,←r.length];exact c),gQm,e];rfl,b⟩
  ·rw[QQq (by rw[lQm];omega)] at q
   have:=mQg q
   rw[List.mem_replicate] at this
   cases this.2
section
variable{P:Program}{w:World}{K:PySem.W.Frag}{mg:Str->Option Value}{base:Heap}
def bz{x c:Str}{st:Stmt}{f:Addr}{L:FuncData}{N ps:List Str}{k:Nat}{b:cZ}(F:eN K x c st f L)(S:aL N ps (aD st))
  (h:∀(g:Value) (A:Around) (outer:List Env) (s:Shared) (H:Hp) (E:XK),eG k (A.deeper (envOfC c (aD st) s.heap.objs.size f g))→
   pO (wy d0 P w K mg base N c (aD st) f g A outer s H E).nox (eO st) (tS ⟨K,mg⟩ b)):bC P w K mg base d0 (k+1) f L ps (eM ⟨K,mg⟩ ps.length (fD N.length b)):=by
 refine F.ok S (λB H Q E ⟨J,S,M,r,S',I,u,_⟩=>by rw[←u.length];exact I) λg A outer s H B Q E X ⟨J,S,M,r,S',I,u,t,h4,q⟩=>⟨_,h g A outer s H E X,?_⟩
 obtain⟨o,R,e⟩:=ar h4
 refine⟨J,_,S,o,⟨w9 u,t⟩,R,?_⟩
 cases o with
 |nx W G=>exact λp a0 C l z=>by obtain⟨m,n,j⟩:=uh t l z.st .non e;exact q _ _ _ m n j
 |rt d G=>exact λp v C l i y=>by obtain⟨m,n,j⟩:=uh t l i y e;exact q _ _ _ m n j
 |rl d G=>exact λp a B C l i Z U Y y=>by obtain⟨m,n,j⟩:=zc t l i Z U Y y e;exact q _ _ _ m n j
 |bk=>cases e
 |ct=>cases e
def HZ{x c:Str}{st:Stmt}{f:Addr}{C:FuncData}{N ps:List Str}{k:Nat}{b:cZ}(F:eN K x c st f C)(S:aL N ps (aD st))
  (h:∀(g:Value) (A:Around) (outer:List Env) (s:Shared) (H:Hp) (E:XK),eG k (A.deeper (envOfC c (aD st) s.heap.objs.size f g))→
   pO (wy d0 P w K mg base N c (aD st) f g A outer s H E).nox (eO st) (tS ⟨K,mg⟩ b)):bC P w K mg base d0 (k+1) f C ps (eM ⟨K,mg⟩ ps.length (Iu N.length b)):=by
 refine F.ok S (λm H Q E ⟨B,S,G,r,Z,z,n,_⟩=>by rw[←n.length];exact z) λg A outer s H m Q E M ⟨B,S,G,r,Z,z,n,X,W,q⟩=>⟨_,h g A outer s H E M,?_⟩
 obtain⟨o,I,e⟩:=ar W
 refine⟨B,_,S,o,⟨w9 n,X⟩,I,?_⟩
 cases o with
 |nx L y=>cases e;exact λl Y u j t=>q _ _ _ j t.st .non
 |rt d y=>cases e;exact λl v u j i p=>q _ _ _ j i p
 |rl d y=>cases e;exact λl a m u j i U J R p=>q _ _ _ j i ⟨a,m,rfl,U,J,R,p⟩
 |bk=>cases e
 |ct=>cases e
end
section
variable{X:Cx}{x:Str}{k n:Nat}{f:Addr}{fd:FuncData}{ps:List Str}{F:dE}{e:Expr}{es:List Expr}{g:gW}{p pos:Pos}
noncomputable def aF(F:dE)(g:gW):bA:=λc S=>(g c S).bind λ(b,h)=>(F b h).bind λ(r,a)=>match r with
 |.d x=>some (x,a)
 |.l _=>none
def fA(F:dE)(g:gW):gW:=λc S=>(g c S).bind λ(a,h)=>(F a h).bind λ(r,b)=>match r with
 |.d _=>none
 |.l a=>some (a,b)
def nA(n:Nat)(g:gW):Prop:=∀b S a c,g b S=some (a,c)->a.length=n
def y6:nA 0 aA:=λ_ _ _ _ e=>by cases e;rfl
def kP{n:Nat}{f:bA}{g:gW}(h:nA n g):nA (n+1) (au f g):=λl S j m e=>by
 obtain⟨⟨d,o⟩,c,e⟩:=ar e
 obtain⟨⟨a,i⟩,b,e⟩:=ar e
 cases e
 rw[Qnq,h _ _ _ _ b]
def zI{M:Md}(s:nA n g):∀c H Q,tD M (aF F g) c H Q->C7 (eM M n F) [] E0 (wF M g) c H Q:=λc H Q C=>by
 obtain⟨A,y,S,d,J,ok,e,q⟩:=C
 obtain⟨⟨b,m⟩,j,e⟩:=ar e
 obtain⟨⟨r,G⟩,t,e⟩:=ar e
 refine⟨A,y,S,b,m,ok,j,λa I H1 o h z=>⟨a,m,b,r,G,s _ _ _ _ j,by rw[List.append_nil];exact z,h,t,λB v H2 w i u=> ?_⟩⟩
 cases r with
 |d x=>obtain⟨rfl,rfl⟩:=cx e;exact q _ _ _ (o.trans w) i u
 |l b=>cases e
def Fd{M:Md}(u:nA n g):∀h H Q,tL M (fA F g) h H Q->C7 (eM M n F) [] E0 (wF M g) h H Q:=λh H Q I=>by
 obtain⟨C,A,S,d,K,ok,e,q⟩:=I
 obtain⟨⟨c,s⟩,o,e⟩:=ar e
 obtain⟨⟨r,J⟩,w,e⟩:=ar e
 refine⟨C,A,S,c,s,ok,o,λb t H1 m i B=>⟨b,s,c,r,J,u _ _ _ _ o,by rw[List.append_nil];exact B,i,w,λG v H2 z j y=> ?_⟩⟩
 cases r with
 |d x=>cases e
 | l c=>
   obtain⟨rfl,rfl⟩:=cx e
   obtain⟨a,t,rfl,fr,na,ha,rr⟩:=y
   exact q _ _ _ _ (m.trans z) j (m.grow _ fr) na ha rr
def HY(G:bC X.prog X.w X.K X.mg X.base d0 k f fd ps (eM (md X) n F))(c:eG k X.A)(j:Gl X x)(l:X.mg x=some (.ref f))(h:PySem.W.keepIn X.K (.ref f)=true)(b:Binds X.K fd ps [])(d:PA X (e::es) (wF (md X) g))(i:nA n g)
  (a:(x==("__debug__":Str))=false:=by decide) (he:starEach (e::es) X.env=(false,eval e X.env)::starEach es X.env:=by rfl) (hpl:(backTo pos (starEach es X.env)).any (·.1)=false:=by rfl):
  PE X (.Call (.Name x p) (e::es) [] pos) (tD (md X) (aF F g)):=j2 (zR G c j l h b .nil CY d a he hpl) (zI i)
def Gw(G:bC X.prog X.w X.K X.mg X.base d0 k f fd ps (eM (md X) n F))(c:eG k X.A)(j:Gl X x)(l:X.mg x=some (.ref f))(h:PySem.W.keepIn X.K (.ref f)=true)(b:Binds X.K fd ps [])(d:PA X (e::es) (wF (md X) g))(i:nA n g)
  (a:(x==("__debug__":Str))=false:=by decide) (he:starEach (e::es) X.env=(false,eval e X.env)::starEach es X.env:=by rfl) (hpl:(backTo pos (starEach es X.env)).any (·.1)=false:=by rfl):
  PE X (.Call (.Name x p) (e::es) [] pos) (tL (md X) (fA F g)):=j2 (zR G c j l h b .nil CY d a he hpl) (Fd i)
end
def je{α:Type}(xs:List α)(lo hi:Option Int):List α:=(xs.drop (HT.eU xs.length 0 lo)).take (HT.eU xs.length xs.length hi-HT.eU xs.length 0 lo)
def a_.cut3{M:Md}{ρ:List Addr}{H:Hp}{ds:List D}{vs:List V}{lo hi:Option Int}(h:a_ M ρ H ds vs):a_ M ρ H (je ds lo hi) (yL vs lo hi):=by
 unfold je yL
 rw[h.length]
 exact(h.drop _).take _
def EE{α:Type}{xs:List α}{lo hi:Option Int}(a:HT.eU xs.length 0 lo=0)(b:HT.eU xs.length xs.length hi=xs.length):je xs lo hi=xs:=by
 unfold je
 rw[a,b]
 simp
abbrev Ip:=dt->aI->Option (Option Int×aI)
def Kb(M:Md)(f:Ip):TO:=λg H Q=>∃e c S o d,Ok M e c S g H/\f c S=some (o,d)/\∀a b,b9 e H a b->fF M a d b->Q o b
section
variable{X:Cx}{a b c e:Expr}{pos:Pos}{st:Stmt}
def pU:Ip:=λ_ S=>some (none,S)
def pM(f:bA):Ip:=λg S=>(f g S).bind λ(d,h)=>match d with
 |.int i=>some (some i,h)
 |_=>none
def Ls{o:Option Expr}{t t':TO}(h:PO X o t)(w:∀f H Q,t' f H Q->t f H Q):PO X o t':=λd s f H Q I q=>h d s f H Q I (w _ _ _ q)
def dv:PO X none (Kb (md X) pU):=Ls Fy λf H Q ⟨h,d,S,o,g,ok,e,q⟩=>by cases e;exact q _ _ b9.refl ok.st
def dw{f:bA}(h:PE X e (tD (md X) f)):PO X (some e) (Kb (md X) (pM f)):=Ls (E8 h) λp H Q l=>by
 obtain⟨k,j,S,o,s,ok,e,q⟩:=l
 obtain⟨⟨d,i⟩,g,e⟩:=ar e
 dsimp only at e
 split at e
 ·obtain⟨rfl,rfl⟩:=cx e
  refine⟨k,j,S,_,i,ok,g,λm v n x st r=> ?_⟩
  cases r
  exact⟨_,rfl,q _ _ x st⟩
 ·cases e
def pD(f:bA)(lo hi:Ip):bA:=λg S=>(f g S).bind λ(d,m)=>(lo g m).bind λ(l,j)=>(hi g j).bind λ(h,i)=>match d with
 |.tup k=>some (.tup (je k l h),i)
 |_=>none
def cG{lo hi:Option Expr}{N:Pos}{f:bA}{l h:Ip}(he:PE X e (tD (md X) f))(M:PO X lo (Kb (md X) l))(I:PO X hi (Kb (md X) h)):PE X (.Subscript e (.Slice lo hi none N) pos) (tD (md X) (pD f l h)):=
 j2 (Dz E_ he M I) λZ H Q W=>by
  obtain⟨U,s,S,d,S',ok,e,q⟩:=W
  obtain⟨⟨x,A⟩,L,e⟩:=ar e
  obtain⟨⟨y,F⟩,J,e⟩:=ar e
  obtain⟨⟨z,K⟩,Y,e⟩:=ar e
  cases x with
  | tup w=>
    dsimp only at e
    obtain⟨rfl,rfl⟩:=cx e
    refine⟨U,s,S,_,A,ok,L,λn v H1 o g R=>⟨n,s,A,y,F,ok.to o g,J,λt H2 r u=>⟨t,s,F,z,K,(ok.to o g).to r u,Y,λP H3 C j=> ?_⟩⟩⟩
    have i:=(o.trans r).trans C
    have G:=R.ext (r.trans C)
    cases G with
    | tup B k=>
      refine⟨_,_,rfl,ic.of B,λc=> ?_,λc p m=> ?_⟩
      · have:je w y z=w:=EE (by rw[k.length];exact c.1) (by rw[k.length];exact c.2)
        rw[this] at q
        exact q _ _ _ i j (.tup B k)
      · exact q _ _ _ (i.trans (b9.laid m)) (j.lay m) (.tup bQ (k.cut3.ext (b9.laid m)))
  |_=>cases e
open Classical in
def FI(f g:fE):gW:=λh S=>(f h S).bind λ(p,i)=>(g h i).bind λ(r,d)=>if p.2.isM=true/\r.2.isM=true/\p.2.stays d p.1/\p.1.length+r.1.length<=sizeLine then some (p.1++r.1,d) else none
def JN{f g:fE}(I:PE X a (tQ (md X) f))(F:PE X b (tQ (md X) g)):PE X (.BinOp a .Add b pos) (tL (md X) (FI f g)):=j2 (oI Hu I F) λU H Q M=>by
 obtain⟨K,u,S,d,W,ok,e,q⟩:=M
 obtain⟨⟨⟨x,t⟩,s⟩,z,e⟩:=ar e
 obtain⟨⟨⟨A,C⟩,N⟩,y,e⟩:=ar e
 dsimp only at e
 split at e
 ·rename_i c
  obtain⟨rfl,rfl⟩:=cx e
  refine⟨K,u,S,x,t,s,ok,z,λk a R H1 o l G J=>⟨k,u,s,A,C,N,ok.to o l,y,λL b w H2 v i B r=> ?_⟩⟩
  obtain⟨m,P,n⟩:=G.to J v i c.2.2.1
  have h:=o.trans v
  refine⟨_,_,m,w,rfl,rfl,P.sqM c.1,B.sqM c.2.1,by rw[←n.length,←r.length];exact c.2.2.2,λp j=> ?_⟩
  exact q _ _ _ _ (h.trans (b9.laid j)) (i.lay j) (h.grow _ j) (fh h i j) bQ ((n.append r).ext (b9.laid j))
 ·cases e
open Classical in
def qg(f:fE):bA:=λg S=>(f g S).bind λ(p,d)=>if p.2.isL=true/\p.2.stays d p.1 then some (.bl (!p.1.isEmpty),d) else none
def Fp{f:fE}:∀j H Q,tD (md X) (qg f) j H Q->Gr (Ea X.K) (tQ (md X) f) (tL (md X) (gn aA)) j H Q:=λj H Q A=>by
 obtain⟨y,o,S,d,I,ok,e,q⟩:=A
 obtain⟨⟨⟨r,t⟩,k⟩,s,e⟩:=ar e
 dsimp only at e
 split at e
 ·rename_i c
  obtain⟨rfl,rfl⟩:=cx e
  refine⟨y,o,S,r,t,k,ok,s,λh a C H1 m l v x=>⟨h,o,k,[],k,ok.to m l,rfl,λz b F H2 n g G J w u=> ?_⟩⟩
  obtain⟨i,B,p⟩:=v.to x n g c.2
  cases u
  refine⟨a,b,i,rfl,rfl,B.sqL c.1,iM.of w,?_⟩
  rw[←p.isEmpty]
  exact q _ _ _ (m.trans n) g (.bl _)
 ·cases e
def IY:PE X (.List [] pos) (tL (md X) (gn aA)):=jL aw
def E9{f:fE}{p:Pos}(d:X.A.units<cLine)(g:PE X a (tQ (md X) f)):PT X (.Compare a [.NotEq] [.List [] p] pos) (tB (md X) (aV (qg f))):=zz Fp (p7 (Dr d) g IY (bf _))
def fF.putL{M:Md}{ρ:List Addr}{S:aI}{H:Hp}{k:Nat}{a:Addr}{ds g:List D}{ws:List V}(st:fF M ρ S H)(h:ρ[k]?=some a)(d:S[k]?=some (.lst ds))(r:a_ M ρ H g ws):fF M ρ (S.set k (.lst g)) (upd H a (.lst ws))/\b9 ρ H ρ (upd H a (.lst ws)):=by
 obtain⟨j,f,l⟩:=st.obj k a _ h d
 exact st.put h d ⟨ws,bQ,r.off f⟩ λx i=>by rw[f] at i;cases i;exact id
def Eo(m:List D->List D->Option (List D×D))(f:bA)(g:gW):bA:=λi S=>(f i S).bind λ(x,j)=>match x with
 | .ref k=>(g i j).bind λ(n,h)=>match j[k]?,h[k]? with
   |some (.lst _),some (.lst ds)=>(m ds n).bind λ(l,d)=>some (d,h.set k (.lst l))
   |_,_=>none
 |_=>none
def EK(M:Md)(r:V->List V->Hp->VK->Prop)(m:List D->List D->Option (List D×D)):Prop:=∀{f:List Addr} {H:Hp} {a:Addr} {j l k:List D} {d:D} {i h:List V} {Q:VK},H a=some (.lst i)->a_ M f H j i->a_ M f H l h->m j l=some (k,d)→
 (∀g w,a_ M f H k g->Rel M f H d w->Q w (upd H a (.lst g)))->r (.ref a) h H Q
def GQ{m:List D->List D->Option (List D×D)}{r:V->List V->Hp->VK->Prop}{f:bA}{g:gW}(N:EK (md X) r m):∀p H Q,tD (md X) (Eo m f g) p H Q->Kn X.K "list" r (tD (md X) f) (wF (md X) g) p H Q:=λp H Q W=>by
 obtain⟨R,B,S,d,S',ok,e,q⟩:=W
 obtain⟨⟨x,y⟩,G,e⟩:=ar e
 cases x with
 | ref k=>
   dsimp only at e
   obtain⟨⟨ys,Y⟩,F,e⟩:=ar e
   dsimp only at e
   split at e
   · rename_i Z ds s h
     obtain⟨⟨es,d'⟩,e3,e⟩:=ar e
     obtain⟨rfl,rfl⟩:=cx e
     refine⟨R,B,S,_,y,ok,G,λo v H1 u i P=> ?_⟩
     cases P with
     | ref A=>
       rename_i a
       obtain⟨n,L,_⟩:=i.obj k a _ A s
       refine⟨.inl ⟨rfl,n,iM.of L⟩,o,B,y,ys,Y,ok.to u i,F,λU us H2 z l I=> ?_⟩
       have j:=cV z.pre A
       obtain⟨vs,M,J⟩:=l.obj k a _ j h
       refine N M J I e3 λws w rw rd=> ?_
       obtain⟨t,C⟩:=l.putL j h rw
       exact q _ _ _ ((u.trans z).trans C) t (rd.ext C)
   · cases e
 |_=>cases e
def DG:List D->List D->Option (List D×D):=λd f=>match f with
 | [y]=>if d.length<sizeLine then some (d++ [y],.non) else none
 |_=>none
def G6{M:Md}:EK M Aq DG:=by
 intro p H a m o n d h l Q i g f e q
 unfold DG at e
 split at e
 ·split at e
  ·rename_i j
   obtain⟨rfl,rfl⟩:=cx e
   cases f with
   | cons f k=>
     cases k
     exact⟨a,h,_,rfl,rfl,i,by rw[←g.length];exact j,q _ _ (g.append (.cons f .nil)) .non⟩
  ·cases e
 ·cases e
def Dy{f:bA}{g:bA}{o:Expr}{h d:Pos}(n:PE X o (tD (md X) f))(m:PE X e (tD (md X) g))(i:attributeBase o "append" X.env (eval o X.env)=eval o X.env:=by rfl) (k:((backTo d (starEach [e] X.env)).all (λx=> !x.1)&&(backToKw d (keywordEach [] X.env)).all (λx=>x.1.isSome)
   &&decide ([e].length+([]:List Keyword).length+(if ([]:List Keyword).isEmpty then 0 else 1)<30))=true:=by rfl)
  (j:(h.endLine==d.line)=true:=by rfl) (l:starEach [e] X.env= [(false,eval e X.env)]:=by rfl):PE X (.Call (.Attribute o "append" h) [e] [] d) (tD (md X) (Eo DG f (au g aA))):=
 j2 (rT PySem.F.plainAttrs_list PySem.F.slot_list_append PySem.F.type_list_append n_ n (aq m aw l) i k j l) (GQ G6)
end
section
variable{X:Cx}{a b c e:Expr}{pos:Pos}{st:Stmt}
def qG:List D->List D->Option (List D×D):=λd f=>match f with
 | [.int i]=>if -(2^63)<=i/\i<2^63 then(seqIndex? i d.length).bind λk=>(d[k]?).bind λy=>some (d.eraseIdx k,y) else none
 |_=>none
def DX{M:Md}:EK M CP qG:=by
 intro w H a t x u d l s Q p f g e q
 unfold qG at e
 split at e
 ·split at e
  ·rename_i i h
   obtain⟨k,j,e⟩:=ar e
   obtain⟨y,n,e⟩:=ar e
   obtain⟨rfl,rfl⟩:=cx e
   cases g with
   | cons g r=>
     cases r
     cases g
     obtain⟨v,o,m⟩:=f.get n
     rw[f.length] at j
     exact⟨a,l,i,k,v,rfl,rfl,p,h.1,h.2,j,o,q _ _ (f.eraseIdx k) m⟩
  ·cases e
 ·cases e
def Fu{f:bA}{g:bA}{o:Expr}{h d:Pos}(n:PE X o (tD (md X) f))(m:PE X e (tD (md X) g))(i:attributeBase o "pop" X.env (eval o X.env)=eval o X.env:=by rfl) (k:((backTo d (starEach [e] X.env)).all (λx=> !x.1)&&(backToKw d (keywordEach [] X.env)).all (λx=>x.1.isSome)
   &&decide ([e].length+([]:List Keyword).length+(if ([]:List Keyword).isEmpty then 0 else 1)<30))=true:=by rfl)
  (j:(h.endLine==d.line)=true:=by rfl) (l:starEach [e] X.env= [(false,eval e X.env)]:=by rfl):PE X (.Call (.Attribute o "pop" h) [e] [] d) (tD (md X) (Eo qG f (au g aA))):=
 j2 (rT PySem.F.plainAttrs_list PySem.F.slot_list_pop PySem.F.type_list_pop Eg n (aq m aw l) i k j l) (GQ DX)
def C_(f:bA)(g:fE):bA:=λh S=>(f h S).bind λ(x,i)=>match x with
 | .ref k=>(g h i).bind λ(p,d)=>match i[k]?,d[k]? with
   |some (.lst _),some (.lst ds)=>if p.2.isM=true/\ds.length+p.1.length<=sizeLine then some (.non,d.set k (.lst (ds++p.1))) else none
   |_,_=>none
 |_=>none
def J1{f:bA}{g:fE}:∀o H Q,tD (md X) (C_ f g) o H Q->Kn X.K "list" z4 (tD (md X) f) (DF (tQ (md X) g) GJ) o H Q:=λo H Q U=>by
 obtain⟨N,A,S,d,S',ok,e,q⟩:=U
 obtain⟨⟨x,w⟩,I,e⟩:=ar e
 cases x with
 | ref k=>
   dsimp only at e
   obtain⟨⟨⟨Z,t⟩,W⟩,G,e⟩:=ar e
   dsimp only at e
   split at e
   · rename_i Y ds p h
     split at e
     · rename_i c
       obtain⟨rfl,rfl⟩:=cx e
       refine⟨N,A,S,_,w,ok,I,λn v H1 s i M=> ?_⟩
       cases M with
       | ref z=>
         rename_i a
         obtain⟨m,L,_⟩:=i.obj k a _ z p
         refine⟨.inl ⟨rfl,m,iM.of L⟩,n,A,w,Z,t,W,ok.to s i,G,λP b C H2 y l J u=> ?_⟩
         have j:=cV y.pre z
         obtain⟨F,h3,B⟩:=l.obj k a _ j h
         refine⟨a,b,F,C,rfl,rfl,h3,J.sqM c.1,by rw[←B.length,←u.length];exact c.2,?_⟩
         obtain⟨r,R⟩:=l.putL j h (B.append u)
         exact q _ _ _ ((s.trans y).trans R) r .non
     · cases e
   · cases e
 |_=>cases e
def Dj{f:bA}{g:fE}{o:Expr}{h d:Pos}(n:PE X o (tD (md X) f))(m:PE X e (tQ (md X) g))(i:attributeBase o "extend" X.env (eval o X.env)=eval o X.env:=by rfl) (k:((backTo d (starEach [e] X.env)).all (λx=> !x.1)&&(backToKw d (keywordEach [] X.env)).all (λx=>x.1.isSome)
   &&decide ([e].length+([]:List Keyword).length+(if ([]:List Keyword).isEmpty then 0 else 1)<30))=true:=by rfl)
  (j:(h.endLine==d.line)=true:=by rfl) (l:starEach [e] X.env= [(false,eval e X.env)]:=by rfl):PE X (.Call (.Attribute o "extend" h) [e] [] d) (tD (md X) (C_ f g)):=
 j2 (rT PySem.F.plainAttrs_list PySem.F.slot_list_extend PySem.F.type_list_extend Bw n (dG m gF l) i k j l) J1
def Iq(f g:bA):mf:=λd h S=>(f h S).bind λ(x,m)=>(g h m).bind λ(y,l)=>match x,y with
 | .ref k,.int i=>match l[k]? with
   |some (.lst ds)=>(Bx ds.length i).bind λj=>some (h,l.set k (.lst (ds.set j d)))
   |_=>none
 |_,_=>none
def KQ{f g:bA}:∀v n H Q,tG (md X) (Iq f g) v n H Q->JV (tD (md X) f) (tD (md X) g) Gs v n H Q:=λv n H Q N=>by
 obtain⟨L,A,S,d,W,S',ok,r,e,q⟩:=N
 obtain⟨⟨x,u⟩,J,e⟩:=ar e
 obtain⟨⟨y,P⟩,I,e⟩:=ar e
 cases x with
 | ref k=>
   cases y with
   | int i=>
     dsimp only at e
     split at e
     · rename_i Y F
       obtain⟨j,R,e⟩:=ar e
       obtain⟨rfl,rfl⟩:=cx e
       refine⟨L,A,S,_,u,ok,J,λm v1 H1 t o s=>⟨m,A,u,_,P,ok.to t o,I,λM Z H2 w l K=> ?_⟩⟩
       cases K
       have s:=s.ext w
       cases s with
       | ref z=>
         obtain⟨G,U,C⟩:=l.obj k _ _ z F
         have h:=t.trans w
         obtain⟨p,B⟩:=l.putL z F (a_.set (r.ext h) j C)
         exact⟨_,G,i,j,rfl,rfl,U,by rw[←C.length];exact R,q _ _ _ (h.trans B) ((ok.to h l).to B p)⟩
     · cases e
   |_=>cases e
 |_=>cases e
def Gc{o i:Expr}{f g:bA}(h:PE X o (tD (md X) f))(hi:PE X i (tD (md X) g))
  (d:∀v,assign (.Subscript o i pos) X.env v=(do
   let ov←holding [v] (eval o X.env)
   let iv←holding [v,ov] (eval i X.env)
   standAt pos
   holding [v,ov,iv] (setItem ov iv v)
   release [v,ov,iv] []):=by intro _;rfl):PG X (.Subscript o i pos) (tG (md X) (Iq f g)):=KU (GR h hi set_list d) KQ
def Kf(f g h:bA):cZ:=λd S=>(f d S).bind λ(x,p)=>(g d p).bind λ(y,o)=>match x,y with
 | .ref k,.int i=>match o[k]? with
   | some (.lst ds)=>if 0<=i then(ds[i.toNat]?).bind λz=>(h d o).bind λ(w,l)=>match z,w,l[k]? with
     |.int m,.int n,some (.lst es)=>(Bx es.length i).bind λj=>some (.nx d (l.set k (.lst (es.set j (.int (m+n))))))
     |_,_,_=>none
     else none
   |_=>none
 |_,_=>none
def G0{o i e:Expr}{f g h:bA}{t:Pos}(ho:PE X o (tD (md X) f))(hi:PE X i (tD (md X) g))(he:PE X e (tD (md X) h))
  (C:∀B A new,augStore i B A new=(do holding [new,B,A] (setItem B A new);release [new,B,A] [];pure .next):=by intros;rfl):PS X (.AugAssign (.Subscript o i t) .Add e pos) (tS (md X) (Kf f g h)):=
 Ad (FR ho hi Cd he Ic set_list C) λD σ H qq=>by
  obtain⟨ρ,J,S,o,ok,e,q⟩:=qq
  obtain⟨⟨x,Q⟩,e1,e⟩:=ar e
  obtain⟨⟨y,Z⟩,e2,e⟩:=ar e
  cases x with
  | ref k=>
    cases y with
    | int i=>
      dsimp only at e
      split at e
      · rename_i ds hs
        split at e
        · rename_i hi
          obtain⟨z,e3,e⟩:=ar e
          obtain⟨⟨w,P⟩,e4,e⟩:=ar e
          cases z with
          | int m=>
            cases w with
            | int n=>
              cases d:P[k]? with
              |none=>rw[d] at e;cases e
              | some o3=>
                rw[d] at e
                cases o3 with
                | lst es=>
                  dsimp only at e
                  obtain⟨j,e5,e⟩:=ar e
                  cases e
                  refine⟨ρ,J,S,_,Q,ok,e1,λF v1 H1 N I K=>⟨F,J,Q,_,Z,ok.to N I,e2,λM v2 H2 U r r2=> ?_⟩⟩
                  cases r2
                  have K:=K.ext U
                  cases K with
                  | ref C=>
                    have p:=N.trans U
                    obtain⟨vs,h3,h4⟩:=r.obj k _ _ C hs
                    obtain⟨v,h5,h6⟩:=h4.get e3
                    cases h6
                    refine⟨_,vs,i.toNat,_,rfl,by rw[Int.toNat_of_nonneg hi],iM.of h3,h5,M,J,Z,_,P,ok.to p r,e4,λa0 v3 H3 Y l r3=> ?_⟩
                    cases r3
                    have u:=cV Y.pre C
                    obtain⟨L,g3,W⟩:=l.obj k _ _ u d
                    have s:=p.trans Y
                    obtain⟨G,R⟩:=l.putL u d (a_.set (.int (m+n)) j W)
                    exact⟨m,n,rfl,rfl,_,L,i,j,rfl,rfl,g3,by rw[←W.length];exact e5,q _ _ _ (s.trans R) ((ok.to s l).to R G)⟩
                |_=>cases e
            |_=>cases e
          |_=>cases e
        · cases e
      · cases e
    |_=>cases e
  |_=>cases e
def FK(i j:Nat)(f:gW):cZ:=λd S=>(f d S).bind λ(g,h)=>match g with
 | [v,w]=>some (.nx ((d.set i (some v)).set j (some w)) h)
 |_=>none
def JY{i j:Nat}{f:gW}(h:PS X st (IZ i j (wF (md X) f))):PS X st (tS (md X) (FK i j f)):=Ad h λD w H p=>by
 obtain⟨m,l,S,o,ok,e,q⟩:=p
 obtain⟨⟨u,k⟩,g,e⟩:=ar e
 dsimp only at e
 split at e
 ·cases e
  refine⟨m,l,S,_,k,ok,g,λs t v x st r=> ?_⟩
  cases r with
  | cons r d=>
    cases d with
    | cons n d=>
      cases d
      exact⟨_,_,rfl,q _ _ _ x ⟨((ok.en.ext x).set r).set n,st⟩⟩
 ·cases e
end
def dU(cells:List (Str×Addr)):List (Str×NameKind)->List (Str×Addr)->List (Str×Addr)
 | [],acc=>acc
 |(n,k)::r,acc=>if (k==.free)=true then dU cells r ((n,(cells.lookup n).getD 0)::acc) else dU cells r acc
theorem oH{env:Env}:∀(names:List (Str×NameKind)) (b:List (Str×Addr)),(∀y∈names,y.2=.free->(env.cells.lookup y.1).isSome=true)→
  (forIn names b λ(x:Str×NameKind) (f:List (Str×Addr))=>(do
   if (x.2==NameKind.free)=true then do
    let c←cellOf env x.1
    pure (ForInStep.yield ((x.1,c)::f))
   else pure (ForInStep.yield f):Sem (ForInStep (List (Str×Addr)))))=(pure (dU env.cells names b):Sem _)
 | [],b,_=>rfl
 | (n,k)::r,b,h=>by
   rw[List.forIn_cons]
   unfold dU
   by_cases c:(k==NameKind.free)=true
   · obtain⟨a,e⟩:=Option.isSome_iff_exists.mp (h (n,k) QBq (by simpa using c))
     simp only[c,if_true]
     have g:cellOf env n=pure a:=by
       unfold cellOf
       rw[e]
     rw[g,pure_bind,pure_bind,e]
     exact oH r _ λy d=>h y (Qpq _ d)
   · simp only[c,Bool.false_eq_true,if_false]
     rw[pure_bind]
     exact oH r _ λy d=>h y (Qpq _ d)
def Ed{a:Scope}{env:Env}(h:∀y∈a.names,y.2=.free->(env.cells.lookup y.1).isSome=true):closureFor a env=pure (dU env.cells a.names []):=by
 unfold closureFor
 have:=oH a.names [] h
 rw[bind_pure]
 exact this
theorem rR{cells:List (Str×Addr)}:∀(names:List (Str×NameKind)) (a:List (Str×Addr)) (p:Str×Addr),p∈dU cells names a->p∈a\/∃n,(n,NameKind.free)∈names/\p=(n,(cells.lookup n).getD 0)
 | [],a,p,h=>.inl h
 | (n,k)::r,a,p,h=>by
   unfold dU at h
   split at h
   · rename_i c
     rcases rR r _ p h with h|⟨m,b,d⟩
     · rcases Qsq.mp h with h|h
       · exact .inr ⟨n,by rw[show k=NameKind.free by simpa using c];exact QBq,h⟩
       · exact .inl h
     · exact .inr ⟨m,Qpq _ b,d⟩
   · rcases rR r _ p h with h|⟨m,b,d⟩
     · exact .inl h
     · exact .inr ⟨m,Qpq _ b,d⟩
theorem qk{cells:List (Str×Addr)}{x:Str}:∀(names:List (Str×NameKind)) (a:List (Str×Addr)),((x,NameKind.free)∈names\/∃c,(x,c)∈a)->∃c,(x,c)∈dU cells names a
 | [],a,h=>by
   rcases h with h|h
   · cases h
   · exact h
 | (n,k)::r,a,h=>by
   unfold dU
   split
   · rename_i c
     refine qk r _ ?_
     rcases h with h|⟨c,h⟩
     · rcases Qsq.mp h with h|h
       · cases h;exact .inr ⟨_,QBq⟩
       · exact .inl h
     · exact .inr ⟨c,Qpq _ h⟩
   · rename_i c
     refine qk r _ ?_
     rcases h with h|h
     · rcases Qsq.mp h with h|h
       · cases h;exact absurd rfl c
       · exact .inl h
     · exact .inr h
theorem lu{x:Str}{c:Addr}:∀{l:List (Str×Addr)},(x,c)∈l->∃a,l.lookup x=some a
 | [],h=>by cases h
 | (n,d)::r,h=>by
   unfold List.lookup
   by_cases e:(x==n)=true
   · rw[e];exact⟨d,rfl⟩
   · have b:(x==n)=false:=by simpa using e
     rw[b]
     rcases Qsq.mp h with h|h
     · cases h;simp at e
     · exact lu h
def rF(b:List Str)(a:Str->Option NameKind)(names:List (Str×NameKind)):List (Option Nat)->List Str->Bool
 |some j::js,x::N=>(b[j]? ==some x)&&(a x==some .cell||a x==some .free)&&(names.lookup x==some .free)&&rF b a names js N
 |none::js,_::N=>rF b a names js N
 |_,_=>true
theorem rQ{b:List Str}{a:Str->Option NameKind}{names:List (Str×NameKind)}:∀{js:List (Option Nat)} {N:List Str} {k j:Nat} {x:Str},rF b a names js N=true->js[k]?=some (some j)->N[k]?=some x->b[j]?=some x/\(a x=some .cell\/a x=some .free)/\names.lookup x=some .free
 | some i::js,y::N,0,j,x,h,h1,h2=>by
   cases h1
   cases h2
   simp only[rF,QCq,Bool.or_eq_true,beq_iff_eq] at h
   exact⟨h.1.1.1,h.1.1.2,h.1.2⟩
 | some i::js,y::N,k+1,j,x,h,h1,h2=>by
   simp only[rF,QCq] at h
   exact rQ h.2 (by simpa using h1) (by simpa using h2)
 |none::js,y::N,0,j,x,h,h1,h2=>by cases h1
 |none::js,y::N,k+1,j,x,h,h1,h2=>rQ (k:=k) (by simpa [rF] using h) (by simpa using h1) (by simpa using h2)
 | [],N,k,j,x,h,h1,h2=>by simp at h1
 |some i::js,[],k,j,x,h,h1,h2=>by simp at h2
 |none::js,[],k,j,x,h,h1,h2=>by simp at h2
theorem mL{env:Env}{x:Str}:∀{names:List (Str×NameKind)},names.lookup x=some .free->(names.map λ(n,k)=>if (k==NameKind.free&&env.scope.kind==.function&&env.kindOf n==some .cell) then(n,NameKind.cell) else(n,k)).lookup x=some .cell∨
  (names.map λ(n,k)=>if (k==NameKind.free&&env.scope.kind==.function&&env.kindOf n==some .cell) then(n,NameKind.cell) else(n,k)).lookup x=some .free
 | [],h=>by cases h
 | (n,k)::r,h=>by
   unfold List.lookup at h
   rw[QDq]
   by_cases e:(x==n)=true
   · rw[e] at h
     cases h
     dsimp only
     split
     · left;unfold List.lookup;rw[e]
     · right;unfold List.lookup;rw[e]
   · have a:(x==n)=false:=by simpa using e
     rw[a] at h
     have b:=mL (env:=env) h
     dsimp only
     split <;>(unfold List.lookup;rw[a];exact b)
def bp.gen{X:Cx}{N:List Str}{js:List (Option Nat)}{d:Scope}(k:d.kind=.function)(o:d.names.all (λy=>y.2 !=.cell)=true)(r:d.names.all (λy=>y.2 !=.local||d.names.lookup y.1==some .local)=true)
  (p:d.names.all (λy=>y.2 !=.free||(X.env.cells.lookup y.1).isSome)=true) (w:rF X.N X.env.kindOf d.names js N=true) (s:js.length=N.length):bp X N js d (dU X.env.cells d.names []) where
 kind:=k
 nocell:=λy f=>by
  have:=QUq.mp o y f
  simpa using this
 names:=λy f e=>by
  have:=QUq.mp r y f
  rw[e] at this
  simpa using this
 clos:=Ed λy f e=>by
  have:=QUq.mp p y f
  rw[e] at this
  simpa using this
 sub:=λx c h=>by
  rcases rR _ _ _ (PySem.mem_of_lookup h) with h|⟨n,l,e⟩
  ·cases h
  ·cases e
   have:=QUq.mp p _ l
   have A:(X.env.cells.lookup x).isSome=true:=by simpa using this
   obtain⟨c,g⟩:=Option.isSome_iff_exists.mp A
   rw[g]
   rfl
 has:=λx h=>by
  have m:(x,NameKind.free)∈d.names:=by
   have:∃k,(relabel d X.env).names.lookup x=some k/\(k=.cell\/k=.free):=by
    rcases h with h|h
    ·exact⟨_,h,.inl rfl⟩
    ·exact⟨_,h,.inr rfl⟩
   obtain⟨B,u,g⟩:=this
   have q:=PySem.mem_of_lookup u
   unfold relabel at q
   obtain⟨⟨n,t⟩,f,i⟩:=Qkq.mp q
   dsimp only at i
   split at i
   ·rename_i c
    cases i
    simp only[QCq] at c
    have:t=NameKind.free:=by simpa using c.1.1
    rw[←this]
    exact f
   ·cases i
    rcases g with z|z
    ·have:=QUq.mp o _ f
     rw[z] at this
     simp at this
    ·rw[←z];exact f
  obtain⟨c,g⟩:=qk (cells:=X.env.cells) d.names [] (.inl m)
  exact lu g
 cap:=λk j x v l=>by
  obtain⟨a,b,c⟩:=rQ w v l
  refine⟨a,b,?_⟩
  unfold relabel
  exact mL c
 len:=s
structure fG(P:Program)(w:World)(K:PySem.W.Frag)(mg:Str->Option Value)(base:Heap)(k:Nat)(x:Str)(ps:List Str)(F:dE):Prop where
 ex:∃f fd,bC P w K mg base d0 k f fd ps (eM ⟨K,mg⟩ ps.length F)/\Binds K fd ps []/\PySem.W.keepIn K (.ref f)=true/\mg x=some (.ref f)
section
variable{X:Cx}{x:Str}{k n:Nat}{ps:List Str}{F:dE}{e:Expr}{es:List Expr}{g:gW}{p pos:Pos}
def Iy(C:fG X.prog X.w X.K X.mg X.base k x ps F)(c:eG k X.A)(j:Gl X x)(d:PA X (e::es) (wF (md X) g))(i:nA ps.length g)
  (a:(x==("__debug__":Str))=false:=by decide) (he:starEach (e::es) X.env=(false,eval e X.env)::starEach es X.env:=by rfl) (hpl:(backTo pos (starEach es X.env)).any (·.1)=false:=by rfl):
  PE X (.Call (.Name x p) (e::es) [] pos) (tD (md X) (aF F g)):=by
 obtain⟨f,l,G,b,h,m⟩:=C.ex
 exact HY G c j m h b d i a he hpl
def JP(C:fG X.prog X.w X.K X.mg X.base k x ps F)(c:eG k X.A)(j:Gl X x)(d:PA X (e::es) (wF (md X) g))(i:nA ps.length g)
  (a:(x==("__debug__":Str))=false:=by decide) (he:starEach (e::es) X.env=(false,eval e X.env)::starEach es X.env:=by rfl) (hpl:(backTo pos (starEach es X.env)).any (·.1)=false:=by rfl):
  PE X (.Call (.Name x p) (e::es) [] pos) (tL (md X) (fA F g)):=by
 obtain⟨f,l,G,b,h,m⟩:=C.ex
 exact Gw G c j m h b d i a he hpl
end
def fG.mono{P:Program}{w:World}{K:PySem.W.Frag}{mg:Str->Option Value}{base:Heap}{j k:Nat}{x:Str}{ps:List Str}{F:dE}(C:fG P w K mg base j x ps F)(h:j<=k):fG P w K mg base k x ps F:=by
 obtain⟨f,c,G,b,a,m⟩:=C.ex
 exact⟨f,c,G.mono h,b,a,m⟩
structure Bl(mg:Str->Option Value):Prop where
 len:mg "len"=none
 tuple:mg "tuple"=none
 list:mg "list"=none
 dict:mg "dict"=none
 set:mg "set"=none
 int:mg "int"=none
 str:mg "str"=none
 bool:mg "bool"=none
 all:mg "all"=none
 any:mg "any"=none
 range:mg "range"=none
 zip:mg "zip"=none
 sorted:mg "sorted"=none
 isi:mg "isinstance"=none
 min:mg "min"=none
 max:mg "max"=none
 abs:mg "abs"=none
 enum:mg "enumerate"=none
open AutoSeq1 in
def lJ(l:Addr)(items:Array Value)(n:Nat)(b:Addr)(a:Array Value)(q:Nat)(k:Option Addr)(o:Array (Option Value))(p:¬(!items.isEmpty&&Builtin.List.listTooLong (items.size+a.size))=true)(f:items.size<=sizeLine)(c:items.size+a.size<=sizeLine+1):
  Meets (Builtin.«list.extend» ⟨[.ref l,.ref b],[]⟩) (λ_ R s=>s.heap.get? l=some {cls:=.type "list",dict:=none,data:=.seq items n,slots:= #[]}/\s.heap.get? b=some {cls:=.type "tuple",dict:=k,data:=.seq a q,slots:=o}/\R (.ok (.ret Value.none)) {s with heap:=s.heap.update l (Obj.mapSeq λx=>x++a),toks:=s.toks}):=
 .of_wp λi w A R s h=>by
  obtain⟨r,g,d,C,t⟩:=s;obtain⟨j,m,h⟩:=h;have v:=idx_int;have z:=AutoSeq1.sub_tuple_tuple;have B:=AutoSeq1.sub_list_list;have y:=AutoSeq1.sub_tuple_list;have u:=AutoSeq1.sub_list_tuple;
  have e:(items++a).size<=sizeLine+1:=by rw[Array.size_append];exact c
  wp_walk using (wpAny_updateSeq j rfl (hz:=f) (_hz':=e)),AutoSeq1.wpAny_loadPart' j,AutoSeq1.wpAny_loadPart' m;exact⟨_,rfl,h⟩
section
variable{X:Cx}{a b c e:Expr}{pos:Pos}{st:Stmt}
def F0:Iz X "list.extend" (λx vs H Q=>∃l b xs i,x=.ref l/\vs= [.ref b]/\H l=some (.lst xs)/\ic X.K H b i/\xs.length+i.length<=sizeLine/\Q .non (upd H l (.lst (xs++i)))):=by
 intro p s P H x vs v N Q I J C h
 obtain⟨l,b,xs,i,rfl,rfl,hH,hB,hz,q⟩:=h
 cases J
 obtain⟨u,rfl,ru⟩:=C.one
 cases ru
 obtain⟨z,f,n,r,R,e⟩:=I.lstM hH
 obtain⟨d,m,⟨⟨t,A,B,G⟩,y,k,L,o⟩,w⟩:=I.tuple hB
 have M:=m.length
 simp only at k o
 subst k o
 have j:f.toArray.size+d.toArray.size<=sizeLine:=by rw[Qjq,Qjq];omega
 have g:¬(!f.toArray.isEmpty&&Builtin.List.listTooLong (f.toArray.size+d.toArray.size))=true:=by
  rw[x9 j,Bool.and_false]
  exact Qtq
 refine call_meets F.slot_list_extend ⟨_,e,rfl⟩ F.entry_list_extend (F.args_list_extend_2 _ _)
  (lJ l f.toArray n b d.toArray L A G g (by rw[Qjq];omega) (by omega)) ⟨e,y,?_⟩
 refine⟨.non,_,I.lset (its':=f++d) hH e (by simp) (r.append m) ?_,rfl,q⟩
 rw[lQa]
 omega
def uj(f:bA)(g:fE):bA:=λh S=>(f h S).bind λ(x,i)=>match x with
 | .ref k=>(g h i).bind λ(p,d)=>match i[k]?,d[k]? with
   |some (.lst _),some (.lst ds)=>if p.2.isL=false/\ds.length+p.1.length<=sizeLine then some (.non,d.set k (.lst (ds++p.1))) else none
   |_,_=>none
 |_=>none
def G1{f:bA}{g:fE}:∀r H Q,tD (md X) (uj f g) r H Q->Kn X.K "list" (λx vs H Q=>∃l b xs p,x=.ref l/\vs= [.ref b]/\H l=some (.lst xs)/\ic X.K H b p/\xs.length+p.length<=sizeLine/\Q .non (upd H l (.lst (xs++p)))) (tD (md X) f) (DF (tQ (md X) g) GJ) r H Q:=λr H Q W=>by
 obtain⟨P,C,S,d,S',ok,e,q⟩:=W
 obtain⟨⟨x,z⟩,J,e⟩:=ar e
 cases x with
 | ref k=>
   dsimp only at e
   obtain⟨⟨⟨ys,t⟩,Y⟩,I,e⟩:=ar e
   dsimp only at e
   split at e
   · rename_i Z ds s h
     split at e
     · rename_i c
       obtain⟨rfl,rfl⟩:=cx e
       refine⟨P,C,S,_,z,ok,J,λo v H1 w i N=> ?_⟩
       cases N with
       | ref B=>
         rename_i a
         obtain⟨n,M,_⟩:=i.obj k a _ B s
         refine⟨.inl ⟨rfl,n,iM.of M⟩,o,C,z,ys,t,Y,ok.to w i,I,λR b G H2 A m L y=> ?_⟩
         have j:=cV A.pre B
         obtain⟨vs,h3,F⟩:=m.obj k a _ j h
         refine⟨a,b,vs,G,rfl,rfl,h3,L.sqT c.1,by rw[←F.length,←y.length];exact c.2,?_⟩
         obtain⟨u,U⟩:=m.putL j h (F.append y)
         exact q _ _ _ ((w.trans A).trans U) u .non
     · cases e
   · cases e
 |_=>cases e
def uo{f:bA}{g:fE}{o:Expr}{h d:Pos}(n:PE X o (tD (md X) f))(m:PE X e (tQ (md X) g))(i:attributeBase o "extend" X.env (eval o X.env)=eval o X.env:=by rfl) (k:((backTo d (starEach [e] X.env)).all (λx=> !x.1)&&(backToKw d (keywordEach [] X.env)).all (λx=>x.1.isSome)
   &&decide ([e].length+([]:List Keyword).length+(if ([]:List Keyword).isEmpty then 0 else 1)<30))=true:=by rfl)
  (j:(h.endLine==d.line)=true:=by rfl) (l:starEach [e] X.env= [(false,eval e X.env)]:=by rfl):PE X (.Call (.Attribute o "extend" h) [e] [] d) (tD (md X) (uj f g)):=
 j2 (rT PySem.F.plainAttrs_list PySem.F.slot_list_extend PySem.F.type_list_extend F0 n (dG m gF l) i k j l) G1
def kS(x:V):List V->Option Nat
 | []=>none
 |y::r=>if nh y x=true then some 0 else(kS x r).map (·+1)
theorem zX{x:V}:∀{xs:List V} {j:Nat},kS x xs=some j->(∃y,xs[j]?=some y/\nh y x=true)/\∀m y,m<j->xs[m]?=some y->nh y x=false
 | [],_,h=>by cases h
 | y::r,j,h=>by
   unfold kS at h
   split at h
   · rename_i c
     cases h
     exact⟨⟨y,rfl,c⟩,λm _ f=>absurd f (Nat.not_lt_zero _)⟩
   · rename_i c
     obtain⟨i,k,rfl⟩:=oQm.mp h
     obtain⟨⟨z,g,n⟩,l⟩:=zX k
     refine⟨⟨z,by simpa using g,n⟩,λm w f d=> ?_⟩
     cases m with
     |zero=>cases d;simpa using c
     |succ m=>exact l m w (by omega) (by simpa using d)
def Ck:KI X "list.index" (λx vs H Q=>∃a xs y j,x=.ref a/\vs= [y]/\iM X.K H a xs/\gJ y=true/\xs.all gJ=true/\kS y xs=some j/\Q (.int (j:Nat)) H):=by
 intro J s σ H x vs v us Q I Z U h
 obtain⟨a,xs,y,j,rfl,rfl,hq,fy,fs,hj,q⟩:=h
 cases Z
 obtain⟨u,rfl,ru⟩:=U.one
 obtain⟨f,r,S,hz⟩:=I.list hq
 obtain⟨⟨L,dd,R,W⟩,n,e,B,g,G⟩:=S
 simp only at B g G
 subst B g G
 obtain⟨⟨z,o,N⟩,h3⟩:=zX hj
 have hl:=r.length
 have P:j<xs.length:=(gQs.mp o).1
 obtain⟨w,k,A⟩:=r.get o
 have p:f.toArray[j]'(by rw[Qjq];omega)=w:=by
  have:=(gQs.mp k).2
  simpa using this
 have C:=jh
 refine call_meets PySem.F.slot_list_index ⟨_,e,rfl⟩ PySem.F.entry_list_index (PySem.F.args_list_index_2 _ _)
  (SeqAt.list_indexAt a f.toArray n none W u (yi y) j (by rw[Qjq];omega) (by omega) (by rw[p,vq A (QUq.mp fs z (mQg o))];exact N) λm hm t=> ?_)
  ⟨e,λw k=>iQ ru fy r fs w (by simpa using k),⟨.int j,H,I.tok _,⟨_,rfl⟩,q⟩⟩
 have d:m<xs.length:=by rw[Qjq] at hm;omega
 obtain⟨Y,i,l⟩:=r.get (gQe d)
 have M:f.toArray[m]=Y:=by
  have:=(gQs.mp i).2
  simpa using this
 rw[M,vq l (QUq.mp fs _ (List.getElem_mem d))]
 exact h3 m _ t (gQe d)
end
end DL
namespace Zq
open PySem
def It(t:Bool)(h:Heap)(i a:Addr)(k:Nat):Prop:=if t=true then h.IsTupleIter i a k else h.IsListIter i a k
def Sq(t:Bool)(h:Heap)(a:Addr)(xs:Array Value):Prop:=if t=true then h.IsTuple a xs else h.IsList a xs
section
variable{t t2:Bool}{h h':Heap}{i j a b z O T:Addr}{k:Nat}{xs ys:Array Value}
theorem It.at(g:It t h i a k)(f:∀o,h.get? i=some o->h'.get? i=some o):It t h' i a k:=by
 cases t with
 |true=>exact(show h.IsTupleIter i a k from g).at f
 |false=>exact(show h.IsListIter i a k from g).at f
def It.ext{c:Addr}(g:It t h i a k)(f:Heap.ExtBut c h h')(n:i≠c):It t h' i a k:=g.at λo e=>f i o n e
def Sq.at(g:Sq t h a xs)(f:∀o,h.get? a=some o->h'.get? a=some o):Sq t h' a xs:=by
 cases t with
 |true=>obtain⟨o,e,r⟩:=(show h.IsTuple a xs from g);exact(show h'.IsTuple a xs from⟨o,f o e,r⟩)
 |false=>obtain⟨o,e,r⟩:=(show h.IsList a xs from g);exact(show h'.IsList a xs from⟨o,f o e,r⟩)
def Sq.ext{c:Addr}(g:Sq t h a xs)(f:Heap.ExtBut c h h')(n:a≠c):Sq t h' a xs:=g.at λo e=>f a o n e
def It.obj(g:It t h i a k):∃o,h.get? i=some o/\∀v,o.data≠.cell v:=by
 cases t with
 |true=>obtain⟨o,e,_,d⟩:=(show h.IsTupleIter i a k from g);exact⟨o,e,λv n=>by rw[d] at n;cases n⟩
 |false=>obtain⟨o,e,_,d⟩:=(show h.IsListIter i a k from g);exact⟨o,e,λv n=>by rw[d] at n;cases n⟩
end
section
variable{prog:Program}{w:World}{A:Around}{E:Value->Shared->Prop}{s:Shared}{t t2:Bool}{z T O i j a b:Addr}{k:Nat}{xs ys:Array Value}{x y u v:Value}
def draw{Q:Value->Shared->Prop}(c:It t s.heap i a k)(e:Sq t s.heap a xs)(d:xs[k]?=some v)
  (q:∀h',It t h' i a (k+1)->Heap.SameBut i s.heap h'->Q v {s with heap:=h'}):wpAny (model prog w) A (Builtin.SmallTypes.nextOf (.ref i)) Q E s:=by
 cases t with
 |true=>exact Zp.IH c e d q
 |false=>exact wpAny_nextOf_list_item c e d q
def Ak{Q:Value->Shared->Prop}(c:A.handled=none)(d:It t s.heap i a k)(g:Sq t s.heap a xs)(f:xs[k]?=none)
  (q:∀h' e,Heap.ExtBut i s.heap h'->(∃o,h'.get? e=some o/\o.cls=.type "StopIteration")->E (.ref e) {s with heap:=h'}):wpAny (model prog w) A (Builtin.SmallTypes.nextOf (.ref i)) Q E s:=by
 cases t with
 |true=>exact Zp.JB c d g f q
 |false=>exact wpAny_nextOf_list_end c d g f q
abbrev su(h:Heap)(z T O:Addr)(c d:Value):Prop:=
 h.get? z=some {cls:=.type "zip",dict:=none,data:=.fields #[c,d,.bool false,.ref T,.ref O],slots:= #[]}
def item(D:ZipApart z T O i j a b){Q:Value->Shared->Prop}(n:su s.heap z T O .none (.bool false))(gT:IsPair s.heap T (.ref i) (.ref j))(gO:IsPair s.heap O u v)(gi:It t s.heap i a k)(gj:It t2 s.heap j b k)
  (ga:Sq t s.heap a xs) (gb:Sq t2 s.heap b ys) (ex:xs[k]?=some x) (ey:ys[k]?=some y)
  (q:∀h',su h' z T O (rawInt s.heap.objs.size) (.bool false)->IsPair h' O x y->It t h' i a (k+1)->It t2 h' j b (k+1)->IsPair h' s.heap.objs.size x y->Zp.Rest z O i j s.heap h'->Q (.ref s.heap.objs.size) {s with heap:=h'}):
  wpAny (model prog w) A (Builtin.«zip.__next__» ⟨[.ref z],[]⟩) (λM s'=>∃r,M=.done (.ret r)/\Q r s') E s:=by
 refine(?_:wpAny _ _ (field (.ref z) 2 >>= _) _ _ _)
 refine Qaq (QMq n rfl (x:=.bool false) rfl ?_)
 refine(?_:wpAny _ _ (field (.ref z) 3 >>= _) _ _ _)
 refine Qaq (QMq n rfl (x:=.ref T) rfl (Qaq (wpAny_seqItems gT rfl ?_)))
 refine(?_:wpAny _ _ (Builtin.SmallTypes.ownedTupleIsFree (.ref z) >>= _) _ _ _)
 refine Qaq ?_
 unfold Builtin.SmallTypes.ownedTupleIsFree
 refine Qaq (QMq n rfl (x:=.none) rfl (Qgq ?_))
 simp only[if_true]
 refine Qaq (wpAny_rule (Qaq (QMq n rfl (x:=.ref O) rfl (Qaq (wpAny_setField_rec n (by simp) λh1 J f=> ?_)))))
 replace J:su h1 z T O .ellipsis (.bool false):=J
 refine Qaq ?_
 simp only[List.zipIdx_cons,List.zipIdx_nil,List.forIn_nil,List.forIn_cons]
 refine Qaq (Qaq (wpAny_onRaise ?_))
 refine(?_:wpAny _ _ (Builtin.SmallTypes.nextOf (.ref i) >>= _) _ _ _)
 refine Qaq (draw (gi.ext f.extBut D.i1z) (ga.ext f.extBut D.l1z) ex λh2 i2 h=>Qgq ?_)
 have Y:IsPair h2 O u v:=h.extBut _ _ D.TOi1 (f.extBut _ _ D.TOz gO)
 refine Qaq (wpAny_seqItems Y rfl (Qaq (wpAny_updateSeq_pair Y λh3 N l=>Qaq (wpAny_letGo (Qgq ?_)))))
 replace N:IsPair h3 O x v:=N
 refine Qaq (Qaq (wpAny_onRaise ?_))
 refine(?_:wpAny _ _ (Builtin.SmallTypes.nextOf (.ref j) >>= _) _ _ _)
 refine Qaq (draw (((gj.ext f.extBut D.i2z).ext h.extBut D.i12.symm).ext l.extBut D.TOi2.symm) (((gb.ext f.extBut D.l2z).ext h.extBut D.l2i1).ext l.extBut D.l2TO) ey λh4 j4 m=>Qgq ?_)
 have P:IsPair h4 O x v:=m.extBut _ _ D.TOi2 N
 refine Qaq (wpAny_seqItems P rfl (Qaq (wpAny_updateSeq_pair P λd H p=>Qaq (wpAny_letGo (Qgq (Qgq ?_))))))
 replace H:IsPair d O x y:=H
 refine Qaq (wpAny_seqItems H rfl (Qaq (wpAny_newTuple ?_)))
 have S:d.objs.size=s.heap.objs.size:=by rw[p.1,m.1,l.1,h.1,f.1]
 have U:su d z T O .ellipsis (.bool false):=p.extBut _ _ D.TOz.symm (m.extBut _ _ D.i2z.symm (l.extBut _ _ D.TOz.symm (h.extBut _ _ D.i1z.symm J)))
 have r5:Zp.Rest z O i j s.heap d:=λc o g F I K e=>p.extBut _ _ F (m.extBut _ _ K (l.extBut _ _ F (h.extBut _ _ I (f.extBut _ _ g e))))
 have i5:It t d i a (k+1):=((i2.ext l.extBut D.TOi1.symm).ext m.extBut D.i12).ext p.extBut D.TOi1.symm
 have j5:It t2 d j b (k+1):=j4.ext p.extBut D.TOi2.symm
 have Z:z<d.objs.size:=Qiq U
 refine(?_:wpAny _ _ (Builtin.SmallTypes.ownedTupleHandOut (.ref z) (.ref d.objs.size) >>= _) _ _ _)
 refine Qaq ?_
 unfold Builtin.SmallTypes.ownedTupleHandOut
 have z6:su (d.push {cls:=.type "tuple",data:=.seq #[x,y]}) z T O .ellipsis (.bool false):=Qcq _ U
 refine Qaq (wpAny_setField_rec z6 (by simp) λh7 L W=> ?_)
 replace L:su h7 z T O (rawInt d.objs.size) (.bool false):=L
 refine wpAny_setField_rec L (by simp) λG C X=> ?_
 replace C:su G z T O (rawInt d.objs.size) (.bool false):=C
 have B:∀c o,c≠z->d.get? c=some o->G.get? c=some o:=λc o g e=>X.extBut _ _ g (W.extBut _ _ g (Qcq _ e))
 have R:IsPair G d.objs.size x y:=X.extBut _ _ (Nat.ne_of_gt Z) (W.extBut _ _ (Nat.ne_of_gt Z) (Qrq _ rfl))
 rw[S] at C R
 refine Qgq ⟨_,rfl,?_⟩
 refine(?_:Q (.ref d.objs.size) _)
 rw[S]
 exact q G C (B _ _ D.TOz H) (i5.at λo e=>B _ o D.i1z e) (j5.at λo e=>B _ o D.i2z e) R λc o g F I K e=>B c o g (r5 c o g F I K e)
def alive{α:Addr}{Q:Option Obj->Shared->Prop}(h:Q (s.heap.get? α) s):wpAny (model prog w) A (loadIfAlive α) Q E s:=λ_ _ _=>h
def again(D:ZipApart z T O i j a b){p:Addr}{K:Obj}{n:Value}{Q:Value->Shared->Prop}(l:su s.heap z T O (rawInt p) n)(gp:s.heap.get? p=some K)(gT:IsPair s.heap T (.ref i) (.ref j))(X:It t s.heap i a k)(M:It t2 s.heap j b k)
  (W:Sq t s.heap a xs) (Y:Sq t2 s.heap b ys) (ex:xs[k]?=some x) (R:ys[k]?=some y)
  (q:∀h',su h' z T O (rawInt p) (.bool true)->It t h' i a (k+1)->It t2 h' j b (k+1)->IsPair h' s.heap.objs.size x y->Zp.Rest z O i j s.heap h'->Q (.ref s.heap.objs.size) {s with heap:=h'}):
  wpAny (model prog w) A (Builtin.«zip.__next__» ⟨[.ref z],[]⟩) (λI s'=>∃r,I=.done (.ret r)/\Q r s') E s:=by
 refine(?_:wpAny _ _ (field (.ref z) 2 >>= _) _ _ _)
 refine Qaq (QMq l rfl (x:=.bool false) rfl ?_)
 refine(?_:wpAny _ _ (field (.ref z) 3 >>= _) _ _ _)
 refine Qaq (QMq l rfl (x:=.ref T) rfl (Qaq (wpAny_seqItems gT rfl ?_)))
 refine(?_:wpAny _ _ (Builtin.SmallTypes.ownedTupleIsFree (.ref z) >>= _) _ _ _)
 refine Qaq ?_
 unfold Builtin.SmallTypes.ownedTupleIsFree
 refine Qaq (QMq l rfl (x:=rawInt p) rfl ?_)
 refine(?_:wpAny _ _ (loadIfAlive ((p:Int).toNat) >>= _) _ _ _)
 refine Qaq ?_
 rw[Int.toNat_natCast]
 refine alive ?_
 rw[gp]
 refine(?_:wpAny _ _ (field (.ref z) 1 >>= _) _ _ _)
 refine Qaq (QMq l rfl (x:=n) rfl ?_)
 have G:wpAny (model prog w) A (if (n !=Value.bool true)=true then(do let _←setField (.ref z) 1 (.bool true);pure false) else pure false)
   (λr s'=>r=false/\∃g,s'={s with heap:=g}/\su g z T O (rawInt p) (.bool true)/\Heap.SameBut z s.heap g) E s:=by
  by_cases c:(n !=Value.bool true)=true
  ·rw[Qhq c]
   exact Qaq (wpAny_setField_rec l (by simp) λg H d=>Qgq ⟨rfl,g,rfl,H,d⟩)
  ·rw[Quq c]
   have e:n=Value.bool true:=by simpa using c
   subst e
   exact Qgq ⟨rfl,s.heap,rfl,l,Heap.SameBut.refl _ _⟩
 refine QRq G (λr s' F=> ?_) λ_ _ h=>h
 obtain⟨rfl,g,rfl,H,d⟩:=F
 simp only[Bool.false_eq_true,if_false]
 refine Qaq ?_
 simp only[List.forIn_toArray,List.forIn_cons,List.forIn_nil]
 refine Qaq (Qaq (QLq ?_))
 refine(?_:wpAny _ _ (Builtin.SmallTypes.nextOf (.ref i) >>= _) _ _ _)
 refine Qaq (draw (X.ext d.extBut D.i1z) (W.ext d.extBut D.l1z) ex λh2 i2 m=>Qgq (Qgq ?_))
 refine Qaq (Qaq (QLq ?_))
 refine(?_:wpAny _ _ (Builtin.SmallTypes.nextOf (.ref j) >>= _) _ _ _)
 refine Qaq (draw ((M.ext d.extBut D.i2z).ext m.extBut D.i12.symm) ((Y.ext d.extBut D.l2z).ext m.extBut D.l2i1) R λf P C=>Qgq (Qgq (Qgq ?_)))
 refine Qaq (wpAny_newTuple ?_ (by show 2<=_;decide))
 have S:f.objs.size=s.heap.objs.size:=by rw[C.1,m.1,d.1]
 have B:∀c o,f.get? c=some o->(f.push {cls:=.type "tuple",data:=.seq #[x,y]}).get? c=some o:=λc o e=>Qcq _ e
 have J:IsPair (f.push {cls:=.type "tuple",data:=.seq #[x,y]}) f.objs.size x y:=Qrq _ rfl
 have N:su (f.push {cls:=.type "tuple",data:=.seq #[x,y]}) z T O (rawInt p) (.bool true):=B _ _ (C.extBut _ _ D.i2z.symm (m.extBut _ _ D.i1z.symm H))
 refine Qgq ⟨_,rfl,?_⟩
 refine(?_:Q (.ref f.objs.size) _)
 rw[S] at J⊢
 exact q _ N ((i2.ext C.extBut D.i12).at λo e=>B _ o e) (P.at λo e=>B _ o e) J λc o U c2 L Z e=>B c o (C.extBut _ _ Z (m.extBut _ _ L (d.extBut _ _ U e)))
def stop(D:ZipApart z T O i j a b){Q:Fin->Shared->Prop}(M:A.handled=none)(d:su s.heap z T O .none (.bool false))(P:IsPair s.heap T (.ref i) (.ref j))(J:It t s.heap i a k)(H:Sq t s.heap a xs)(ex:xs[k]?=none)
  (q:∀h' e,Zp.Rest z O i j s.heap h'->(∃o,h'.get? e=some o/\o.cls=.type "StopIteration")->E (.ref e) {s with heap:=h'}):
  wpAny (model prog w) A (Builtin.«zip.__next__» ⟨[.ref z],[]⟩) Q E s:=by
 refine(?_:wpAny _ _ (field (.ref z) 2 >>= _) _ _ _)
 refine Qaq (QMq d rfl (x:=.bool false) rfl ?_)
 refine(?_:wpAny _ _ (field (.ref z) 3 >>= _) _ _ _)
 refine Qaq (QMq d rfl (x:=.ref T) rfl (Qaq (wpAny_seqItems P rfl ?_)))
 refine(?_:wpAny _ _ (Builtin.SmallTypes.ownedTupleIsFree (.ref z) >>= _) _ _ _)
 refine Qaq ?_
 unfold Builtin.SmallTypes.ownedTupleIsFree
 refine Qaq (QMq d rfl (x:=.none) rfl (Qgq ?_))
 simp only[if_true]
 refine Qaq (wpAny_rule (Qaq (QMq d rfl (x:=.ref O) rfl (Qaq (wpAny_setField_rec d (by simp) λI g f=> ?_)))))
 replace g:su I z T O .ellipsis (.bool false):=g
 refine Qaq ?_
 simp only[List.zipIdx_cons,List.zipIdx_nil,List.forIn_nil,List.forIn_cons]
 refine Qaq (Qaq (wpAny_onRaise ?_))
 refine(?_:wpAny _ _ (Builtin.SmallTypes.nextOf (.ref i) >>= _) _ _ _)
 refine Qaq (Ak M (J.ext f.extBut D.i1z) (H.ext f.extBut D.l1z) ex λG e l L=> ?_)
 obtain⟨K,h,B⟩:=L
 have p:su G z T O .ellipsis (.bool false):=l _ _ D.i1z.symm g
 have C:e≠z:=λn=>by rw[n,p] at h;cases h;simp at B
 exact wpAny_setField_rec p (by simp) λN _ r=>q N e (λc o m _ F _ n=>r.extBut _ _ m (l _ _ F (f.extBut _ _ m n))) ⟨K,r.extBut _ _ C h,B⟩
def J0(D:ZipApart z T O i j a b){p:Addr}{G:Obj}{g:Value}{Q:Fin->Shared->Prop}(N:A.handled=none)(f:su s.heap z T O (rawInt p) g)(S:s.heap.get? p=some G)(R:IsPair s.heap T (.ref i) (.ref j))(M:It t s.heap i a k)(L:Sq t s.heap a xs)(ex:xs[k]?=none)
  (q:∀h' e,Zp.Rest z O i j s.heap h'->(∃o,h'.get? e=some o/\o.cls=.type "StopIteration")->E (.ref e) {s with heap:=h'}):
  wpAny (model prog w) A (Builtin.«zip.__next__» ⟨[.ref z],[]⟩) Q E s:=by
 refine(?_:wpAny _ _ (field (.ref z) 2 >>= _) _ _ _)
 refine Qaq (QMq f rfl (x:=.bool false) rfl ?_)
 refine(?_:wpAny _ _ (field (.ref z) 3 >>= _) _ _ _)
 refine Qaq (QMq f rfl (x:=.ref T) rfl (Qaq (wpAny_seqItems R rfl ?_)))
 refine(?_:wpAny _ _ (Builtin.SmallTypes.ownedTupleIsFree (.ref z) >>= _) _ _ _)
 refine Qaq ?_
 unfold Builtin.SmallTypes.ownedTupleIsFree
 refine Qaq (QMq f rfl (x:=rawInt p) rfl ?_)
 refine(?_:wpAny _ _ (loadIfAlive ((p:Int).toNat) >>= _) _ _ _)
 refine Qaq ?_
 rw[Int.toNat_natCast]
 refine alive ?_
 rw[S]
 refine(?_:wpAny _ _ (field (.ref z) 1 >>= _) _ _ _)
 refine Qaq (QMq f rfl (x:=g) rfl ?_)
 have B:wpAny (model prog w) A (if (g !=Value.bool true)=true then(do let _←setField (.ref z) 1 (.bool true);pure false) else pure false)
   (λr C=>r=false/\∃d,C={s with heap:=d}/\su d z T O (rawInt p) (.bool true)/\Heap.SameBut z s.heap d) E s:=by
  by_cases c:(g !=Value.bool true)=true
  ·rw[Qhq c]
   exact Qaq (wpAny_setField_rec f (by simp) λd F l=>Qgq ⟨rfl,d,rfl,F,l⟩)
  ·rw[Quq c]
   have e:g=Value.bool true:=by simpa using c
   subst e
   exact Qgq ⟨rfl,s.heap,rfl,f,Heap.SameBut.refl _ _⟩
 refine QRq B (λr C m=> ?_) λ_ _ h=>h
 obtain⟨rfl,d,rfl,F,l⟩:=m
 simp only[Bool.false_eq_true,if_false]
 refine Qaq ?_
 simp only[List.forIn_toArray,List.forIn_cons,List.forIn_nil]
 refine Qaq (Qaq (QLq ?_))
 refine(?_:wpAny _ _ (Builtin.SmallTypes.nextOf (.ref i) >>= _) _ _ _)
 refine Qaq (Ak N (M.ext l.extBut D.i1z) (L.ext l.extBut D.l1z) ex λK e I P=> ?_)
 exact q K e (λc o J _ H _ n=>I _ _ H (l.extBut _ _ J n)) P
def Zs(h:Heap)(z T O i j:Addr):Prop:=su h z T O .none (.bool false)/\(∃u v,IsPair h O u v)\/∃(p:Addr) (c:Obj) (d:Value),su h z T O (rawInt (p:Nat)) d/\h.get? p=some c/\p≠z/\p≠O/\p≠i/\p≠j
def Zs.but{h h':Heap}{S:Addr}(g:Zs h z T O i j)(f:∀c o,c≠S->h.get? c=some o->h'.get? c=some o)(e:z≠S)(C:O≠S)(q:∃o,h'.get? S=some o):Zs h' z T O i j:=by
 rcases g with⟨d,u,v,r⟩|⟨p,m,l,d,F,n⟩
 ·exact .inl ⟨f _ _ e d,u,v,f _ _ C r⟩
 ·by_cases c:p=S
  ·subst c
   obtain⟨o,B⟩:=q
   exact .inr ⟨p,o,l,f _ _ e d,B,n⟩
  ·exact .inr ⟨p,m,l,f _ _ e d,f _ _ c F,n⟩
def D5(D:ZipApart z T O i j a b){Q:Option Value->Shared->Prop}(d:Zs s.heap z T O i j)(P:IsPair s.heap T (.ref i) (.ref j))(B:It t s.heap i a k)(m:It t2 s.heap j b k)
  (J:Sq t s.heap a xs) (M:Sq t2 s.heap b ys) (ex:xs[k]?=some x) (H:ys[k]?=some y)
  (q:∀h',Zs h' z T O i j->It t h' i a (k+1)->It t2 h' j b (k+1)->IsPair h' s.heap.objs.size x y->Zp.Rest z O i j s.heap h'->Q (some (.ref s.heap.objs.size)) {s with heap:=h'}):
  wpAny (model prog w) A (pyNext (.ref z)) Q E s:=by
 unfold pyNext
 have g:∀{c o},s.heap.get? c=some o->s.heap.objs.size≠c:=λe=>Nat.ne_of_gt (Qiq e)
 obtain⟨X,S,_⟩:=B.obj
 obtain⟨Y,W,_⟩:=m.obj
 rcases d with⟨d,u,v,I⟩|⟨p,U,Z,d,R,G,K,L,N⟩
 ·have f:s.TypeIs (.ref z) "zip":=⟨_,d,rfl⟩
  exact Qaq (wpAny_attempt (QiQ (name:=Str.ofString "__next__") f F.slot_zip_next (wpAny_call_entry F.slot_zip_next f F.entry_zip_next
   (item D d P I B m J M ex H λh' C a2 n r h l=>Qgq (q h' (.inr ⟨_,_,_,C,h,g d,g I,g S,g W⟩) n r h l)) (F.args_zip_next_1 _))))
 ·have f:s.TypeIs (.ref z) "zip":=⟨_,d,rfl⟩
  exact Qaq (wpAny_attempt (QiQ (name:=Str.ofString "__next__") f F.slot_zip_next (wpAny_call_entry F.slot_zip_next f F.entry_zip_next
   (again D d R P B m J M ex H λh' C n r h l=>Qgq (q h' (.inr ⟨p,U,_,C,l _ _ G K L N R,G,K,L,N⟩) n r h l)) (F.args_zip_next_1 _))))
def xy(D:ZipApart z T O i j a b){Q:Option Value->Shared->Prop}(m:A.handled=none)(c:Zs s.heap z T O i j)(n:IsPair s.heap T (.ref i) (.ref j))(l:It t s.heap i a k)(h:Sq t s.heap a xs)(ex:xs[k]?=none)
  (q:∀h',Zp.Rest z O i j s.heap h'->Q none {s with heap:=h'}):wpAny (model prog w) A (pyNext (.ref z)) Q E s:=by
 unfold pyNext
 rcases c with⟨c,u,v,H⟩|⟨p,C,G,c,B,_⟩
 ·have d:s.TypeIs (.ref z) "zip":=⟨_,c,rfl⟩
  exact Qaq (wpAny_attempt (QiQ (name:=Str.ofString "__next__") d F.slot_zip_next (wpAny_call_entry F.slot_zip_next d F.entry_zip_next
   (stop D m c n l h ex λh' e r ⟨o,g,f⟩=>Qaq (wpAny_isInstance (T:="StopIteration") (b:=true) ⟨o,g,f⟩ isSubtype_stop (Qgq (q _ r)))) (F.args_zip_next_1 _))))
 ·have d:s.TypeIs (.ref z) "zip":=⟨_,c,rfl⟩
  exact Qaq (wpAny_attempt (QiQ (name:=Str.ofString "__next__") d F.slot_zip_next (wpAny_call_entry F.slot_zip_next d F.entry_zip_next
   (J0 D m c B n l h ex λh' e r ⟨o,g,f⟩=>Qaq (wpAny_isInstance (T:="StopIteration") (b:=true) ⟨o,g,f⟩ isSubtype_stop (Qgq (q _ r)))) (F.args_zip_next_1 _))))
end
def KC(t:Bool):String:=if t=true then "tuple_iterator" else "list_iterator"
abbrev H1(t:Bool)(h:Heap)(a:Addr):Heap:=h.push {cls:=.type (KC t),data:=.fields #[.ref a,.int 0 0]}
abbrev H2(t t2:Bool)(h:Heap)(a b:Addr):Heap:=(H1 t h a).push {cls:=.type (KC t2),data:=.fields #[.ref b,.int 0 0]}
abbrev H3(t t2:Bool)(h:Heap)(a b:Addr):Heap:=(H2 t t2 h a b).push {cls:=.type "tuple",data:=.seq #[.ref h.objs.size,.ref (H1 t h a).objs.size]}
abbrev H4(t t2:Bool)(h:Heap)(a b:Addr):Heap:=(H3 t t2 h a b).push {cls:=.type "tuple",data:=.seq #[.none,.none]}
abbrev H5(t t2:Bool)(h:Heap)(a b:Addr):Heap:=(H4 t t2 h a b).push {cls:=.type "zip",data:=.fields #[.none,.bool false,.bool false,.ref (H2 t t2 h a b).objs.size,.ref (H3 t t2 h a b).objs.size]}
def Sq.push{t:Bool}{h:Heap}{a:Addr}{xs:Array Value}(g:Sq t h a xs)(o:Obj):Sq t (h.push o) a xs:=g.at λ_ e=>Qcq _ e
def Bo(t t2:Bool)(a b:Addr)(xs ys:Array Value):Meets (Builtin.«zip.__new__» ⟨[.type "zip",.ref a,.ref b],[]⟩) (λ_ R s=>Sq t s.heap a xs/\Sq t2 s.heap b ys/\R (.ok (.ret (.ref (H4 t t2 s.heap a b).objs.size))) {s with heap:=H5 t t2 s.heap a b}):=
 .of_wp λm w A R s h=>by
  obtain⟨e,g,d,i,f⟩:=s
  obtain⟨l,o,h⟩:=h
  have n:=sub_zip
  have c:=o.push {cls:=.type (KC t),data:=.fields #[.ref a,.int 0 0]}
  cases t <;>cases t2
  ·have k:Heap.IsList (Shared.heap ⟨e,g,d,i,f⟩) a xs:=l
   have j:Heap.IsList (Shared.heap ⟨e.push {cls:=.type "list_iterator",data:=.fields #[.ref a,.int 0 0]},g,d,i,f⟩) b ys:=c
   wp_walk using wpAny_pyIter_list k,wpAny_pyIter_list j
   exact⟨_,rfl,h⟩
  ·have k:Heap.IsList (Shared.heap ⟨e,g,d,i,f⟩) a xs:=l
   have j:Heap.IsTuple (Shared.heap ⟨e.push {cls:=.type "list_iterator",data:=.fields #[.ref a,.int 0 0]},g,d,i,f⟩) b ys:=c
   wp_walk using wpAny_pyIter_list k,wpAny_pyIter_tuple j
   exact⟨_,rfl,h⟩
  ·have k:Heap.IsTuple (Shared.heap ⟨e,g,d,i,f⟩) a xs:=l
   have j:Heap.IsList (Shared.heap ⟨e.push {cls:=.type "tuple_iterator",data:=.fields #[.ref a,.int 0 0]},g,d,i,f⟩) b ys:=c
   wp_walk using wpAny_pyIter_tuple k,wpAny_pyIter_list j
   exact⟨_,rfl,h⟩
  ·have k:Heap.IsTuple (Shared.heap ⟨e,g,d,i,f⟩) a xs:=l
   have j:Heap.IsTuple (Shared.heap ⟨e.push {cls:=.type "tuple_iterator",data:=.fields #[.ref a,.int 0 0]},g,d,i,f⟩) b ys:=c
   wp_walk using wpAny_pyIter_tuple k,wpAny_pyIter_tuple j
   exact⟨_,rfl,h⟩
section
variable{prog:Program}{w:World}{A:Around}{E:Value->Shared->Prop}{s:Shared}
def Gb{t t2:Bool}{a b:Addr}{xs ys:Array Value}{Q:Value->Shared->Prop}(p:Sq t s.heap a xs)(r:Sq t2 s.heap b ys)
  (q:∀h',su h' (s.heap.objs.size+4) (s.heap.objs.size+2) (s.heap.objs.size+3) .none (.bool false)->IsPair h' (s.heap.objs.size+2) (.ref s.heap.objs.size) (.ref (s.heap.objs.size+1))->IsPair h' (s.heap.objs.size+3) .none .none→
   It t h' s.heap.objs.size a 0->It t2 h' (s.heap.objs.size+1) b 0->(∀c o,s.heap.get? c=some o->h'.get? c=some o)->Q (.ref (s.heap.objs.size+4)) {s with heap:=h'}):
  wpAny (model prog w) A (call (.type "zip") [.ref a,.ref b]) Q E s:=by
 refine callType_new F.called_zip (by decide) (F.typeCall_zip_2 _ _) (F.newCall_zip_2 _ _) (λe=>F.args_object_init_3 e _ _) F.entry_zip_new (Bo t t2 a b xs ys) ⟨p,r,?_⟩
 have g:(H1 t s.heap a).objs.size=s.heap.objs.size+1:=Heap.size_push ..
 have f:(H2 t t2 s.heap a b).objs.size=s.heap.objs.size+2:=by rw[Heap.size_push,g]
 have h:(H3 t t2 s.heap a b).objs.size=s.heap.objs.size+3:=by rw[Heap.size_push,f]
 have j:(H4 t t2 s.heap a b).objs.size=s.heap.objs.size+4:=by rw[Heap.size_push,h]
 have d:(H5 t t2 s.heap a b).get? (H4 t t2 s.heap a b).objs.size=some _:=Qrq _ rfl
 have i:(H5 t t2 s.heap a b).get? (H3 t t2 s.heap a b).objs.size=some _:=Qcq _ (Qrq _ rfl)
 have l:(H5 t t2 s.heap a b).get? (H2 t t2 s.heap a b).objs.size=some _:=Qcq _ (Qcq _ (Qrq _ rfl))
 have k:(H5 t t2 s.heap a b).get? (H1 t s.heap a).objs.size=some _:=Qcq _ (Qcq _ (Qcq _ (Qrq _ rfl)))
 have m:(H5 t t2 s.heap a b).get? s.heap.objs.size=some _:=Qcq _ (Qcq _ (Qcq _ (Qcq _ (Qrq _ rfl))))
 refine(?_:_/\_)
 rw[f,h,j] at d
 rw[g,f] at l
 rw[h] at i
 rw[g] at k
 rw[j]
 refine⟨⟨_,d,rfl⟩,q _ d l i ?_ ?_ λc o n=>Qcq _ (Qcq _ (Qcq _ (Qcq _ (Qcq _ n))))⟩
 ·cases t <;>exact⟨_,m,rfl,rfl⟩
 ·cases t2 <;>exact⟨_,k,rfl,rfl⟩
end
def nF:typeLookup (.type "zip") "__getattr__"=pure none:=by rw[typeLookup_type,builtinLookup_eq_fast];kernel_rfl
def jz:entryFor table "zip.__getattribute__"=some Builtin.«object.__getattribute__»:=
 entryFor_alias (id':="object.__getattribute__") (by kernel_rfl) (by decide +kernel) (by decide +kernel) (by kernel_rfl)
def pw:typeLookup (Value.type "zip") (Str.ofString "keys")=pure none:=by
 rw[typeLookup_type,builtinLookup_eq_fast]
 rfl
def rD(a:Addr)(fs:Array Value)(name:Str)(u:Tok)(e:typeLookup (.type "zip") name=pure none)(b:(["__module__","__name__","__qualname__","__doc__","__annotations__"]:List Str).contains name=false)(hsz:name.length+100<=sizeLine:=by size_fits):
  Meets (Builtin.«object.__getattribute__» ⟨[.ref a,.str name u],[]⟩) (λA R s=>s.heap.get? a=some {cls:=.type "zip",dict:=none,data:=.fields fs,slots:= #[]}/\raisesAttr (.ref a) name A R s):=
 Meets.of_wp λf w A R s c=>by
  obtain⟨h,g,d,k,i⟩:=s
  obtain⟨j,c⟩:=c
  have l:(⟨h,g,d,k,i⟩:Shared).TypeIs (.ref a) "zip":=⟨_,j,rfl⟩
  unfold Builtin.«object.__getattribute__»
  repeat (any_goals (first|assumption|wp_step))
  simp only[b,Bool.false_eq_true,if_false]
  repeat (any_goals (first|assumption|wp_step))
  exact wpAny_raiseAttrError c.1 c.2 (attrMsg_fits (by decide +kernel) hsz)
def Bk{prog:Program}{w:World}{A:Around}{E:Value->Shared->Prop}{s:Shared}{a:Addr}{fs:Array Value}{Q:Option Value->Shared->Prop}
  (j:s.heap.get? a=some {cls:=.type "zip",dict:=none,data:=.fields fs,slots:= #[]}) (r:A.handled=none)
  (h:∀(h':Heap) (i:Nat),(∀b o,s.heap.get? b=some o->h'.get? b=some o)->Q none {s with heap:=h',toks:=i}):
  wpAny (model prog w) A (getAttr? (.ref a) (Str.ofString "keys")) Q E s:=by
 obtain⟨n,g,d,i,k⟩:=s
 have v:∀x,Shared.TypeIs ⟨n,g,d,x,k⟩ (.ref a) "zip":=λx=>⟨_,j,rfl⟩
 have l:=sub_AttributeError
 have t:=F.slot_zip_getattribute.lookup
 have q:=F.slot_zip_getattribute.bind (Value.ref a)
 have p:=nF
 unfold getAttr? mkText getAttrBy? getAttrBy
 refine Qaq (Qaq (wpAny_fresh' (Qgq (Qaq (wpAny_attempt (QLq ?_))))))
 unfold typeOf
 refine Qaq (Qaq (wpAny_loadPart' j (Qgq (Qaq (wpAny_of_eq t (QgQ rfl ?_))))))
 unfold getAttrByItsOwn hookBefore
 refine Qaq (QgQ rfl (Qgq (Qaq (wpAny_attempt (QLq ?_)))))
 unfold callGetattribute
 refine QgQ rfl ?_
 unfold boundAndCalled
 refine Qaq (wpAny_of_eq q ?_)
 refine call_meets F.slot_zip_getattribute (v (i+1)) jz (F.args_zip_getattribute_2 (Value.ref a) _) (rD a fs (Str.ofString "keys") i pw (by decide +kernel) (by decide +kernel)) ⟨j,r,λh' c e f=> ?_⟩
 obtain⟨z,y,u⟩:=f.there
 have m:Shared.TypeIs ⟨h',g,d,c,k⟩ (.ref e) "AttributeError":=⟨_,u,rfl⟩
 show wpAny _ _ (getattributeRaised _ _ _ _ _ _ _) _ _ _
 unfold getattributeRaised
 refine Qaq (wpAny_isInstance m l (wpAny_ite_true rfl ?_))
 unfold hookBehind hookOrError
 refine Qaq (QgQ rfl (wpAny_of_eq p ?_))
 show wpAny _ _ (attributeErrorLeaves _ _ _ _ _) _ _ _
 unfold attributeErrorLeaves
 refine wpAny_ite_true rfl (wpAny_throw ?_)
 exact Qaq (wpAny_isInstance m l (wpAny_ite_true rfl (Qgq (h h' c f.keeps))))
def sD{prog:Program}{w:World}{A:Around}{E:Value->Shared->Prop}{s:Shared}{z:Addr}{fs:Array Value}{Q:Value->Shared->Prop}
  (g:s.heap.get? z=some {cls:=.type "zip",dict:=none,data:=.fields fs,slots:= #[]}) (k:A.handled=none)
  (h:∀(h':Heap) (d:Nat),(∀b o,(s.heap.push {cls:=.type "dict",data:=.dict #[]}).get? b=some o->h'.get? b=some o)→
   wpAny (model prog w) A.in1.in1 (pyIter (.ref z)) (λit s'=>codeAny (model prog w) A.in1 (.builtin "dict.update.loop" {pos:= [.ref s.heap.objs.size,it,rawInt 0,.none]}) (wants (λr c=>r=.none/\Q (.ref s.heap.objs.size) c) E) s') E {s with heap:=h',toks:=d}):
  wpAny (model prog w) A (call (.type "dict") [.ref z]) Q E s:=by
 refine Dk.wN ?_
 have f:=Qrq s.heap (o:={cls:=.type "dict",data:=.dict #[]}) rfl
 have l:Shared.TypeIs {s with heap:=s.heap.push {cls:=.type "dict",data:=.dict #[]}} (.ref s.heap.objs.size) "dict":=⟨_,f,rfl⟩
 have a:=Qcq {cls:=.type "dict",data:=.dict #[]} g
 have i:Shared.TypeIs {s with heap:=s.heap.push {cls:=.type "dict",data:=.dict #[]}} (.ref z) "zip":=⟨_,a,rfl⟩
 unfold Builtin.«dict.__init__» Builtin.Dict.selfAndRest
 refine Qaq (Qaq (wpAny_notOrdered_dict l ?_))
 refine Qaq (Qgq (Qgq ?_))
 show wpAny _ _ (Builtin.Dict.updateFrom _ _ _ _ _) _ _ _
 unfold Builtin.Dict.updateFrom
 refine Qaq (wpAny_typeOf i (wpAny_ite_true (by decide +kernel) (Qaq (Bk a (by simpa using k) λh' d j=> ?_))))
 refine wpAny_ite_true rfl ?_
 refine Qaq (wpAny_rule (Qaq (QRq (h h' d j) (λit s' q=> ?_) λe s' q=>q)))
 exact Qgq ⟨plainId_quiet (by decide +kernel) _,q⟩
end Zq
namespace Zq
open PySem Dk
section
variable{prog:Program}{w:World}{K:Type}[DecidableEq K]{knd:KeyKind prog w K}{z T O i j a b S:Addr}{t t2:Bool}{xs ys:Array Value}
def y9{A:Around}{R:Result->Shared->Prop}(hA:A.in1.handled=none)(D:ZipApart z T O i j a b)(nS:S≠z/\S≠T/\S≠O/\S≠i/\S≠j/\S≠a/\S≠b)(a2:a≠T/\b≠T)(f:Nat->K)(u:∀(n:Nat) v,xs[n]?=some v->knd.is (f n) v=true)(a3:xs.size<=ys.size)(hn:xs.size<=sizeLine):
  ∀ (m n:Nat) (c:Int) (s:Shared),xs.size-n=m->n<=xs.size->Zs s.heap z T O i j->IsPair s.heap T (.ref i) (.ref j)->It t s.heap i a n->It t2 s.heap j b n->Sq t s.heap a xs->Sq t2 s.heap b ys->Heap.DictOf knd s.heap S (G9 f (λn=>ys.getD n .none) n)→
    (∀h' tk,Heap.DictOf knd h' S (G9 f (λn=>ys.getD n .none) xs.size)->(∀c o,c≠z->c≠O->c≠i->c≠j->c≠S->s.heap.get? c=some o->h'.get? c=some o)->R (.ok (.ret .none)) {s with heap:=h',toks:=tk})→
    codeAny (model prog w) A (.builtin "dict.update.loop" {pos:= [.ref S,.ref z,rawInt c,.none]}) R s:=by
 obtain⟨I,n2,n3,J,n5,n6,n7⟩:=nS
 intro m
 induction m with
 | zero=>
   intro n c s hm Y gz F X gj B gb U h
   have e:n=xs.size:=by omega
   subst e
   refine codeAny_builtin jN ?_
   rw[Around.under_plainId gG]
   show wpAny _ _ (do let __x←pyNext (.ref z);_) _ _ _
   refine Qaq (xy D hA gz F X B (by simp) λh' r=> ?_)
   refine Qaq (Qgq (Qgq (h h' s.toks ?_ λc o k l g p _ e=>r c o k l g p e)))
   obtain⟨o,P,ep,W,Q⟩:=U
   exact⟨o,P,ep,r _ _ I n3 J n5 W,Q⟩
 | succ m ih=>
   intro n c s hm Y gz F X gj B gb U h
   have x:n<xs.size:=by omega
   have ex:xs[n]?=some xs[n]:=by simp[x]
   have ey:ys[n]?=some ys[n]:=by simp[show n<ys.size by omega]
   refine codeAny_builtin jN ?_
   rw[Around.under_plainId gG]
   show wpAny _ _ (do let __x←pyNext (.ref z);_) _ _ _
   refine Qaq (D5 D gz F X gj B gb ex ey λhp a0 L a1 gp r=> ?_)
   have Z:Heap.DictOf knd hp S (G9 f (λn=>ys.getD n .none) n):=by
     obtain⟨o,P,ep,W,Q⟩:=U
     exact⟨o,P,ep,r _ _ I n3 J n5 W,Q⟩
   refine Qaq (QLq (Qaq (wpAny_tryCatch ?_)))
   unfold Builtin.Dict.pairItems
   refine Qaq (wpAny_typeOf (T:="tuple") ⟨_,gp,rfl⟩ (wpAny_ite_true rfl (Qaq ?_)))
   unfold seqItems?
   refine Qaq (wpAny_load' gp (Qgq (Qgq (QLq (wpAny_dictSet_pairs (u n _ ex) Z (λh' q hs=> ?_) (QAq (zK f _ n) (by omega)))))))
   have ev:ys.getD n .none=ys[n]:=by simp[Array.getD,show n<ys.size by omega]
   have y:∀c o,c≠S->hp.get? c=some o->h'.get? c=some o:=λc o hc e=>by rw[hs.2 c hc];exact e
   have d:∀c o,c≠z->c≠O->c≠i->c≠j->c≠S->s.heap.get? c=some o->h'.get? c=some o:=λc o k l g p C e=>y c o C (r c o k l g p e)
   have G:∃o,h'.get? S=some o:=by obtain⟨o,_,_,e,_⟩:=q;exact⟨o,e⟩
   have H:Heap.DictOf knd h' S (G9 f (λn=>ys.getD n .none) (n+1)):=by
     show Heap.DictOf knd h' S (stored _ (f n) (ys.getD n .none))
     rw[ev]
     exact q
   refine Qgq ⟨plainId_quiet gG _,ih (n+1) (c+1) _ (by omega) x (a0.but y I.symm n3.symm G) ?_ (L.at λo e=>y _ o J.symm e) (a1.at λo e=>y _ o n5.symm e) ?_ ?_ H λM tk N k4=>h M tk N λc o k l g p C e=>k4 c o k l g p C (d c o k l g p C e)⟩
   · exact d _ _ D.TIz D.TITO D.TIi1 D.TIi2 n2.symm F
   · exact B.at λo e=>d _ o D.l1z D.l1TO D.l1i1 D.l1i2 n6.symm e
   · exact gb.at λo e=>d _ o D.l2z D.l2TO D.l2i1 D.l2i2 n7.symm e
end
end Zq
namespace L2
open PySem PySem.Spec PyProof.Rows Zq
section
variable{X:Cx}
def xn(K:PySem.W.Frag)(t:Bool)(H:Hp)(a:Addr)(xs:List V):Prop:=if t=true then ic K H a xs else iM K H a xs
def Inv.sq{c:List (Addr×Obj)}{d:St}{H:Hp}{s:Shared}{t:Bool}{a:Addr}{xs:List V}(I:Inv X c d H s)(h:xn X.K t H a xs):∃b:List Value,bD xs b/\Sq t s.heap a b.toArray/\xs.length<=sizeLine:=by
 cases t with
 | true=>
   obtain⟨b,r,p,z⟩:=I.tuple h
   exact⟨b,r,(show s.heap.IsTuple a b.toArray from p),z⟩
 | false=>
   obtain⟨b,r,p,z⟩:=I.list h
   exact⟨b,r,(show s.heap.IsList a b.toArray from p.isList),z⟩
def Sq.lt{t:Bool}{h:Heap}{a:Addr}{xs:Array Value}(g:Sq t h a xs):a<h.objs.size:=by
 cases t with
 |true=>obtain⟨o,e,_⟩:=(show h.IsTuple a xs from g);exact Qiq e
 |false=>obtain⟨o,e,_⟩:=(show h.IsList a xs from g);exact Qiq e
def GB(K:PySem.W.Frag):List V->Hp->VK->Prop:=λe H Q=>∃(t f:Bool) (a b:Addr) (d:List Key) (c:List V),e= [.ref a,.ref b]/\xn K t H a (d.map kV)/\xn K f H b c/\d.length=c.length/\∀p,H p=none->Q (.ref p) (upd H p (.dK (jF [] (d.zip c))))
def zm{x y:Expr}{ta:TA}{p1 S c1 N:Pos}(C:X.calm=true)(a1:Gl X "dict")(a0:X.mg "dict"=none)(hg:Gl X "zip")(hm:X.mg "zip"=none)(ha:PA X [x,y] ta)(hs:starEach [x,y] X.env= [(false,eval x X.env),(false,eval y X.env)]:=by rfl)(J:starEach [y] X.env= [(false,eval y X.env)]:=by rfl)
  (he:starEach [Expr.Call (.Name "zip" S) [x,y] [] N] X.env= [(false,eval (Expr.Call (.Name "zip" S) [x,y] [] N) X.env)]:=by rfl):
  PE X (.Call (.Name "dict" p1) [.Call (.Name "zip" S) [x,y] [] N] [] c1) (Kj (GB X.K) ta):=by
 intro B s σ H Q I h
 refine wpAny_Call_Name_kw (j8 I a1 a0 (by rfl) ?_)
 refine PyProof.Rows.callWith_type1 ?_ he rfl
 rw[he]
 show wpAny _ _ (spliced ((false,eval (Expr.Call (.Name "zip" S) [x,y] [] N) X.env)::backTo c1 (starEach [] X.env))) _ _ s
 refine Calls.spliced_cons ?_
 refine wpAny_Call_Name_kw (j8 I hg hm (by rfl) ?_)
 refine PyProof.Rows.callWith_type1 (cP (ha N B s σ H _ I h) λus j ⟨vs,H1,G,r1,q1⟩=> ?_) (by rw[hs,J]) (by rw[J];rfl)
 obtain⟨t,t2,a,b,d,ys,e,qa,qb,hl,q⟩:=q1
 subst e
 cases r1 with
 | cons r rr=>
   cases rr with
   | cons r' rr=>
     cases rr
     cases r
     cases r'
     obtain⟨p,ra,pa,za⟩:=G.sq qa
     obtain⟨z,rb,pb,zb⟩:=G.sq qb
     have lx:=Sq.lt pa
     have Z:=Sq.lt pb
     have la:=ra.length
     have lb:=rb.length
     rw[lQm] at la
     refine Zq.Gb pa pb λg U gT gO gi gj R=>Calls.spliced_nil ?_
     have I2:Inv X B σ H1 {j with heap:=g}:=G.kept (t':=j.toks) R
     refine Zq.sD U (G.ok.hd C) λW tk k2=> ?_
     have m:∀c o,g.get? c=some o->W.get? c=some o:=λc o e=>k2 c o (Qcq _ e)
     have a5:W.get? g.objs.size=some {cls:=.type "dict",data:=.dict #[]}:=k2 _ _ (Qrq g rfl)
     refine wpAny_pyIter_zip (m _ _ U) ?_
     have DD:=PyProof.Rows.zipApart_new lx Z
     have f:j.heap.objs.size+4<g.objs.size:=Qiq U
     have L:∀(n:Nat) k,d[n]?=some k->d.getD n (.inl 0)=k:=λn k e=>by rw[Qlq,e];rfl
     have F:∀c,c<j.heap.objs.size->c≠j.heap.objs.size+4/\c≠j.heap.objs.size+3/\c≠j.heap.objs.size/\c≠j.heap.objs.size+1/\c≠g.objs.size:=λc C=>
       ⟨Qwq (Qqq C (Nat.le_add_right _ _)),Qwq (Qqq C (Nat.le_add_right _ _)),Qwq C,Qwq (Qqq C (Nat.le_add_right _ _)),Qwq (Nat.lt_trans (Qqq C (Nat.le_add_right _ 4)) f)⟩
     refine Zq.y9 (knd:=bN X.prog X.w) (t:=t) (t2:=t2) (xs:=p.toArray) (ys:=z.toArray) (show X.A.in1.in1.handled=none from G.ok.hd C) DD ?_ ?_ (λn=>d.getD n (.inl 0)) ?_ (by simp;omega) (by simp;omega) p.toArray.size 0 0 _ rfl (Nat.zero_le _)
       (.inl ⟨m _ _ U,_,_,m _ _ gO⟩) (m _ _ gT) (gi.at λo e=>m _ o e) (gj.at λo e=>m _ o e) (pa.at λo e=>m _ o (R _ o e)) (pb.at λo e=>m _ o (R _ o e)) ?_ ?_
     · refine⟨Nat.ne_of_gt f,Nat.ne_of_gt (Nat.lt_trans ?_ f),Nat.ne_of_gt (Nat.lt_trans ?_ f),Nat.ne_of_gt (Nat.lt_trans ?_ f),Nat.ne_of_gt (Nat.lt_trans ?_ f),(F _ lx).2.2.2.2.symm,(F _ Z).2.2.2.2.symm⟩ <;>(show _<j.heap.objs.size+4) <;>omega
     · exact⟨Qwq (Qqq lx (Nat.le_add_right _ _)),Qwq (Qqq Z (Nat.le_add_right _ _))⟩
     · intro n v hv
       have M:p[n]?=some v:=by simpa using hv
       have hn:n<d.length:=by
         have:=(gQs.mp M).1
         omega
       have P:=gQe hn
       obtain⟨u,Y,ru⟩:=ra.get (i:=n) (x:=kV d[n]) (by rw[gQm,P];rfl)
       rw[M] at Y
       cases Y
       show(bN X.prog X.w).is (d.getD n (.inl 0)) v=true
       rw[L n _ P]
       exact key_is ru _ _
     · obtain⟨o,es,ep,e1,e2⟩:=Heap.DictOf.new (knd:=bN X.prog X.w) g
       exact⟨o,es,ep,k2 _ _ e1,e2⟩
     · intro h3 a4 dd k3
       have a2:g.objs.size≠sysModules:=by
         have:=I2.big
         exact Nat.ne_of_gt this
       have le:j.heap.objs.size<=g.objs.size:=nQl (Nat.lt_of_le_of_lt (Nat.le_add_right _ 4) f)
       refine⟨rfl,.ref g.objs.size,_,G.laid (a:=g.objs.size) (o:=.dK (jF [] (d.zip ys))) (t':=a4) (h':=h3) (λc o e=> ?_) le (rC ?_ (beq_eq_false_iff_ne.mpr a2) ?_ dd),rfl,q _ (G.hok.fresh le)⟩
       · obtain⟨o1,o2,o3,o4,o5⟩:=F c (Qiq e)
         exact k3 c o o1 o2 o3 o4 o5 (m c o (R c o e))
       · have:=iH (d.zip ys) []
         rw[QGq,List.length_zip] at this
         omega
       · have a3:∀n,n<=d.length->KV (jF [] ((d.zip ys).take n)) (Dk.G9 (λn=>d.getD n (.inl 0)) (λn=>z.toArray.getD n .none) n):=by
           intro n
           induction n with
           |zero=>intro _;exact .nil
           | succ n ih=>
             intro hn
             have P:=gQe (l:=d) (i:=n) (by omega)
             have hy:=gQe (l:=ys) (i:=n) (by omega)
             obtain⟨u,Y,ru⟩:=rb.get hy
             have ez:(d.zip ys)[n]?=some (d[n],ys[n]):=by rw[List.getElem?_zip_eq_some];exact⟨P,hy⟩
             have e3:(d.zip ys).take (n+1)=(d.zip ys).take n++ [(d[n],ys[n])]:=by rw[QYq,ez];rfl
             have eu:z.toArray.getD n .none=u:=by
               have:=(gQs.mp Y)
               obtain⟨g,W⟩:=this
               simp[Array.getD,g,W]
             rw[e3]
             show KV (List.foldl _ [] ((d.zip ys).take n++ [(d[n],ys[n])])) (stored _ (d.getD n (.inl 0)) (z.toArray.getD n .none))
             rw[List.foldl_append,L n _ P,eu]
             exact(ih (by omega)).put d[n] ru
         have:=a3 d.length (Qmq _)
         have e4:(d.zip ys).take d.length=d.zip ys:=by
           have:(d.zip ys).length=d.length:=by rw[List.length_zip];omega
           rw[←this,QEq]
         rw[e4] at this
         have e5:p.toArray.size=d.length:=by simp;omega
         rw[e5]
         exact this
end
end L2
namespace Zq
open PySem
section
variable{prog:Program}{w:World}{A:Around}{E:Value->Shared->Prop}{s:Shared}{t t2:Bool}{z T O i j a b:Addr}{k:Nat}{xs ys:Array Value}{x y u v:Value}
def BE(D:ZipApart z T O i j a b){Q:Option Value->Shared->Prop}(d:su s.heap z T O .none (.bool false))(C:IsPair s.heap T (.ref i) (.ref j))(h:IsPair s.heap O u v)(p:It t s.heap i a k)(e:It t2 s.heap j b k)
  (l:Sq t s.heap a xs) (B:Sq t2 s.heap b ys) (ex:xs[k]?=some x) (g:ys[k]?=some y)
  (q:∀h',su h' z T O (rawInt s.heap.objs.size) (.bool false)->IsPair h' O x y->It t h' i a (k+1)->It t2 h' j b (k+1)->IsPair h' s.heap.objs.size x y->Zp.Rest z O i j s.heap h'->Q (some (.ref s.heap.objs.size)) {s with heap:=h'}):
  wpAny (model prog w) A (pyNext (.ref z)) Q E s:=by
 have c:s.TypeIs (.ref z) "zip":=⟨_,d,rfl⟩
 unfold pyNext
 exact Qaq (wpAny_attempt (QiQ (name:=Str.ofString "__next__") c F.slot_zip_next (wpAny_call_entry F.slot_zip_next c F.entry_zip_next
  (item D d C h p e l B ex g λh' G n m o f r=>Qgq (q h' G n m o f r)) (F.args_zip_next_1 _))))
end
end Zq
namespace L2
open PySem PySem.Spec PyProof.Rows Zq
def Inv.sq_inj{X:Cx}{b:List (Addr×Obj)}{c:St}{H:Hp}{s:Shared}{t:Bool}{a:Addr}{xs ys:List V}(I:Inv X b c H s)(h:xn X.K t H a xs)(h':xn X.K t H a ys):xs=ys:=by
 cases t with
 |true=>exact I.tuple_inj h h'
 |false=>exact I.list_inj h h'
def Lz(K:PySem.W.Frag)(t t2:Bool)(a b:Addr):It:=
  ⟨λi H=>∃c d x y,xn K t H a c/\xn K t2 H b d/\c[i]?=some x/\d[i]?=some y,
   λi H v e=>∃p,v=.ref p/\H p=none/\∀c d x y,xn K t H a c->xn K t2 H b d->c[i]?=some x->d[i]?=some y->e=upd H p (.tup [x,y]),
   λi H=>∃c,xn K t H a c/\c.length<=i⟩
def BB{P:Program}{w:World}{K:PySem.W.Frag}{C:List Expr}{x1:Nat}{tp:Pos}{t t2:Bool}{z T O i j a b:Addr}(D:ZipApart z T O i j a b):
  Turn P w K (.Tuple C x1 tp) (Lz K t t2 a b) [z,T,O,i,j] z (λn h=>su h z T O .none (.bool false)/\IsPair h T (.ref i) (.ref j)/\(∃u v,IsPair h O u v)/\Zq.It t h i a n/\Zq.It t2 h j b n) where
 mem:=by simp
 obj:=λn h ⟨f,g,⟨u,v,l⟩,p,q⟩ c d=>by
  simp at d
  rcases d with rfl|rfl|rfl|rfl|rfl
  ·exact⟨_,f,λv n=>by cases n⟩
  ·exact⟨_,g,λv n=>by cases n⟩
  ·exact⟨_,l,λv n=>by cases n⟩
  ·exact p.obj
  ·exact q.obj
 keep:=λn h h' ⟨f,g,⟨u,v,l⟩,p,q⟩ k=>⟨k z (by simp) _ f,k T (by simp) _ g,⟨u,v,k O (by simp) _ l⟩,p.at λo e=>k i (by simp) o e,q.at λo e=>k j (by simp) o e⟩
 item:=by
  rintro X Z S R d n m s σ H E I F ⟨f,g,⟨u,v,l⟩,p,q⟩ U
  subst Z S R
  obtain⟨xs,ys,x,y,J,qb,hx,hy⟩:=U
  obtain⟨M,L,N,_⟩:=I.sq J
  obtain⟨a1,rb,pb,_⟩:=I.sq qb
  obtain⟨ux,ex,rx⟩:=L.get hx
  obtain⟨uy,ey,ry⟩:=rb.get hy
  have B:∀{c o},s.heap.get? c=some o->c≠s.heap.objs.size:=λe=>Qwq (Qiq e)
  have A:∀c∈[z,T,O,i,j],c≠s.heap.objs.size:=λc d=>by
   obtain⟨oi,e1,_⟩:=p.obj
   obtain⟨oj,e2,_⟩:=q.obj
   simp at d
   rcases d with rfl|rfl|rfl|rfl|rfl
   ·exact B f
   ·exact B g
   ·exact B l
   ·exact B e1
   ·exact B e2
  refine Zq.BE D f g l p q N pb (x:=ux) (y:=uy) (by simpa using ex) (by simpa using ey) λh1 z1 O1 i1 j1 n1 G=>⟨_,rfl,?_⟩
  have T1:=G _ _ D.TIz D.TITO D.TIi1 D.TIi2 g
  refine wpAny_letOwnedTupleGo_zip z1 λh2 z2 r=> ?_
  have I2:Inv X m σ (upd H s.heap.objs.size (.tup [x,y])) {s with heap:=h2}:=I.turnedNew (t':=s.toks) (fp:= [z,T,O,i,j]) F (λc o d e=> ?_) (Qmq _) ?_
  ·refine⟨.ref s.heap.objs.size,_,I2,rfl,⟨s.heap.objs.size,rfl,I.hok.fresh (Qmq _),λa0 a2 x' y' q1 q2 Y Q=> ?_⟩,⟨z2,r.extBut _ _ D.TIz T1,⟨_,_,r.extBut _ _ D.TOz O1⟩,i1.ext r.extBut D.i1z,j1.ext r.extBut D.i2z⟩,λc d=> ?_⟩
   ·rw[I.sq_inj q1 J] at Y
    rw[I.sq_inj q2 qb] at Q
    rw[hx] at Y
    rw[hy] at Q
    cases Y
    cases Q
    rfl
   ·rw[bj (A c d)]
    exact(F c d).1
  ·simp at d
   exact r.extBut _ _ d.1 (G c o d.1 d.2.2.1 d.2.2.2.1 d.2.2.2.2 e)
  ·exact⟨by show 2<=_;decide,[ux,uy],.cons rx (.cons ry .nil),_,r.extBut _ _ (λe=>A z (by simp) e.symm) n1,rfl,rfl,0,rfl⟩
 done:=by
  rintro X Z S R d n m s σ H E I F ⟨f,g,⟨u,v,l⟩,p,q⟩ U
  subst Z S R
  obtain⟨xs,J,hx⟩:=U
  obtain⟨M,L,N,_⟩:=I.sq J
  have hl:=L.length
  refine Zq.xy D (I.ok.hd d) (.inl ⟨f,u,v,l⟩) g p N (by simp;omega) λh1 G=>⟨rfl,I.turnedL (t':=s.toks) (fp:= [z,T,O,i,j]) F λc o d e=> ?_⟩
  simp at d
  exact G c o d.1 d.2.2.1 d.2.2.2.1 d.2.2.2.2 e
 self:=λ_ _ _ _ _ ⟨f,_⟩ h=>wpAny_pyIter_zip f h
section
variable{X:Cx}
def LD(K:PySem.W.Frag)(f:TA):TI:=λg H R=>f g H λd H1=>∃(t c:Bool) (a b:Addr) (e h:List V),d= [.ref a,.ref b]/\xn K t H1 a e/\xn K c H1 b h/\R (Lz K t c a b) H1
def ED{g:List Expr}{z:Nat}{Y:Pos}{a b:Expr}{o:TA}{p pos:Pos}(L:Gl X "zip")(hm:X.mg "zip"=none)(N:PA X [a,b] o)(hs:starEach [a,b] X.env= [(false,eval a X.env),(false,eval b X.env)]:=by rfl)(f:starEach [b] X.env= [(false,eval b X.env)]:=by rfl):
  PI X (.Tuple g z Y) (.Call (.Name "zip" p) [a,b] [] pos) (LD X.K o):=by
 intro i s F H R I h
 refine Call_ (j8 I L hm (by rfl) (PyProof.Rows.callWith_type1 (cP (N pos i s F H _ I h) λus l ⟨vs,H1,d,S,U⟩=> ?_) (by rw[hs,f]) (by rw[f];rfl)))
 obtain⟨t,t2,x,y,xs,ys,e,Z,C,q⟩:=U
 subst e
 cases S with
 | cons r j=>
   cases j with
   | cons W j=>
     cases j
     cases r
     cases W
     obtain⟨M,ra,v,_⟩:=d.sq Z
     obtain⟨Q,rb,n,_⟩:=d.sq C
     have G:=Sq.lt v
     have B:=Sq.lt n
     refine Zq.Gb v n λh' w gT J P A k=> ?_
     refine wpAny_pyIter_zip w ⟨_,_,_,_,H1,rfl,d.kept (t':=l.toks) k,BB (PyProof.Rows.zipApart_new G B),⟨w,gT,⟨_,_,J⟩,P,A⟩,λc m=> ?_,q⟩
     have u:l.heap.objs.size<=c:=by
       simp only[Qsq,QXq,or_false] at m
       rcases m with e|e|e|e|e <;>(rw[e];first|exact Qmq _|exact Nat.le_add_right _ _)
     exact d.fpOk u (d.hok.fresh u)
end
end L2
namespace DL
open PySem PySem.Spec PyProof.Rows L2
def zg.sqB{M:Md}{ρ:List Addr}{H:Hp}{a:Addr}{vs:List V}{t:Tag}(h:zg M ρ H a vs t):L2.xn M.K (!t.isL) H a vs:=by
 cases c:t.isL with
 |true=>exact h.sqL c
 |false=>exact h.sqT c
def sM(xs ys:List D):List D:=List.zipWith (λx y=>D.tup [x,y]) xs ys
open Classical in
def xH(f g:fE):vT:=λb S=>(f b S).bind λ(p,c)=>(g b c).bind λ(r,a)=>if p.2.stays a p.1/\p.1.length<=r.1.length then some ((sM p.1 r.1,λS=>p.2.stays S p.1/\r.2.stays S r.1),a) else none
section
variable{X:Cx}{a b c e:Expr}{pos:Pos}{st:Stmt}
def vZ{o:List Expr}{r:Nat}{tp p:Pos}{f g:fE}(hg:Gl X "zip")(hm:X.mg "zip"=none)(ha:PE X a (tQ (md X) f))(hb:PE X b (tQ (md X) g))(Z:starEach [a,b] X.env= [(false,eval a X.env),(false,eval b X.env)]:=by rfl)(j:starEach [b] X.env= [(false,eval b X.env)]:=by rfl):
  PI X (.Tuple o r tp) (.Call (.Name "zip" p) [a,b] [] pos) (tI (md X) (xH f g)):=Kl (ED hg hm (dG ha (dG hb gF j) (by rw[Z,j])) Z j) λσ H R ⟨ρ,M,S,ds,W,S',ok,e,q⟩=>by
 obtain⟨⟨⟨l,t1⟩,Q⟩,e1,e⟩:=ar e
 obtain⟨⟨⟨m,t2⟩,S2⟩,e2,e⟩:=ar e
 dsimp only at e
 split at e
 ·rename_i c
  obtain⟨e3,rfl⟩:=cx e
  obtain⟨rfl,rfl⟩:=Prod.mk.inj e3
  refine⟨ρ,M,S,l,t1,Q,ok,e1,λt a1 a2 H1 r A h1 r1=>⟨t,M,Q,m,t2,S2,ok.to r A,e2,λa3 b1 ws H2 Y n P r2=> ?_⟩⟩
  obtain⟨B,h3,r3⟩:=h1.to r1 Y n c.1
  refine⟨_,_,a1,b1,B,ws,rfl,h3.sqB,P.sqB,q _ _ _ (r.trans Y) n λi a0 S3 H3 N k w=> ?_⟩
  obtain⟨C,F,K⟩:=h3.to r3 N k w.1
  obtain⟨L,J,g4⟩:=P.to r2 N k w.2
  refine⟨λd h=> ?_,λhi=>⟨C,F.sqB,?_⟩⟩
  ·unfold sM at h
   rw[List.getElem?_zipWith] at h
   cases s:l[i]? with
   |none=>rw[s] at h;cases h
   | some x=>
     cases G:m[i]? with
     |none=>rw[s,G] at h;cases h
     | some y=>
       rw[s,G] at h
       cases h
       obtain⟨u,U,ru⟩:=K.get s
       obtain⟨z,I,rz⟩:=g4.get G
       refine⟨⟨C,L,u,z,F.sqB,J.sqB,U,I⟩,λv H4 hv=> ?_⟩
       obtain⟨p,rfl,hp,hq⟩:=hv
       have:=hq C L u z F.sqB J.sqB U I
       subst this
       exact⟨b9.laid hp,k.lay hp,.tup bQ ((a_.cons ru (.cons rz .nil)).ext (b9.laid hp))⟩
  ·rw[hi]
   unfold sM
   rw[List.length_zipWith,K.length.symm]
   have:=c.2
   omega
 ·cases e
end
def sA:D->Option Key
 |.int i=>some (.inl i)
 |.str x=>some (.inr x)
 |_=>none
def pW{M:Md}{ρ:List Addr}{H:Hp}{d:D}{v:V}{k:Key}(r:Rel M ρ H d v)(e:sA d=some k):v=kV k:=by
 cases r <;>simp[sA] at e <;>subst e <;>rfl
def xJ:List D->Option (List Key)
 | []=>some []
 |d::r=>(sA d).bind λk=>(xJ r).bind λa=>some (k::a)
theorem wm{M:Md}{ρ:List Addr}{H:Hp}:∀{ds:List D} {vs:List V} {a:List Key},a_ M ρ H ds vs->xJ ds=some a->vs=a.map kV
 |_,_,_,.nil,e=>by cases e;rfl
 | _,_,_,.cons h hs,e=>by
   obtain⟨k,b,e⟩:=ar e
   obtain⟨a,c,e⟩:=ar e
   cases e
   rw[pW h b,wm hs c]
   rfl
def qM(kvs:List (Key×D))(k:Key):Option D:=(kvs.find? λa=>decide (a.1=k)).map (·.2)
def putD(kvs:List (Key×D))(k:Key)(v:D):List (Key×D):=
 if (kvs.any λa=>decide (a.1=k))=true then kvs.map (λa=>if a.1=k then(a.1,v) else a) else kvs++ [(k,v)]
def cW(kvs more:List (Key×D)):List (Key×D):=more.foldl (λa b=>putD a b.1 b.2) kvs
section
variable{M:Md}{ρ:List Addr}{H:Hp}
theorem b_.append:∀{l m:List (Key×D)} {kv kw:List (Key×V)},b_ M ρ H l kv->b_ M ρ H m kw->b_ M ρ H (l++m) (kv++kw)
 | [],_,_,_,h,h'=>by cases h;exact h'
 |(_,_)::_,_,_,_,⟨v,t,e,h,hs⟩,h'=>by subst e;exact⟨v,_,rfl,h,b_.append hs h'⟩
theorem b_.any:∀{l:List (Key×D)} {kv:List (Key×V)} (k:Key),b_ M ρ H l kv->(l.any λp=>decide (p.1=k))=kv.any λp=>decide (p.1=k)
 | [],_,_,h=>by cases h;rfl
 |(_,_)::_,_,k,⟨v,t,e,h,hs⟩=>by subst e;simp only[List.any_cons,b_.any k hs]
theorem b_.mapP{d:D}{v:V}{k:Key}(r:Rel M ρ H d v):∀{l:List (Key×D)} {kv:List (Key×V)},b_ M ρ H l kv->b_ M ρ H (l.map λp=>if p.1=k then(p.1,d) else p) (kv.map λp=>if p.1=k then(p.1,v) else p)
 | [],_,h=>by cases h;rfl
 | (k',_)::_,_,⟨u,t,e,h,hs⟩=>by
   subst e
   simp only[QDq]
   by_cases c:k'=k
   · simp only[c,if_true];exact⟨v,_,rfl,r,b_.mapP r hs⟩
   · simp only[c,if_false];exact⟨u,_,rfl,h,b_.mapP r hs⟩
def b_.put{l:List (Key×D)}{kv:List (Key×V)}{k:Key}{d:D}{v:V}(h:b_ M ρ H l kv)(r:Rel M ρ H d v):b_ M ρ H (putD l k d) (putK kv k v):=by
 unfold putD putK
 rw[h.any k]
 split
 ·exact h.mapP r
 ·exact h.append ⟨v,[],rfl,r,rfl⟩
theorem b_.merge:∀{m:List (Key×D)} {kw:List (Key×V)} {l:List (Key×D)} {kv:List (Key×V)},b_ M ρ H m kw->b_ M ρ H l kv->b_ M ρ H (cW l m) (jF kv kw)
 | [],_,_,_,h,h'=>by cases h;exact h'
 | (k,d)::m,_,_,_,⟨v,t,e,h,hs⟩,h'=>by
   subst e
   unfold cW jF
   rw[List.foldl_cons,List.foldl_cons]
   exact b_.merge (m:=m) (kw:=t) hs (h'.put h)
theorem b_.zip:∀{a:List Key} {ds:List D} {vs:List V},a_ M ρ H ds vs->b_ M ρ H (a.zip ds) (a.zip vs)
 | [],_,_,_=>rfl
 |_::_,_,_,.nil=>rfl
 |k::a,_,_,.cons h hs=>⟨_,_,rfl,h,b_.zip hs⟩
theorem b_.val:∀{l:List (Key×D)} {kv:List (Key×V)} {k:Key} {d:D},b_ M ρ H l kv->qM l k=some d->∃v,oa kv k=some v/\Rel M ρ H d v
 | [],_,_,_,_,e=>by cases e
 | (k',d')::_,_,k,d,⟨v,t,e,h,hs⟩,e'=>by
   subst e
   unfold qM at e'
   unfold oa
   rw[List.find?_cons] at e'⊢
   by_cases c:k'=k
   · simp only[c,decide_true] at e'⊢
     cases e'
     exact⟨v,rfl,h⟩
   · simp only[c,decide_false] at e'⊢
     exact b_.val hs e'
def b_.ext'{a:List Addr}{b:Hp}{l:List (Key×D)}{kv:List (Key×V)}(h:b_ M ρ H l kv)(e:b9 ρ H a b):b_ M a b l kv:=h.imp λ_ _ r=>r.ext e
def b_.pre'{a:List Addr}{l:List (Key×D)}{kv:List (Key×V)}(h:b_ M ρ H l kv)(e:ρ <+: a):b_ M a H l kv:=h.imp λ_ _ r=>r.pre e
end
section
variable{X:Cx}{a b c e:Expr}{pos:Pos}{st:Stmt}
def JX{M:Md}{ρ d:List Addr}{H h:Hp}{m:aI}{l:List (Key×D)}{kv:List (Key×V)}{p:Addr}{Q:VK}(x:b9 ρ H d h)(st:fF M d m h)(j:h p=none)(r:b_ M d h l kv)
  (q:∀f v g,b9 ρ H f g->fF M f (m++ [.dct l]) g->Rel M f g (.ref m.length) v->Q v g):Q (.ref p) (upd h p (.dK kv)):=by
 have s:p∉d:=fh x st j
 have k:b9 d h d (upd h p (.dK kv)):=b9.laid j
 have n:=(st.lay (u:=.dK kv) j).box (o:=.dct l) s ⟨kv,bQ,(r.ext' k).pre' (List.prefix_append _ _)⟩
 refine q (d++ [p]) (.ref p) _ ⟨x.pre.trans (List.prefix_append _ _),λc i=> ?_,(x.trans k).keep,(x.trans k).grow⟩ n (.ref ?_)
 ·rcases mQa.mp i with i|i
  ·exact x.new c i
  ·rw[Qfq] at i;subst i;exact .inr (x.grow _ j)
 ·rw[←st.len,QQq (Qmq _)]
  simp
open Classical in
def Ik(f g:fE):bA:=λh S=>(f h S).bind λ(p,j)=>(g h j).bind λ(r,d)=>if p.2.stays d p.1/\p.1.length=r.1.length then(xJ p.1).bind λi=>some (.ref d.length,d++ [.dct (cW [] (i.zip r.1))]) else none
def oG{J r P s:Pos}{f g:fE}(G:X.calm=true)(o:Gl X "dict")(n:X.mg "dict"=none)(W:Gl X "zip")(hm:X.mg "zip"=none)(ha:PE X a (tQ (md X) f))(Y:PE X b (tQ (md X) g))(B:starEach [a,b] X.env= [(false,eval a X.env),(false,eval b X.env)]:=by rfl)(h:starEach [b] X.env= [(false,eval b X.env)]:=by rfl)
  (he:starEach [Expr.Call (.Name "zip" r) [a,b] [] s] X.env= [(false,eval (Expr.Call (.Name "zip" r) [a,b] [] s) X.env)]:=by rfl):
  PE X (.Call (.Name "dict" J) [.Call (.Name "zip" r) [a,b] [] s] [] P) (tD (md X) (Ik f g)):=j2 (zm G o n W hm (dG ha (dG Y gF h) (by rw[B,h])) B h he) λσ H Q ⟨ρ,A,S,d,S',ok,e,q⟩=>by
 obtain⟨⟨⟨m,t1⟩,y⟩,N,e⟩:=ar e
 obtain⟨⟨⟨j,U⟩,S2⟩,M,e⟩:=ar e
 dsimp only at e
 split at e
 ·rename_i c
  obtain⟨L,e3,e⟩:=ar e
  obtain⟨rfl,rfl⟩:=cx e
  refine⟨ρ,A,S,m,t1,y,ok,N,λk a1 F H1 v t Z r1=>⟨k,A,y,j,U,S2,ok.to v t,M,λa0 K C H2 z i R w=> ?_⟩⟩
  obtain⟨a2,h3,u⟩:=Z.to r1 z i c.1
  have ek:=wm u e3
  subst ek
  have x:=u.length
  rw[lQm] at x
  refine⟨_,_,a1,K,L,C,rfl,h3.sqB,R.sqB,by rw[←x,←w.length];exact c.2,λp I=> ?_⟩
  exact JX (v.trans z) i I (b_.merge (l:= []) (b_.zip w) rfl) q
 ·cases e
def K1:bA:=λ_ S=>some (.ref S.length,S++ [.dct []])
def HC:PE X (.Dict [] [] pos) (tD (md X) K1):=j2 D4 λi H Q g=>by
 obtain⟨k,h,S,d,j,ok,e,q⟩:=g
 obtain⟨rfl,rfl⟩:=cx e
 exact λp f=>JX b9.refl ok.st f (l:= []) (kv:= []) rfl q
def J4(f g:bA):bA:=λi S=>(f i S).bind λ(x,m)=>(g i m).bind λ(y,h)=>match x with
 | .ref k=>match h[k]? with
   |some (.dct l)=>(sA y).bind λj=>(qM l j).bind λd=>some (d,h)
   |_=>none
 |_=>none
def CH{f g:bA}(C:X.A.units+1<cLine)(m:PE X a (tD (md X) f))(G:PE X b (tD (md X) g))(o:Fc b):PE X (.Subscript a b pos) (tD (md X) (J4 f g)):=j2 (FY C m G o) λY H Q L=>by
 obtain⟨J,t,S,d,S',ok,e,q⟩:=L
 obtain⟨⟨x,r⟩,w,e⟩:=ar e
 obtain⟨⟨y,M⟩,u,e⟩:=ar e
 cases x with
 | ref k=>
   dsimp only at e
   split at e
   · rename_i l o
     obtain⟨W,N,e⟩:=ar e
     obtain⟨d',F,e⟩:=ar e
     obtain⟨rfl,rfl⟩:=cx e
     refine⟨J,t,S,_,r,ok,w,λi v1 H1 p j n=>⟨i,t,r,y,M,ok.to p j,u,λK U H2 s h z=> ?_⟩⟩
     cases pW z N
     have n:=n.ext s
     cases n with
     | ref m=>
       obtain⟨Z,I,B⟩:=h.obj k _ _ m o
       obtain⟨v,R,P⟩:=B.val F
       exact⟨_,v,rfl,by rw[←R];exact Bu.k I,q _ _ _ (p.trans s) h P⟩
   · cases e
 |_=>cases e
def Kk(f g h:bA):cZ:=λi S=>(h i S).bind λ(d,o)=>(f i o).bind λ(x,n)=>(g i n).bind λ(y,j)=>match x with
 | .ref k=>match j[k]? with
   |some (.dct l)=>(sA y).bind λm=>if l.length<sizeLine then some (.nx i (j.set k (.dct (putD l m d)))) else none
   |_=>none
 |_=>none
mutual
theorem Rel.offK{M:Md}{ρ:List Addr}{H:Hp}{b:Addr}{g:List (Key×V)}{o:HO}(f:H b=some (.dK g)):∀{d:D} {v:V},Rel M ρ H d v->Rel M ρ (upd H b o) d v
 |_,_,.non=>.non
 |_,_,.bl x=>.bl x
 |_,_,.int i=>.int i
 |_,_,.str x=>.str x
 |_,_,.tup h hs=>.tup (by rw[bj (D8 h f (by intro z;cases z))];exact h) (a_.offK f hs)
 |_,_,.ref h=>.ref h
 |_,_,.fn h=>.fn h
theorem a_.offK{M:Md}{ρ:List Addr}{H:Hp}{b:Addr}{f:List (Key×V)}{o:HO}(d:H b=some (.dK f)):∀{ds:List D} {vs:List V},a_ M ρ H ds vs->a_ M ρ (upd H b o) ds vs
 |_,_,.nil=>.nil
 |_,_,.cons h hs=>.cons (Rel.offK d h) (a_.offK d hs)
end
def fF.putKd{M:Md}{ρ:List Addr}{S:aI}{H:Hp}{k:Nat}{a:Addr}{l d:List (Key×D)}{kw:List (Key×V)}(st:fF M ρ S H)(i:ρ[k]?=some a)(f:S[k]?=some (.dct l))(r:b_ M ρ H d kw):fF M ρ (S.set k (.dct d)) (upd H a (.dK kw))/\b9 ρ H ρ (upd H a (.dK kw)):=by
 obtain⟨j,h,m⟩:=st.obj k a _ i f
 exact st.put i f ⟨kw,bQ,r.imp λ_ _ q=>q.offK h⟩ λx g=>by rw[h] at g;cases g;exact id
def GU{f g h:bA}{i:Pos}{v:Expr}(Z:X.A.units+1<cLine)(p:PE X a (tD (md X) f))(hb:PE X b (tD (md X) g))(Y:PE X v (tD (md X) h))(r:swapsWith v (some (.Subscript a b i)) pos.line X.env=pure false:=by rfl):PS X (.Assign [.Subscript a b i] v pos) (tS (md X) (Kk f g h)):=
 Ad (EJ Z p hb Y r) λD σ H qq=>by
  obtain⟨ρ,C,S,o,ok,e,q⟩:=qq
  obtain⟨⟨d,K⟩,U,e⟩:=ar e
  obtain⟨⟨x,M⟩,P,e⟩:=ar e
  obtain⟨⟨y,Q⟩,e3,e⟩:=ar e
  cases x with
  | ref k=>
    dsimp only at e
    split at e
    · rename_i l r
      obtain⟨R,e4,e⟩:=ar e
      split at e
      · rename_i W
        cases e
        refine⟨ρ,C,S,d,K,ok,U,λs v1 H1 u m F=>⟨s,C,K,_,M,ok.to u m,P,λG v2 H2 B z w=>⟨G,C,M,y,Q,(ok.to u m).to B z,e3,λa0 v3 H3 I j N=> ?_⟩⟩⟩
        cases pW N e4
        have w:=w.ext I
        have F:=F.ext (B.trans I)
        have n:=(u.trans B).trans I
        cases w with
        | ref p=>
          obtain⟨kv,h1,J⟩:=j.obj k _ _ p r
          obtain⟨t,L⟩:=j.putKd p r (J.put (k:=R) F)
          exact⟨_,_,rfl,Eh.k h1 (by rw[←J.length];exact W),q _ _ _ (n.trans L) ((ok.to n j).to L t)⟩
      · cases e
    · cases e
  |_=>cases e
open Classical in
def A2(f:fE)(g:bA):bA:=λh S=>(f h S).bind λ(p,k)=>if p.2.isL=true then(g h k).bind λ(y,d)=>if p.2.stays d p.1 then(ua y).bind λv=>(m3 p.1).bind λi=>(kS v i).bind λj=>some (.int (j:Nat),d) else none else none
def Ae{f:fE}{g:bA}{o:Expr}{i h:Pos}(Z:PE X o (tQ (md X) f))(W:PE X e (tD (md X) g))(k:attributeBase o "index" X.env (eval o X.env)=eval o X.env:=by rfl) (m:((backTo h (starEach [e] X.env)).all (λx=> !x.1)&&(backToKw h (keywordEach [] X.env)).all (λx=>x.1.isSome)
   &&decide ([e].length+([]:List Keyword).length+(if ([]:List Keyword).isEmpty then 0 else 1)<30))=true:=by rfl)
  (l:(i.endLine==h.line)=true:=by rfl) (J:starEach [e] X.env= [(false,eval e X.env)]:=by rfl):PE X (.Call (.Attribute o "index" i) [e] [] h) (tD (md X) (A2 f g)):=
 j2 (rT PySem.F.plainAttrs_list PySem.F.slot_list_index PySem.F.type_list_index Ck Z (aq W aw J) k m l J) λσ H Q qq=>by
  obtain⟨ρ,C,S,d,S',ok,e,q⟩:=qq
  obtain⟨⟨⟨M,t⟩,z⟩,R,e⟩:=ar e
  dsimp only at e
  split at e
  ·rename_i G
   obtain⟨⟨y,S2⟩,N,e⟩:=ar e
   dsimp only at e
   split at e
   ·rename_i Y
    obtain⟨v,I,e⟩:=ar e
    obtain⟨vs,U,e⟩:=ar e
    obtain⟨j,e5,e⟩:=ar e
    obtain⟨rfl,rfl⟩:=cx e
    refine⟨ρ,C,S,M,t,z,ok,R,λp a K H1 w u A r1=>⟨.inl ⟨rfl,K,A.sqL G⟩,p,C,z,[y],S2,ok.to w u,by simp only[au,aA,N,Qbq],λa0 ws H2 B n r=> ?_⟩⟩
    obtain⟨s,h3,L⟩:=A.to r1 B n Y
    cases r with
    | cons r P=>
      cases P
      cases lE r I
      obtain⟨rfl,f1⟩:=qH L U
      exact⟨a,s,_,j,rfl,rfl,h3.sqL G,qi I,f1,e5,q _ _ _ (w.trans B) n (.int _)⟩
   ·cases e
  ·cases e
end
section
variable{X:Cx}{a b c e:Expr}{pos:Pos}{st:Stmt}
def Lc:V->List V->Hp->VK->Prop:=λx g H Q=>∃a b f d,x=.ref a/\g= [.ref b]/\a≠b/\H a=some (.dK f)/\H b=some (.dK d)/\f.length+d.length<=sizeLine/\Q .non (upd H a (.dK (jF f d)))
def BR:KI X "dict.update" Lc:=by
 intro n s K H x J v G Q I y t h
 obtain⟨a,b,k,f,rfl,rfl,ab,ha,hb,hz,q⟩:=h
 cases y
 obtain⟨u,rfl,ru⟩:=t.one
 cases ru
 obtain⟨z,r,o,g,m⟩:=xt I.hok ha
 obtain⟨M,j,A,d,l⟩:=xt I.hok hb
 refine call_meetsIn PySem.F.slot_dict_update m.typeIs PySem.F.entry_dict_update (PySem.F.args_dict_update_2 _ _) (meets_dict_update (bN X.prog X.w) a b ab j) ⟨o,A,m,l,by rw[←g.length,←d.length];exact hz,λp i _ B=> ?_⟩
 have C:∃q,p.get? a=some q:=let ⟨q,_,_,hq,_⟩:=i;⟨q,hq⟩
 have L:=iH f k
 exact⟨.non,_,pR I (by rw[ha];exact True.intro) B C (rC (by omega) r (KV.merge d g) i),rfl,q⟩
def FE(f g:bA):bA:=λh S=>(f h S).bind λ(x,i)=>(g h i).bind λ(y,d)=>match x,y with
 | .ref k,.ref j=>if k≠j then match i[k]?,d[k]?,d[j]? with
   |some (.dct _),some (.dct l),some (.dct m)=>if l.length+m.length<=sizeLine then some (.non,d.set k (.dct (cW l m))) else none
   |_,_,_=>none
   else none
 |_,_=>none
def DE{f g:bA}{o:Expr}{n h:Pos}(ho:PE X o (tD (md X) f))(A:PE X e (tD (md X) g))(p:attributeBase o "update" X.env (eval o X.env)=eval o X.env:=by rfl) (t:((backTo h (starEach [e] X.env)).all (λx=> !x.1)&&(backToKw h (keywordEach [] X.env)).all (λx=>x.1.isSome)
   &&decide ([e].length+([]:List Keyword).length+(if ([]:List Keyword).isEmpty then 0 else 1)<30))=true:=by rfl)
  (s:(n.endLine==h.line)=true:=by rfl) (Z:starEach [e] X.env= [(false,eval e X.env)]:=by rfl):PE X (.Call (.Attribute o "update" n) [e] [] h) (tD (md X) (FE f g)):=
 j2 (rT PySem.F.plainAttrs_dict PySem.F.slot_dict_update PySem.F.type_dict_update BR ho (aq A aw Z) p t s Z) λσ H Q qq=>by
  obtain⟨ρ,W,S,d,S',ok,e,q⟩:=qq
  obtain⟨⟨x,G⟩,e1,e⟩:=ar e
  obtain⟨⟨y,K⟩,e2,e⟩:=ar e
  cases x with
  | ref k=>
    cases y with
    | ref j=>
      dsimp only at e
      split at e
      · rename_i ne
        cases I:G[k]? with
        |none=>rw[I] at e;cases e
        | some o1=>
          rw[I] at e
          cases o1 with
          | dct l0=>
            cases w:K[k]? with
            |none=>rw[w] at e;cases e
            | some o2=>
              rw[w] at e
              cases o2 with
              | dct l=>
                cases L:K[j]? with
                |none=>rw[L] at e;cases e
                | some o3=>
                  rw[L] at e
                  cases o3 with
                  | dct m=>
                    dsimp only at e
                    split at e
                    · rename_i hl
                      obtain⟨rfl,rfl⟩:=cx e
                      refine⟨ρ,W,S,_,G,ok,e1,λB v H1 N u r1=> ?_⟩
                      cases r1 with
                      | ref A=>
                        rename_i a
                        obtain⟨M,g0,_⟩:=u.obj k a _ A I
                        refine⟨.inr (.inr (.inl ⟨rfl,.inl ⟨M,g0⟩⟩)),B,W,G,[.ref j],K,ok.to N u,by simp only[au,aA,e2,Qbq],λa0 ws H2 R i C=> ?_⟩
                        cases C with
                        | cons C rr=>
                          cases rr
                          cases C with
                          | ref U=>
                            rename_i b
                            have r:=cV R.pre A
                            obtain⟨kv,g1,P⟩:=i.obj k a _ r w
                            obtain⟨kw,g3,Y⟩:=i.obj j b _ U L
                            have ab:a≠b:=λz=>by subst z;exact ne (ke i.nd r U)
                            obtain⟨J,x3⟩:=i.putKd r w (b_.merge Y P)
                            exact⟨a,b,kv,kw,rfl,rfl,ab,g1,g3,by rw[←P.length,←Y.length];exact hl,q _ _ _ ((N.trans R).trans x3) J .non⟩
                    · cases e
                  |_=>cases e
              |_=>cases e
          |_=>cases e
      · cases e
    |_=>cases e
  |_=>cases e
end
end DL
namespace L2
open PySem PySem.Spec PyProof.Rows
section
variable{prog:Program}{w:World}{A:Around}{s:Shared}
def sH{F G a o:Expr}{p:List Expr}{f:Scope}{pos:Pos}{it:Value}{D:Addr}{env:Env}{R:Result->Shared->Prop}(I:Nat->Shared->Prop)
  (u:∀n s,I n s->wpAny (model prog w) A (pyNext it) (λr d=>match r with
   |none=>R (.ok .next) d
   |some v=>wpAny (model prog w) A (letOwnedTupleGo a it v) (λ_ e=>wpAny (model prog w) A (assign a env v) (λ_ j=>
     wpAny (model prog w) A (forIn p true λc r=>if r=true then do let ok←isTrue c env (eval c env);pure (ForInStep.yield ok) else pure (ForInStep.yield r)) (λok s₃=>
      if ok=true then wpAny (model prog w) A (eval F env) (λx k=>wpAny (model prog w) A (eval G env) (λy g=>
       wpAny (model prog w) A (dictSet D x y) (λ_ l=>∃m,m<n/\I m l) (λ_ _=>False) g) (λ_ _=>False) k) (λ_ _=>False) s₃
      else∃m,m<n/\I m s₃) (λ_ _=>False) j) (λ_ _=>False) e) (λ_ _=>False) d) (λ_ _=>False) s)
  (n:Nat) (h:I n s):codeAny (model prog w) A (.compLoop (.DictComp F G [⟨a,o,p,0⟩] f pos) 0 it (.ref D) env) R s:=by
 refine codeAny_loop rfl I (λn s H=> ?_) n h
 show wpAny _ A ((compTurn (.DictComp F G [⟨a,o,p,0⟩] f pos) 0 it (.ref D) env).onRaise (λx=>do noteFrame x env;theTreesLotGoes x)) _ _ s
 refine wpAny_noted ?_
 rw[compTurn_dict]
 refine Qaq (wpAny_standAt (Qaq (QRq (u n s H) (λr d i=> ?_) λ_ _ b=>b.elim)))
 cases r with
 |none=>exact Qgq i
 | some v=>
   refine Qaq (QRq i (λ_ e q=> ?_) λ_ _ b=>b.elim)
   refine Qaq (QRq q (λ_ j C=>Qaq (QRq C (λok s₃ h₃=> ?_) λ_ _ b=>b.elim)) λ_ _ b=>b.elim)
   cases ok with
   |false=>exact Qgq ⟨rfl,h₃⟩
   | true=>
     exact Qaq (Qaq (QRq h₃ (λx k z=>Qaq (QLq (QRq z (λy g t=>Qaq (wpAny_standAt (QLq (QRq t (λ_ l B=>Qgq ⟨rfl,B⟩) λ_ _ b=>b.elim)))) λ_ _ b=>b.elim))) λ_ _ b=>b.elim))
end
def HQ(J:It)(g:TG)(o:TT)(r q:TE)(Q:VK)(D:Addr)(p:St)(H:Hp):Prop:=
 ∃ W:Nat->Nat->St->Hp->Prop,(∃m,W 0 m p H)/\∀i m e d,W i m e d→
   (J.stop i d/\Q (.ref D) d)\/(J.go i d/\∃h:St->Hp->Prop,(∀b f,h b f->∃j,j<m/\W (i+1) j b f)∧
     ∀ x H2,J.yld i d x H2->g x e H2 λa H3=>o a H3 λok H4=>
       if ok=true then r a H4 λk H5=>q a H5 λy n=>∃c l,k=kV l/\n D=some (.dK c)/\c.length<sizeLine/\h a (upd n D (.dK (putK c l y))) else h a H4)
def Ei(js:List (Option Nat))(d:TI)(g:TG)(c:TT)(b e:TE):TE:=λa H Q=>d a H λJ H1=>∀D,H1 D=none->HQ J g c b e Q D (jo js a) (upd H1 D (.dK []))
def CJ{X:Cx}{N:List Str}{js:List (Option Nat)}{a:Scope}{Z:List (Str×Addr)}{tg Q kx vx K:Expr}{a6:List Expr}{pos b1:Pos}{wi:TI}{g gt:TG}{tt:TT}{tk tv:TE}
  (S:bp X N js a Z) (hc:X.calm=true) (hi:PI X tg Q wi)
  (hg:∀C s H fp,PG (aY X N a Z C s H fp) tg g) (ht:∀C s H fp,pB (aY X N a Z C s H fp) a6 tt) (hk:∀C s H fp,PE (aY X N a Z C s H fp) kx tk) (hv:∀C s H fp,PE (aY X N a Z C s H fp) vx tv) (d6:PG X K gt)
  (hs:∀x,foldedSetIterable Q X.env x=pure x:=by intro _;rfl) (e3:swapsWithSole [K] (.DictComp kx vx [⟨tg,Q,a6,0⟩] a pos) b1.line X.env=pure true:=by rfl)
  (h1:(assignEach [K] X.env).map (·.2)= [assign K X.env]:=by rfl):PS X (.Assign [K] (.DictComp kx vx [⟨tg,Q,a6,0⟩] a pos) b1) (BS (Ei js wi g tt tk tv) gt):=by
 intro a0 s σ H Dn I h
 rw[exec_Assign_arm]
 refine Qaq (wpAny_standAt (Qaq (wpAny_of_eq e3 (wpAny_ite_true rfl (Qaq ?_)))))
 rw[h1]
 show wpAny _ _ (do let _←comprehension _ _ _ _ _ _ _ (some λv=>assignAll v [assign K X.env]);pure ()) _ _ _
 refine Qaq ?_
 refine wpAny_comprehension_free (use:=some λv=>assignAll v [assign K X.env]) rfl hs S.clos S.kind S.names (cP (hi a0 s σ H _ I h) λv s1 h1=>cP h1 λe7 t h2=> ?_)
 obtain⟨it,fp,tn,J,H2,e,F,T,b5,f2,hD⟩:=h2
 subst e
 refine QhQ (wpAny_newFunctionEnv S.nocell (by intro y hy;simp at hy) (λP M B=> ?_) S.kind)
 dsimp only at M B⊢
 generalize a8:t.heap.push {cls:=.type "dict",data:=.dict #[]}=P2 at M B⊢
 have hC:P2.objs.size=t.heap.objs.size+1:=by rw[←a8,Heap.size_push]
 have b4:t.heap.objs.size≠P2.objs.size:=by rw[hC];exact Qwq (Nat.lt_succ_self _)
 have a4:t.heap.objs.size<=P2.objs.size:=by rw[hC];exact Nat.le_succ _
 have L:∀b,b<t.heap.objs.size->b≠P2.objs.size:=λb f=>by rw[hC];exact Qwq (Nat.lt_succ_of_lt f)
 have a1:∀b o,t.heap.get? b=some o->P.get? b=some o:=λb o e=>B.extBut b o (L b (Qiq e)) (Qcq _ (a8▸Qcq _ e))
 have e6:P.get? t.heap.objs.size=some {cls:=.type "dict",data:=.dict #[]}:=B.extBut _ _ b4 (Qcq _ (a8▸Qrq _ rfl))
 have nD:H2 t.heap.objs.size=none:=F.fresh
 have nC:H2 P2.objs.size=none:=F.hok.fresh a4
 have b3:∀b∈fp,b<t.heap.objs.size:=λb f=>by
  obtain⟨o,e,_⟩:=T.obj _ _ b5 b f
  exact Qiq e
 obtain⟨W,⟨m0,w0⟩,c6⟩:=hD t.heap.objs.size nD
 have c4:(aY X N a Z P2.objs.size t H2 fp).Ok:=by
  refine⟨F.ok.mod,S.kind,F.ok.glob,F.ok.blt,a4,λx y c h1 h2=>F.ok.inj x y c (S.sub x c h1) (S.sub y c h2),S.has,(λx c h=>by cases h),F.ok.hd,F.ok.frames,.inl rfl,
   λb f=>⟨L b (b3 b f),λx c h=>(f2 b f).2.2.2.2.1 x c (S.sub x c h)⟩,F.bs,QAq F.ok.bsz F.sz,λb o e f=> ?_,λb f z=> ?_,F.stack,F.stkFree⟩
  ·rcases(f2 b f).2.2.2.1 with z|z
   ·exact F.ok.noex b o e z
   ·exact absurd (Qqq (Qqq (Qiq e) F.ok.bsz) z) (Nat.lt_irrefl _)
  ·rcases Qsq.mp (F.stkSub b z) with q|q
   ·exact(f2 b f).2.1 q
   ·exact(f2 b f).2.2.1 q
 have c5:cY X.prog X.w (upd H2 t.heap.objs.size (.dK [])) P t.heap.objs.size (.dK []):=by
  obtain⟨o,es,ep,e1,e2⟩:=Heap.DictOf.new (knd:=bN X.prog X.w) t.heap
  exact rC (Nat.zero_le _) (beq_eq_false_iff_ne.mpr (Ne.symm (Qwq F.big))) .nil ⟨o,es,ep,B.extBut _ _ b4 (Qcq _ (a8▸e1)),e2⟩
 have I4:Inv (aY X N a Z P2.objs.size t H2 fp) [] (jo js σ) (upd H2 t.heap.objs.size (.dK [])) {t with heap:=P,toks:=t.toks+([]:List (Str×Value)).length}:=by
  refine⟨c4,rfl,F.bare,Un.laid a1 (Qmq _) nD,⟨_,M,λi x v h1 h2 h3=> ?_⟩,λx c h=> ?_,by show upd H2 _ _ P2.objs.size=none;rw[bj b4.symm];exact nC,λx c h=> ?_,λp hp=>absurd (show p∈([]:List (Addr×Obj)) from hp) (by simp),F.hok.laid a1 (Qmq _) c5,by show(jo js σ).length=N.length;unfold jo;rw[lQm];exact S.len⟩
  ·unfold jo at h2
   rw[gQm] at h2
   cases e:js[i]? with
   |none=>rw[e] at h2;cases h2
   | some o=>
     rw[e] at h2
     cases o with
     |none=>cases h2
     | some j=>
       have a3:σ.getD j none=some v:=QdQ h2
       have hj:σ[j]?=some (some v):=by
         rw[Qlq] at a3
         cases q:σ[j]? with
         |none=>rw[q] at a3;cases a3
         |some y=>rw[q] at a3;exact congrArg some a3
       obtain⟨c1,c2,c3⟩:=S.cap i j x e h1
       obtain⟨m,hn,hl⟩:=F.loc
       have d9:F_ X.env.scope x:=by
         rcases c2 with z|z
         · exact .inr (.inl z)
         · exact .inr (.inr z)
       obtain⟨u,r,l⟩:=hl j x v c1 hj d9
       refine⟨u,r,.inr ⟨c3,?_⟩⟩
       obtain⟨c,d1⟩:=S.has x c3
       refine⟨c,d1,?_⟩
       rcases l with⟨z,_⟩|⟨_,c',e',z⟩
       · rcases c2 with y|y <;>rw[y] at z <;>cases z
       · rw[S.sub x c d1] at e'
         cases e'
         obtain⟨o,ho,hd⟩:=z
         exact⟨o,a1 _ _ ho,hd⟩
  ·obtain⟨v,o,ho,hd⟩:=F.cell x c (S.sub x c h)
   exact⟨v,o,a1 _ _ ho,hd⟩
  ·obtain⟨v,o,ho,hd⟩:=F.cell x c (S.sub x c h)
   rw[bj (Qwq (Qiq ho))]
   exact F.freeC x c (S.sub x c h)
 have a2:∀{U:List (Addr×Obj)} {H':Hp},U= []->(∀b∈fp,H' b=none)->∀b∈fp,nX (aY X N a Z P2.objs.size t H2 fp) U H' b:=λ{U H'} ep hn b f=>by
  subst ep
  refine⟨hn b f,L b (b3 b f),λz=>c4.exfs b f z,.inl f,λx c h=>(f2 b f).2.2.2.2.1 x c (S.sub x c h),λp hp=>absurd (show p∈([]:List (Addr×Obj)) from hp) (by simp)⟩
 have b0:codeAny (model X.prog X.w) X.A (.compLoop (.DictComp kx vx [⟨tg,Q,a6,0⟩] a pos) 0 (.ref it) (.ref t.heap.objs.size) (compEnvC a Z P2.objs.size X.env))
   (compPost (model X.prog X.w) X.A X.xe (some λv=>assignAll v [assign K X.env]) (λ_ s9=>wpAny (model X.prog X.w) X.A (pure ()) (λ_ e5=>wpAny (model X.prog X.w) X.A (pure Flow.next) (SP X a0 Dn) X.xe e5) X.xe s9) (.ref t.heap.objs.size) P2.objs.size) {t with heap:=P,toks:=t.toks+([]:List (Str×Value)).length}:=by
  refine sH (λn s'=>∃i a5 H',Inv (aY X N a Z P2.objs.size t H2 fp) [] a5 H' s'/\tn i s'.heap/\(∀b∈fp,H' b=none)/\W i n a5 H') ?_ m0
   ⟨0,_,_,I4,T.keep _ _ _ b5 λb _ o e=>a1 b o e,λb f=>by rw[bj (Qwq (b3 b f))];exact(f2 b f).1,w0⟩
  rintro n s3 ⟨i,a9,H3,I3,b7,d2,w3⟩
  rcases c6 i n a9 H3 w3 with⟨stop,q⟩|⟨go,Nx,hN,d3⟩
  ·refine cP (T.done (aY X N a Z P2.objs.size t H2 fp) rfl rfl rfl hc i [] s3 a9 H3 _ I3 (a2 rfl d2) b7 stop) λr s4 Y=> ?_
   obtain⟨hr,I5⟩:=Y
   subst hr
   obtain⟨m,hn,_⟩:=id I5.loc
   have e4:∀h',Heap.SameBut P2.objs.size s4.heap h'->Inv X a0 σ H3 {s4 with heap:=h'}:=by
    intro h' R
    have u:=I5.base
    have ne:∀b o,t.heap.get? b=some o->b≠P2.objs.size:=λb o e=>L b (Qiq e)
    refine F.call' (ch:=fp) I5.os ⟨λb o e n f hx=>(R.2 b (ne b o e)).trans (u.keep b o e n f hx),λb o e n f hx=> ?_,u.free,λb o e hx=> ?_,u.tups,u.frzs,u.tbls⟩ (λb ob e=> ?_) I5.bare λb f=>⟨(f2 b f).2.2.2.1,(f2 b f).2.1,(f2 b f).2.2.2.2.1,(f2 b f).2.2.2.2.2⟩
    ·obtain⟨sl,e1⟩:=u.slot b o e n f hx
     exact⟨sl,(R.2 b (ne b o e)).trans e1⟩
    ·obtain⟨o',e1⟩:=u.there b o e hx
     exact⟨o',(R.2 b (ne b o e)).trans e1⟩
    ·refine(I5.hok b ob e).stay (λc w' hc q=>(R.2 c ?_).trans q) (λ_ q=>q) λ_ _ q=>q
     have fC:H3 P2.objs.size=none:=I5.free
     rintro rfl
     rcases hc with z|z
     ·rw[←z,fC] at e;cases e
     ·rw[fC] at z;cases z
   have IX:=e4 s4.heap ⟨rfl,λ_ _=>rfl⟩
   have a7:nX X a0 H3 P2.objs.size:=F.fpOk a4 I5.free
   obtain⟨oC,es,ep,b6,d4,e0⟩:=hn
   have IP:=IX.pinned (fp:= [P2.objs.size]) (λb f=>by rw[Qfq] at f;rw[f];exact a7) (λb f=>by rw[Qfq] at f;rw[f];exact⟨oC,b6,λv=>by rw[d4];simp⟩)
   show wpAny _ _ (assignAll (.ref t.heap.objs.size) [assign K X.env]) _ _ _
   rw[assignAll.eq_2]
   refine cP (d6 _ s4 σ H3 (.ref t.heap.objs.size) (.ref t.heap.objs.size) _ IP rfl q) λ_ s6 Y=> ?_
   obtain⟨G,H6,I6,q6⟩:=Y
   have pC:=I6.pin (P2.objs.size,oC) (Qoq _ (Qoq _ (dm (Qfq.mpr rfl) b6)))
   refine⟨m,⟨oC,es,ep,pC.1,d4,e0⟩,λh' R=>Qgq (Qgq ⟨G,H6,?_,q6⟩)⟩
   exact I6.unpinned.turned (it:=P2.objs.size) (t':=s6.toks) (λb o' f e=>(R.2 b f).trans e) pC.2.1 pC.2.2.1 a7.2.2.2.1 a7.2.2.2.2.1 a7.2.2.2.2.2
  ·refine cP (T.item (aY X N a Z P2.objs.size t H2 fp) rfl rfl rfl hc i [] s3 a9 H3 _ I3 (a2 rfl d2) b7 go) λr s4 Y=> ?_
   obtain⟨u,hr,h4⟩:=Y
   subst hr
   refine cP h4 λ_ s5 Y=> ?_
   obtain⟨x,H5,I5,r5,y5,b2,d7⟩:=Y
   have d8:=I5.pinned (a2 rfl d7) (T.obj _ _ b2)
   refine cP (hg P2.objs.size t H2 fp _ s5 a9 H5 x u _ d8 r5 (d3 x H5 y5)) λ_ s6 Y=> ?_
   obtain⟨G,H6,I6,q6⟩:=Y
   refine cP (ht P2.objs.size t H2 fp _ s6 G H6 _ I6 q6) λok s7 Y=> ?_
   obtain⟨H7,I7,q7⟩:=Y
   have again:∀{s8:Shared} {H8:Hp},Inv (aY X N a Z P2.objs.size t H2 fp) ([]++l9 fp s5.heap) G H8 s8->Nx G H8->∃m,m<n/\∃i a5 H',Inv (aY X N a Z P2.objs.size t H2 fp) [] a5 H' s8/\tn i s8.heap/\(∀b∈fp,H' b=none)/\W i m a5 H':=λ{s8 H8} I8 n8=>by
    obtain⟨m',hm,w8⟩:=hN G H8 n8
    refine⟨m',hm,i+1,G,H8,I8.unpinned,T.keep _ _ _ b2 λb f o e=>(I8.pin (b,o) (Qoq _ (Qoq _ (dm f e)))).1,λb f=> ?_,w8⟩
    obtain⟨o,e,d⟩:=T.obj _ _ b2 b f
    exact(I8.pin (b,o) (Qoq _ (Qoq _ (dm f e)))).2.1
   cases ok with
   |false=>exact again I7 q7
   | true=>
     refine cP (hk P2.objs.size t H2 fp _ s7 G H7 _ I7 q7) λkv s8 Y=> ?_
     obtain⟨k,H8,I8,rk,q8⟩:=Y
     refine cP (hv P2.objs.size t H2 fp _ s8 G H8 _ I8 q8) λyv s9 Y=> ?_
     obtain⟨y,H9,I9,ry,d5,ky,ek,hx,hl,n9⟩:=Y
     subst ek
     obtain⟨z,hd,vs,b8,dd⟩:=xt I9.hok hx
     refine wpAny_dictSet_pairs (vW rk) dd (λh' c0 R=> ?_) (by rw[←b8.length];exact z)
     have he:∃q,h'.get? t.heap.objs.size=some q:=let ⟨q,_,_,hq,_⟩:=c0;⟨q,hq⟩
     have e8:=iu d5 ky y
     exact again (pR I9 (by rw[hx];exact True.intro) R he (rC (by omega) hd (b8.put ky ry) c0)) n9
 exact codeAny_compStart_dict b0 (T.self _ 0 _ _ _ (T.keep _ _ _ b5 λb _ o e=>a1 b o e) b0)
end L2
namespace DL
open PySem PySem.Spec PyProof.Rows L2
section
variable{M:Md}{ρ:List Addr}{H:Hp}{b:Addr}{us:List (Key×V)}{o:HO}
theorem fF.offK{S:aI}(st:fF M ρ S H)(f:H b=some (.dK us))(n:b∉ρ):fF M ρ S (upd H b o):=⟨st.len,st.nd,λk a p h l=>by
 have q:=st.obj k a p h l
 have g:a≠b:=λz=>n (z▸mQg h)
 cases p with
 |lst i=>obtain⟨e,d,c⟩:=q;exact⟨e,by rw[bj g];exact d,c.offK f⟩
 |frz i=>obtain⟨e,o,d,c⟩:=q;exact⟨e,o,by rw[bj g];exact d,c.offK f⟩
 |dct j=>obtain⟨m,d,c⟩:=q;exact⟨m,by rw[bj g];exact d,c.imp λ_ _ r=>r.offK f⟩⟩
def En.offK{a:dt}{c:L2.St}(h:En M ρ H a c)(e:H b=some (.dK us)):En M ρ (upd H b o) a c:=⟨h.len,λi d q=>by obtain⟨v,f,g⟩:=h.get i d q;exact⟨v,f,g.offK e⟩⟩
end
open Classical in
def iI(g:mf)(t:jA)(c b:bA)(W:aI->Prop):List D->dt->aI->List (Key×D)->Option (List (Key×D)×aI)
 | [],Γ,S,acc=>if W S then some (acc,S) else none
 |d ::ds,Γ,S,acc=>if W S then(g d Γ S).bind λ(a,f)=>(t a f).bind λ(k,e)=>
    if k=true then(c a e).bind λ(x,j)=>(b a j).bind λ(y,i)=>(sA x).bind λh=>if acc.length<sizeLine then iI g t c b W ds a i (putD acc h y) else none
    else iI g t c b W ds a e acc
  else none
def qU(js:List (Option Nat))(i:vT)(g:mf)(t:jA)(d b:bA):dt->aI->Option (List (Key×D)×aI):=λa S=>(i a S).bind λ(p,c)=>iI g t d b p.2 p.1 (m9 js a) c []
def EO{M:Md}{js:List (Option Nat)}{i:vT}{g:mf}{t:jA}{fk fv:bA}{σ:L2.St}{H:Hp}{Q:VK}{ρ:List Addr}{Γ:dt}{S S':aI}{l:List (Key×D)}(ok:Ok M ρ Γ S σ H)(e:qU js i g t fk fv Γ S=some (l,S'))
  (q:∀b a kv f,b9 ρ H b f->fF M b S' f->H a=none->a∉b->f a=some (.dK kv)->b_ M b f l kv->Q (.ref a) f):Ei js (tI M i) (tG M g) (tB M t) (tD M fk) (tD M fv) σ H Q:=by
 obtain⟨⟨⟨n,W⟩,S1⟩,e1,e⟩:=ar e
 refine⟨ρ,Γ,S,n,W,S1,ok,e1,λo J H1 x1 Y wk D U=> ?_⟩
 have n1:D∉o:=fh x1 Y U
 have a0:Ok M o (m9 js Γ) S1 (jo js σ) (upd H1 D (.dK [])):=⟨((ok.en.ext x1).ext (b9.laid U)).sig js,Y.lay U⟩
 refine⟨λi m F f=>m=n.length-i/\i<=n.length/\∃d A R c j,b9 o H1 d f/\Ok M d A R F f/\D∉d/\f D=some (.dK j)/\b_ M d f c j/\iI g t fk fv W (n.drop i) A R c=some (l,S'),
  ⟨n.length,by simp,Nat.zero_le _,o,_,S1,[],[],b9.laid U,a0,n1,bQ,rfl,e⟩,?_⟩
 rintro i m b3 H2 ⟨rfl,hi,d,A,R,c,j,x2,ok2,n2,hD2,racc,e2⟩
 by_cases K:i<n.length
 ·have hd:n[i]?=some n[i]:=gQe K
  rw[QWq K] at e2
  unfold iI at e2
  split at e2
  ·rename_i w
   obtain⟨w1,w2⟩:=wk i d R H2 x2 ok2.st w
   obtain⟨go,a7⟩:=w1 _ hd
   refine .inr ⟨go,λF f=>∃b s B c j,b9 o H1 b f/\Ok M b s B F f/\D∉b/\f D=some (.dK j)/\b_ M b f c j/\iI g t fk fv W (n.drop (i+1)) s B c=some (l,S'),
    λF f ⟨b,s,B,c,j,h1,h2,h3,h4,h5,h6⟩=>⟨n.length-(i+1),by omega,rfl,K,b,s,B,c,j,h1,h2,h3,h4,h5,h6⟩,λx H3 hy=> ?_⟩
   obtain⟨x3,a5,r3⟩:=a7 x H3 hy
   obtain⟨⟨h,S4⟩,e4,e5⟩:=ar e2
   refine⟨d,A,R,_,h,S4,ok2.to x3 a5,r3,e4,λb1 b2 H4 x4 p=> ?_⟩
   obtain⟨⟨k,S5⟩,e6,e7⟩:=ar e5
   refine⟨b1,h,S4,k,S5,p,e6,λX H5 Z I=> ?_⟩
   have C:=(x3.trans x4).trans Z
   have G:∀{b f},b9 d H2 b f->f D=some (.dK j)/\D∉b:=λ{b f} x=>⟨x.keep _ _ hD2 (.inl n2),λm=>(x.new _ m).elim n2 λz=>by rw[z] at hD2;cases hD2⟩
   dsimp only at e7⊢
   split at e7
   ·rename_i ck
    rw[Qhq ck]
    obtain⟨⟨kx,S6⟩,e8,e9⟩:=ar e7
    obtain⟨⟨y,S7⟩,a9,a6⟩:=ar e9
    obtain⟨kk,a2,L⟩:=ar a6
    refine⟨X,h,S5,kx,S6,p.to Z I,e8,λb0 kv H6 x6 a4 r6=>⟨b0,h,S6,y,S7,(p.to Z I).to x6 a4,a9,λa1 v H7 x7 a8 r7=> ?_⟩⟩
    have P:=(C.trans x6).trans x7
    obtain⟨u,n7⟩:=G P
    have N:=racc.ext' P
    split at L
    ·rename_i cl
     refine⟨j,kk,pW r6 a2,u,by rw[←racc.length];exact cl,a1,h,S7,putD c kk y,_,(x2.trans P).off U _,⟨(((p.en.ext Z).ext x6).ext x7).offK u,a8.offK u n7⟩,n7,bQ,(N.put r7).imp λ_ _ r=>r.offK u,L⟩
    ·cases L
   ·rename_i ck
    rw[Quq ck]
    obtain⟨a3,n5⟩:=G C
    exact⟨X,h,S5,c,j,x2.trans C,p.to Z I,n5,a3,racc.ext' C,e7⟩
  ·cases e2
 ·have e3:i=n.length:=by omega
  subst e3
  rw[List.drop_length] at e2
  unfold iI at e2
  split at e2
  ·rename_i w
   obtain⟨rfl,rfl⟩:=cx e2
   obtain⟨w1,w2⟩:=wk n.length d R H2 x2 ok2.st w
   exact .inl ⟨w2 rfl,q d D j H2 (x1.trans x2) ok2.st (x1.grow _ U) n2 hD2 racc⟩
  ·cases e2
def Ko(n:Nat)(f:dt->aI->Option (List (Key×D)×aI)):cZ:=λa S=>(f a S).bind λ(l,b)=>some (.nx (a.set n (some (.ref b.length))) (b++ [.dct l]))
section
variable{X:Cx}{pos:Pos}
def Fl{N:List Str}{js:List (Option Nat)}{c:Scope}{p:List (Str×Addr)}{r d u y f:Expr}{j:List Expr}{i:vT}{g:mf}{t:jA}{G F:bA}{n:Nat}{h:Pos}
  (S:bp X N js c p) (J:X.calm=true) (hi:PI X r d (tI (md X) i))
  (P:∀C s H fp,PG (aY X N c p C s H fp) r (tG (md X) g)) (ht:∀C s H fp,pB (aY X N c p C s H fp) j (tB (md X) t)) (U:∀C s H fp,PE (aY X N c p C s H fp) u (tD (md X) G)) (M:∀C s H fp,PE (aY X N c p C s H fp) y (tD (md X) F)) (w:PG X f (qz n))
  (hs:∀x,foldedSetIterable d X.env x=pure x:=by intro _;rfl) (v:swapsWithSole [f] (.DictComp u y [⟨r,d,j,0⟩] c pos) h.line X.env=pure true:=by rfl)
  (Q:(assignEach [f] X.env).map (·.2)= [assign f X.env]:=by rfl):PS X (.Assign [f] (.DictComp u y [⟨r,d,j,0⟩] c pos) h) (tS (md X) (Ko n (qU js i g t G F))):=
 Ad (CJ S J hi P ht U M w hs v Q) λD σ H qq=>by
  obtain⟨Z,Γ,S,o,ok,e,q⟩:=qq
  obtain⟨⟨l,S1⟩,K,e⟩:=ar e
  cases e
  refine EO ok K λk a Y A x I W nr R L=> ?_
  have z:=I.box (o:=.dct l) nr ⟨Y,R,L.pre' (List.prefix_append k [a])⟩
  have B:b9 Z H (k++ [a]) A:=⟨x.pre.trans (List.prefix_append _ _),λb m=>by
   rcases mQa.mp m with m|m
   ·exact x.new b m
   ·rw[Qfq] at m;subst m;exact .inr W,x.keep,x.grow⟩
  refine q (k++ [a]) _ A B ⟨((ok.en.ext B).set (.ref ?_)),z⟩
  rw[←I.len,QQq (Qmq _)]
  simp
end
end DL
namespace Zp
open PySem PySem.W PyProof.Rows
def fY(a:Nat->Nat->Bool):KasT (Array Nat)->Array Nat
 |.ret p=>p
 |.ask i j k=>fY a (k (a i j))
theorem g9(a:Nat->Nat->Bool):∀t:KasT (Array Nat),fY a t∈oF t
 |.ret p=>by simp[fY,oF]
 | .ask i j k=>by
   unfold fY oF
   cases a i j with
   |true=>exact List.mem_append_left _ (g9 a (k true))
   |false=>exact Qoq _ (g9 a (k false))
theorem uz{a:Nat->Nat->(Bool->Shared->Prop)->Shared->Prop}{Q:Array Nat->Shared->Prop}{s:Shared}{n:Nat}{c:Nat->Nat->Bool}(b:∀i j C,i<n->j<n->i≠j->C (c i j) s->a i j C s):
  ∀t:KasT (Array Nat),ql n t=true->Q (fY c t) s->t.kasWp a Q s
 |.ret p,_,h=>h
 | .ask i j k,ha,h=>by
   simp only[ql,QCq,decide_eq_true_eq] at ha
   obtain⟨⟨⟨⟨f,m⟩,l⟩,g⟩,d⟩:=ha
   refine b i j _ f m l ?_
   cases e:c i j with
   |true=>exact uz b (k true) g (by unfold fY at h;rw[e] at h;exact h)
   |false=>exact uz b (k false) d (by unfold fY at h;rw[e] at h;exact h)
def Ep(fs:List Str)(i j:Nat):Bool:=decide ((fs.getD i "").cps.toList<(fs.getD j "").cps.toList)
def sortBy{α:Type}(fs:List Str)(d:α)(xs:List α):List α:=if xs.length<2 then xs else(fY (Ep fs) (kas_sort xs.length)).toList.map λi=>xs.getD i d
def iA{α:Type}{d:α}(fs:List Str)(xs:List α)(h:xs.length<=3):(sortBy fs d xs).Perm xs:=by
 unfold sortBy
 split
 ·exact List.Perm.refl _
 ·rename_i b
  obtain⟨_,a⟩:=pQ xs.length h (by omega)
  have c:(fY (Ep fs) (kas_sort xs.length)).toList.Perm (List.range xs.length):=List.isPerm_iff.mp (QUq.mp a _ (g9 _ _))
  have e:(List.range xs.length).map (λi=>xs.getD i d)=xs:=by
   apply List.ext_getElem
   ·simp
   ·intro i f b
    simp[Qlq,b]
  have:=c.map λi=>xs.getD i d
  rw[e] at this
  exact this
section
variable{prog:Program}{w:World}{A:Around}{E:Value->Shared->Prop}{s:Shared}
def yY{a:Addr}{vs:List Value}{fs:List Str}{n:Nat}{P:PySem.Fin->Shared->Prop}(I:s.heap.get? a=some (seqObj "list" vs.toArray n))(h3:vs.length<=3)(ht:eh s.heap vs fs)(hd:fs.Nodup)
  (q:∀J:Array Value,J.toList=sortBy fs Value.none vs->P (.done (.ret .none)) {s with heap:=sortedHeap s.heap a vs J}):wpAny (model prog w) A (Builtin.«list.sort» ⟨[.ref a],[]⟩) P E s:=by
 rw[list_sort_plain]
 have ha:a<s.heap.objs.size:=Qiq I
 refine Qaq (listItems_at I rfl (Qaq (listUpdate_at I rfl ?_ (by rw[Qjq,sizeLine_eq];omega) (Nat.zero_le _))))
 obtain⟨L,H⟩:∃L,(s.heap.update a (Obj.mapSeq λ_=> #[])).get? a=some (seqObj "list" #[] L):=⟨_,get?_update_seq I (λ_=> #[])⟩
 refine Qaq (seqEpoch_at H rfl (Qaq (wpAny_newTuple ?_ (by show vs.length<=_;rw[sizeLine_eq];omega))))
 refine Qaq (wpAny_newList (QLq ?_) (Nat.zero_le _))
 have h:(((s.heap.update a (Obj.mapSeq λ_=> #[])).push (seqObj "tuple" vs.toArray 0)).push (seqObj "list" #[] 0)).get? a=some (seqObj "list" #[] L):=Qcq _ (Qcq _ H)
 have u:eh (((s.heap.update a (Obj.mapSeq λ_=> #[])).push (seqObj "tuple" vs.toArray 0)).push (seqObj "list" #[] 0)) vs fs:=ht.keep λb o e c=>by
  have nb:b≠a:=λz=>by rw[z,I] at e;cases e;simp[seqObj] at c
  exact Qcq _ (Qcq _ (by rw[Heap.get?_update_ne _ _ _ _ nb];exact e))
 refine(?_:wpAny (model prog w) A _ P E {s with heap:=((s.heap.update a (Obj.mapSeq λ_=> #[])).push (seqObj "tuple" vs.toArray 0)).push (seqObj "list" #[] 0)})
 dsimp only
 by_cases F:vs.toArray.size<2
 ·rw[Qhq F,Qhq F]
  refine Qaq (Qgq ?_)
  rw[StateT.run_pure]
  refine Qaq (Qgq ?_)
  dsimp only
  have e2:((vs.toArray.zip vs.toArray).map (·.2))=vs.toArray:=by
   apply Array.toList_inj.mp
   simp
   exact List.map_snd_zip (Qmq _)
  refine Qaq (seqEpoch_at h rfl (Qaq (listUpdate_at h rfl ?_ (hsz2:=by
   refine QAq (Nat.le_of_eq (congrArg Array.size e2)) ?_
   rw[Qjq,sizeLine_eq]
   omega))))
  simp only[bne_self_eq_false,Bool.false_eq_true,if_false]
  refine Qgq ?_
  have:=q vs.toArray (by unfold sortBy;rw[Qhq (by simpa using F)])
  rw[←e2] at this
  exact this
 ·rw[Quq F,Quq F]
  have hn:2<=vs.length:=by simpa using F
  obtain⟨gs,kt,lg,mg⟩:=u.firsts
  have lf:=ht.len
  refine Qaq (kat_kind (T:=.type "str") kt (by omega) (λv hv=> ?_) rfl ?_)
  ·obtain⟨x,t,rfl⟩:=mg v hv
   exact .now
  obtain⟨ok,perm⟩:=pQ vs.length h3 hn
  have S:SortSt.mk' (tuples' true) (vs.toArray.zip vs.toArray) #[] 7 none=kas_st (tuples' true) (pairsOf vs) (List.toArray (List.range vs.length)):=by
   have e:=kas_range (pairsOf vs)
   rw[pairsOf_size] at e
   refine(?_:SortSt.mk' (tuples' true) (pairsOf vs) #[] 7 none=SortSt.mk' (tuples' true) ((List.toArray (List.range vs.length)).map (kas_item (pairsOf vs))) #[] 7 none)
   rw[e]
  refine(?_:wpAny (model prog w) A (StateT.run sortRuns' (SortSt.mk' (tuples' true) (vs.toArray.zip vs.toArray) #[] 7 none) >>= _) P E _)
  rw[S]
  have X:=kas_runs (prog:=prog) (w:=w) (A:=A) (E:=E) (κ:=tuples' true) (it:=pairsOf vs) (n:=vs.length)
   (s:={s with heap:=((s.heap.update a (Obj.mapSeq λ_=> #[])).push (seqObj "tuple" vs.toArray 0)).push (seqObj "list" #[] 0)})
   (G:=λp K=>p=fY (Ep fs) (kas_sort vs.length)/\K={s with heap:=((s.heap.update a (Obj.mapSeq λ_=> #[])).push (seqObj "tuple" vs.toArray 0)).push (seqObj "list" #[] 0)})
   (Q:=λ_ f K=>K={s with heap:=((s.heap.update a (Obj.mapSeq λ_=> #[])).push (seqObj "tuple" vs.toArray 0)).push (seqObj "list" #[] 0)}/\failedOf f=none/\∃p,p=fY (Ep fs) (kas_sort vs.length)/\arrOf f=p.map (kas_item (pairsOf vs)))
   hn (by omega) (λp' f K a1 a2 a3 a4=>⟨a4.2,a3,p',a4.1,a2⟩) (uz (n:=vs.length) (λi j C hi hj R hC=> ?_) _ ok ⟨rfl,rfl⟩)
  ·refine Qaq (QRq X ?_ λ_ _ e=>e)
   rintro⟨⟨⟩,f⟩ K ⟨rfl,hf,p,hp,har⟩
   dsimp only
   have l:((arrOf f).map (·.2)).toList=sortBy fs Value.none vs:=by
    unfold sortBy
    rw[Quq (by omega),har,Array.map_map,Array.toList_map,hp]
    refine List.map_congr_left λk _=> ?_
    show(kas_item (pairsOf vs) k).2=_
    rw[kas_item_eq]
   have g:=iA (d:=Value.none) fs vs h3
   have W:((arrOf f).map (·.2)).size=vs.length:=by
    have:=congrArg List.length l
    rw[g.length_eq] at this
    simpa using this
   refine Qaq (seqEpoch_at h rfl (Qaq (listUpdate_at h rfl ?_ (hsz2:=by
    refine QAq (Nat.le_of_eq W) ?_
    rw[sizeLine_eq]
    omega))))
   rw[hf]
   simp only[bne_self_eq_false,Bool.false_eq_true,if_false]
   exact Qgq (q _ l)
  ·unfold kas_cmp
   rw[kas_item_eq,kas_item_eq]
   obtain⟨x,ox,xs,nx,tx,ex,gx,dx,fx⟩:=u.get (i:=i) (by omega)
   obtain⟨y,oy,ys,ny,ty,ey,gy,dy,Z⟩:=u.get (i:=j) (by omega)
   dsimp only
   rw[ex,ey]
   have N:¬fs.getD i ""=fs.getD j "":=λz=>by
    have m:i<fs.length:=by omega
    have B:j<fs.length:=by omega
    rw[Qlq,Qlq,gQe m,gQe B] at z
    have z':fs[i]=fs[j]:=z
    rcases Nat.lt_or_gt_of_ne R with U|U
    ·exact List.pairwise_iff_getElem.mp hd i j m B U z'
    ·exact List.pairwise_iff_getElem.mp hd j i B m U z'.symm
   refine kat_lt gx dx gy dy ?_
   obtain⟨xr,Y⟩:∃r,xs.toList=.str (fs.getD i "") tx::r:=by
    cases e:xs.toList with
    |nil=>have:=congrArg (·[0]?) e;simp[fx] at this
    |cons v r=>have:=congrArg (·[0]?) e;simp[fx] at this;exact⟨r,by rw[Qlq,this]⟩
   obtain⟨yr,M⟩:∃r,ys.toList=.str (fs.getD j "") ty::r:=by
    cases e:ys.toList with
    |nil=>have:=congrArg (·[0]?) e;simp[Z] at this
    |cons v r=>have:=congrArg (·[0]?) e;simp[Z] at this;exact⟨r,by rw[Qlq,this]⟩
   rw[Y,M,List.zip_cons_cons]
   refine kat_cons (wpAny_eqBool_str ?_)
   rw[Qdq N]
   exact kat_no (oneLt_str hC)
def u6{l:Addr}{vs:List Value}{fs:List Str}{Q:Value->Shared->Prop}(i:s.heap.IsList l vs.toArray)(j:vs.length<=3)(ht:eh s.heap vs fs)(hd:fs.Nodup)
  (q:∀a:Array Value,a.toList=sortBy fs Value.none vs->Q (.ref (s.heap.objs.size+1)) {s with heap:=sortedAll s.heap vs a}):wpAny (model prog w) A (call (.builtin "sorted") [.ref l]) Q E s:=by
 refine Calls.call_function_entry kind_sorted plain_sorted entry_sorted (args_sorted1 _) ?_
 unfold Builtin.«sorted»
 refine Qaq (m:=checkCount "sorted" 1 1 _) (Qgq (Qaq (collect_list i (Qaq (wpAny_newList ?_ (by rw[sizeLine_eq];omega))) (by rw[sizeLine_eq];omega))))
 have d:((s.heap.push (seqObj "list" #[] 0)).update s.heap.objs.size (Obj.mapSeq (·++vs.toArray))).objs.size=s.heap.objs.size+1:=by rw[Heap.size_update,size_push']
 have f:(((s.heap.push (seqObj "list" #[] 0)).update s.heap.objs.size (Obj.mapSeq (·++vs.toArray))).push (seqObj "list" vs.toArray 0)).get? (s.heap.objs.size+1)=some (seqObj "list" vs.toArray 0):=by
  rw[←d]
  exact Qrq _ rfl
 have c:eh (((s.heap.push (seqObj "list" #[] 0)).update s.heap.objs.size (Obj.mapSeq (·++vs.toArray))).push (seqObj "list" vs.toArray 0)) vs fs:=ht.keep λb o e _=>by
  have h:b<s.heap.objs.size:=Qiq e
  refine Qcq _ ?_
  rw[Heap.get?_update_ne _ _ _ _ (Qwq h)]
  exact Qcq _ e
 refine(?_:wpAny _ _ _ _ _ {s with heap:=((s.heap.push (seqObj "list" #[] 0)).update s.heap.objs.size (Obj.mapSeq (·++vs.toArray))).push (seqObj "list" vs.toArray 0)})
 rw[d]
 refine Qaq (QLq (wpAny_call_entry slot_list_sort ⟨_,f,rfl⟩ entry_list_sort (yY f j c hd λa g=>⟨_,rfl,?_⟩) (args_list_sort _)))
 exact Qgq ⟨_,rfl,q a g⟩
end
end Zp
namespace L2
open PySem PySem.Spec PyProof.Rows
section
variable{X:Cx}
def Fv(K:PySem.W.Frag):List V->Hp->VK->Prop:=λd H Q=>∃(a:Addr) (b:List Addr) (c:List Str),d= [.ref a]/\iM K H a (b.map V.ref)/\b.length<=3/\tX H b c/\c.Nodup/\∀(l:Addr),H l=none->Q (.ref l) (upd H l (.lst ((Zp.sortBy c 0 b).map V.ref)))
def sO:gL X (.builtin "sorted") (Fv X.K):=by
 intro l s C H B A Q I r h
 obtain⟨a,c,g,rfl,ha,h3,hF,hd,q⟩:=h
 obtain⟨u,rfl,rx⟩:=vals1 r
 cases (show u=Value.ref a from rx)
 obtain⟨w,y,v,G⟩:=I.list ha
 cases t6 y
 have j:s.heap.objs.size<=s.heap.objs.size+1:=Nat.le_succ _
 refine Zp.u6 v.isList (by simpa using h3) (xS I hF) hd λd m=> ?_
 have p:d.toList=(Zp.sortBy g 0 c).map Value.ref:=by
  rw[m]
  unfold Zp.sortBy
  rw[lQm]
  split
  ·rfl
  ·rename_i F
   rw[QPq]
   obtain⟨_,k⟩:=Zp.pQ c.length h3 (by omega)
   have f:(Zp.fY (Zp.Ep g) (PySem.W.kas_sort c.length)).toList.Perm (List.range c.length):=List.isPerm_iff.mp (QUq.mp k _ (Zp.g9 _ _))
   refine List.map_congr_left λi n=> ?_
   have t:i<c.length:=List.mem_range.mp (f.mem_iff.mp n)
   show(c.map Value.ref).getD i Value.none=Value.ref (c.getD i 0)
   rw[Qlq,Qlq,gQm,gQe t]
   rfl
 obtain⟨e,z⟩:=sortedAll_at s.heap (c.map Value.ref) d
 refine⟨.ref (s.heap.objs.size+1),_,I.laid (a:=s.heap.objs.size+1) (o:=.lst ((Zp.sortBy g 0 c).map V.ref)) (h':=sortedAll s.heap (c.map Value.ref) d) (t':=s.toks) (λb o x=>sortedAll_old x) j ⟨?_,d.toList,e,?_,?_⟩,rfl,q _ (I.hok.fresh j)⟩
 ·rw[lQm,(Zp.iA g c h3).length_eq]
  exact QAq h3 (by decide)
 ·have:=rV (Zp.sortBy g 0 c)
  rw[←p] at this
  exact this
 ·simpa using z
end
end L2
namespace DL
open PySem PySem.Spec PyProof.Rows L2
end DL
namespace L2
open PySem PySem.Spec PyProof.Rows
end L2
namespace DL
open PySem PySem.Spec L2
section
variable{X:Cx}{a b e:Expr}{pos:Pos}
def xE:List D->Option (List Str)
 | []=>some []
 |.tup (.str x::_)::r=>(xE r).bind λc=>some (x::c)
 |_::_=>none
theorem wK{M:Md}{ρ:List Addr}{H:Hp}:∀{ds:List D} {vs:List V} {xs:List Str},a_ M ρ H ds vs->xE ds=some xs->∃c:List Addr,vs=c.map V.ref/\tX H c xs
 | [],_,_,h,e=>by cases h;cases e;exact⟨[],rfl,.nil⟩
 | .tup (.str x::us)::r,_,_,h,e=>by
   simp only[xE] at e
   obtain⟨g,f,e⟩:=ar e
   cases e
   cases h with
   | cons h i=>
     cases h with
     | tup h d=>
       obtain⟨c,rfl,F⟩:=wK i f
       cases d with
       | cons j d=>
         cases j
         exact⟨_::c,rfl,.cons h F⟩
 |.tup (.non::_)::_,_,_,_,e=>by cases e
 |.tup (.bl _::_)::_,_,_,_,e=>by cases e
 |.tup (.int _::_)::_,_,_,_,e=>by cases e
 |.tup (.tup _::_)::_,_,_,_,e=>by cases e
 |.tup (.ref _::_)::_,_,_,_,e=>by cases e
 |.tup (.fn _::_)::_,_,_,_,e=>by cases e
 |.tup []::_,_,_,_,e=>by cases e
 |.non::_,_,_,_,e=>by cases e
 |.bl _::_,_,_,_,e=>by cases e
 |.int _::_,_,_,_,e=>by cases e
 |.str _::_,_,_,_,e=>by cases e
 |.ref _::_,_,_,_,e=>by cases e
 |.fn _::_,_,_,_,e=>by cases e
def qF(c:List Str)(ds:List D):List D:=Zp.sortBy c .non ds
def yG{α l:Type}{R:α->l->Prop}{m:List Str}{xs:List α}{ys:List l}{d:α}{d':l}(p:xs.length=ys.length)(s:xs.length<=3)(h:∀(i:Nat) (x:α),xs[i]?=some x->∃y,ys[i]?=some y/\R x y):
  ∀(i:Nat) (x:α),(Zp.sortBy m d xs)[i]?=some x->∃y,(Zp.sortBy m d' ys)[i]?=some y/\R x y:=by
 intro i x e
 unfold Zp.sortBy at *
 rw[←p]
 split at e
 ·rename_i c;rw[Qhq c];exact h i x e
 ·rename_i t
  obtain⟨_,g⟩:=Zp.pQ xs.length s (by omega)
  have f:(Zp.fY (Zp.Ep m) (PySem.W.kas_sort xs.length)).toList.Perm (List.range xs.length):=List.isPerm_iff.mp (QUq.mp g _ (Zp.g9 _ _))
  rw[gQm] at e
  obtain⟨k,n,e⟩:=oQm.mp e
  have j:k<xs.length:=List.mem_range.mp (f.mem_iff.mp (mQg n))
  have q:xs[k]?=some x:=by
   rw[Qlq,gQe j] at e
   rw[gQe j]
   exact congrArg some e
  obtain⟨y,o,r⟩:=h k x q
  refine⟨y,?_,r⟩
  rw[Quq (by omega),gQm,n]
  simp[Qlq,o]
theorem a_.of_get{M:Md}{ρ:List Addr}{H:Hp}:∀{ds:List D} {vs:List V},ds.length=vs.length->(∀(i:Nat) (d:D),ds[i]?=some d->∃v,vs[i]?=some v/\Rel M ρ H d v)->a_ M ρ H ds vs
 | [],[],_,_=>.nil
 | [],_::_,h,_=>by cases h
 |_::_,[],h,_=>by cases h
 | d::ds,v::vs,h,g=>by
   obtain⟨f,e,r⟩:=g 0 d rfl
   cases e
   exact .cons r (a_.of_get (Nat.succ.inj h) λi d c=>by
     obtain⟨v,e,r⟩:=g (i+1) d (by simpa using c)
     exact⟨v,by simpa using e,r⟩)
def vm(f:fE):gW:=λd S=>(f d S).bind λ(p,g)=>if p.2.isL=true then(xE p.1).bind λc=>if p.1.length<=3/\c.Nodup then some (qF c p.1,g) else none else none
def Bb{f:fE}{p:Pos}(J:Gl X "sorted")(Y:X.mg "sorted"=none)(M:PE X a (tQ (md X) f))(A:starEach [a] X.env= [(false,eval a X.env)]:=by rfl):
  PE X (.Call (.Name "sorted" p) [a] [] pos) (tL (md X) (vm f)):=
 j2 (d_ sO J Y PyProof.Rows.boot_sorted (dG M gF A) (he:=A)) λσ H Q W=>by
  obtain⟨P,N,S,d,S',ok,e,q⟩:=W
  obtain⟨⟨⟨j,t⟩,K⟩,I,e⟩:=ar e
  dsimp only at e
  split at e
  ·rename_i c
   obtain⟨k,G,e⟩:=ar e
   split at e
   ·rename_i s
    obtain⟨rfl,rfl⟩:=cx e
    refine⟨P,N,S,j,t,K,ok,I,λu a Z C x B h r=> ?_⟩
    obtain⟨m,rfl,F⟩:=wK r G
    have z:j.length=m.length:=by have:=r.length;simpa using this
    refine⟨a,m,k,rfl,h.sqL c,by omega,F,s.2,λl g=> ?_⟩
    refine q _ _ _ _ (x.trans (b9.laid g)) (B.lay g) (x.grow _ g) (fh x B g) bQ (a_.ext (b9.laid g) ?_)
    refine a_.of_get ?_ λi d o=> ?_
    ·rw[lQm]
     unfold qF
     rw[(Zp.iA k j s.1).length_eq,(Zp.iA k m (by omega)).length_eq,z]
    ·obtain⟨y,n,U⟩:=yG (R:=λ(d:D) (a:Addr)=>Rel (md X) u C d (.ref a)) (d':=0) z s.1 (λi d o=>by
      obtain⟨v,w,L⟩:=r.get o
      rw[gQm] at w
      obtain⟨y,n,rfl⟩:=oQm.mp w
      exact⟨y,n,L⟩) i d o
     exact⟨.ref y,by rw[gQm,n];rfl,U⟩
   ·cases e
  ·cases e
end
def Av{P:Program}{w:World}{K:PySem.W.Frag}{mg:Str->Option Value}{base:Heap}{f:Addr}{d:FuncData}{ps:List Str}{k n:Nat}:bC P w K mg base d0 k f d ps (eM ⟨K,mg⟩ n λ_ _=>none):=
 {len:=λc H Q E h=>by
   obtain⟨_,_,_,_,_,_,_,_,e,_⟩:=h
   cases e
  run:=λA a s H b g c Q E _ _ _ _ h=>by
   obtain⟨_,_,_,_,_,_,_,_,e,_⟩:=h
   cases e}
end DL
namespace Zq
open PySem PyProof.Rows
def FO{prog:Program}{w:World}{A:Around}(k:A.handled=none)(t:Bool)(it a:Addr)(f:a≠it)(items:Array Value):
  Draws prog w A it [it,a] items.size (λi v=>items[i]?=some v) (λi h=>It t h it a i/\Sq t h a items) where
 live:=λ_ _ b=>by obtain⟨o,h,_⟩:=b.1.obj;exact⟨o,h⟩
 frame:=λ_ _ _ b j=>⟨b.1.at λo e=>j it (by simp) o e,b.2.at λo e=>j a (by simp) o e⟩
 item:=λi s Q E g b l=>draw b.1 b.2 (v:=items[i]) (by simp[g]) λm d c=>l _ m s.toks (by simp[g]) ⟨d,b.2.ext c.extBut f⟩ c
 done:=λs Q E b n=>Ak k b.1 b.2 (by simp) n
def DP{prog:Program}{w:World}{A:Around}(d:A.handled=none)(t:Bool)(it a:Addr)(items:Array Value)(k:Nat)(c:items.size<=k):
  Draws prog w A it [it,a] k (λi v=>items[i]?=some v) (λi h=>i=k/\It t h it a k/\Sq t h a items) where
 live:=λ_ _ b=>by obtain⟨o,h,_⟩:=b.2.1.obj;exact⟨o,h⟩
 frame:=λ_ _ _ b c=>⟨b.1,b.2.1.at λo e=>c it (by simp) o e,b.2.2.at λo e=>c a (by simp) o e⟩
 item:=λi s Q E f b j=>absurd b.1 (Qwq f)
 done:=λs Q E b g=>Ak d b.2.1 b.2.2 (by simp[c]) g
abbrev E2(t:Bool)(h:Heap)(a:Addr):Heap:=(H1 t h a).push {cls:=.type "enumerate",data:=.fields #[.none,.bool false,.ref h.objs.size,rawInt 0,.none,.none]}
def yJ(t:Bool)(a:Addr)(xs:Array Value):Meets (Builtin.«enumerate.__new__» ⟨[.type "enumerate",.ref a],[]⟩) (λ_ R s=>Sq t s.heap a xs/\R (.ok (.ret (.ref (H1 t s.heap a).objs.size))) {s with heap:=E2 t s.heap a}):=
 .of_wp λi w A R s h=>by
  obtain⟨e,g,d,l,f⟩:=s
  obtain⟨j,h⟩:=h
  have k:=sub_enumerate
  cases t
  ·have b:Heap.IsList (Shared.heap ⟨e,g,d,l,f⟩) a xs:=j
   wp_walk
   refine wpAny_stack_any λm=>Qgq ?_
   split
   ·rename_i c _ _ _ _ _
    cases (c==Value.type "enumerate")
    ·wp_walk using wpAny_pyIter_list b
     exact⟨_,rfl,h⟩
    ·wp_walk using wpAny_pyIter_list b
     exact⟨_,rfl,h⟩
   ·wp_walk using wpAny_pyIter_list b
    exact⟨_,rfl,h⟩
  ·have b:Heap.IsTuple (Shared.heap ⟨e,g,d,l,f⟩) a xs:=j
   wp_walk
   refine wpAny_stack_any λm=>Qgq ?_
   split
   ·rename_i c _ _ _ _ _
    cases (c==Value.type "enumerate")
    ·wp_walk using wpAny_pyIter_tuple b
     exact⟨_,rfl,h⟩
    ·wp_walk using wpAny_pyIter_tuple b
     exact⟨_,rfl,h⟩
   ·wp_walk using wpAny_pyIter_tuple b
    exact⟨_,rfl,h⟩
section
variable{prog:Program}{w:World}{A:Around}{E:Value->Shared->Prop}{s:Shared}
def Jf{t:Bool}{a:Addr}{xs:Array Value}{Q:Value->Shared->Prop}(g:Sq t s.heap a xs)
  (q:∀h',IsEnum h' (s.heap.objs.size+1) s.heap.objs.size 0 .none->It t h' s.heap.objs.size a 0->(∀c o,s.heap.get? c=some o->h'.get? c=some o)->Q (.ref (s.heap.objs.size+1)) {s with heap:=h'}):
  wpAny (model prog w) A (call (.type "enumerate") [.ref a]) Q E s:=by
 refine callType_new F.called_enumerate (by decide) (F.typeCall_enumerate_1 _) (F.newCall_enumerate_1 _) (λd=>F.args_object_init_2 d _) F.entry_enumerate_new (yJ t a xs) ⟨g,?_⟩
 have e:(H1 t s.heap a).objs.size=s.heap.objs.size+1:=Heap.size_push ..
 have b:(E2 t s.heap a).get? (H1 t s.heap a).objs.size=some _:=Qrq _ rfl
 have f:(E2 t s.heap a).get? s.heap.objs.size=some _:=Qcq _ (Qrq _ rfl)
 refine(?_:_/\_)
 rw[e] at b
 rw[e]
 refine⟨⟨_,b,rfl⟩,q _ b ?_ λc o n=>Qcq _ (Qcq _ n)⟩
 cases t <;>exact⟨_,f,rfl,rfl⟩
end
end Zq
namespace L2
open PySem PyProof.Rows Zq
def Li(K:PySem.W.Frag)(t:Bool)(a:Addr):It:=
  ⟨λi H=>∃b x,xn K t H a b/\b[i]?=some x,
   λi H v c=>∃p,v=.ref p/\H p=none/\∀b x,xn K t H a b->b[i]?=some x->c=upd H p (.tup [.int (i:Nat),x]),
   λi H=>∃b,xn K t H a b/\b.length<=i⟩
def A9{P:Program}{w:World}{K:PySem.W.Frag}{m:List Expr}{x1:Nat}{tp:Pos}{t:Bool}{e it a:Addr}(l:e≠it)(N:a≠e)(R:a≠it):
  Turn P w K (.Tuple m x1 tp) (Li K t a) [e,it] e (λn h=>(∃d,IsEnum h e it (n:Nat) d)/\Zq.It t h it a n) where
 mem:=by simp
 obj:=λn h ⟨⟨d,f⟩,i⟩ c b=>by
  simp at b
  rcases b with rfl|rfl
  ·exact⟨_,f,λv n=>by cases n⟩
  ·exact i.obj
 keep:=λn h h' ⟨⟨d,f⟩,i⟩ k=>⟨⟨d,k e (by simp) _ f⟩,i.at λo e=>k it (by simp) o e⟩
 item:=by
  rintro X p F B b n j s Y H E I u ⟨⟨d,f⟩,i⟩ L
  subst p F B
  obtain⟨xs,x,y,M⟩:=L
  obtain⟨g,z,Q,_⟩:=I.sq y
  obtain⟨ux,ex,rx⟩:=z.get M
  have U:∀{c o},s.heap.get? c=some o->c≠s.heap.objs.size:=λe=>Qwq (Qiq e)
  have r:∀c∈[e,it],c≠s.heap.objs.size:=λc b=>by
   obtain⟨oi,e1,_⟩:=i.obj
   simp at b
   rcases b with rfl|rfl
   ·exact U f
   ·exact U e1
  have S:n<g.toArray.size:=by
   have:=(gQs.mp ex).1
   simpa using this
  refine wpAny_pyNext_enum_itemD (FO (A:=X.A.in1) (I.ok.hd b) t it a R g.toArray) f ⟨i,Q⟩ S l (by simp[l,Ne.symm N]) λZ h1 tk p ho G hT a1 hk=>⟨_,rfl,?_⟩
  obtain rfl:Z=ux:=by
   have:=p
   simp only[List.getElem?_toArray] at this
   rw[ex] at this
   exact(QdQ this).symm
  refine wpAny_letOwnedTupleGo_enum ho λh2 e2 C=> ?_
  have I2:Inv X j Y (upd H s.heap.objs.size (.tup [.int (n:Nat),x])) {s with heap:=h2,toks:=tk+1}:=I.turnedNew (t':=tk+1) (fp:= [e,it]) u (λc o b q=> ?_) (Qmq _) ?_
  ·refine⟨.ref s.heap.objs.size,_,I2,rfl,⟨s.heap.objs.size,rfl,I.hok.fresh (Qmq _),λa0 Z q1 J=> ?_⟩,⟨⟨_,by simpa using e2⟩,G.1.ext C.extBut (Ne.symm l)⟩,λc b=> ?_⟩
   ·rw[I.sq_inj q1 y] at J
    rw[M] at J
    cases J
    rfl
   ·rw[bj (r c b)]
    exact(u c b).1
  ·simp at b
   exact C.extBut _ _ b.1 (hk c o b.1 b.2 q)
  ·exact⟨by show 2<=_;decide,[_,_],.cons ⟨_,rfl⟩ (.cons rx .nil),_,C.extBut _ _ (λq=>r e (by simp) q.symm) hT,rfl,rfl,0,rfl⟩
 done:=by
  rintro X p F B b n j s Y H E I u ⟨⟨d,f⟩,i⟩ L
  subst p F B
  obtain⟨xs,y,M⟩:=L
  obtain⟨g,z,Q,_⟩:=I.sq y
  have hl:=z.length
  refine wpAny_pyNext_enum_endD (DP (A:=X.A.in1) (I.ok.hd b) t it a g.toArray n (by simp;omega)) f ⟨rfl,i,Q⟩ λh1 r1=>⟨rfl,I.turnedL (t':=s.toks) (fp:= [e,it]) u λc o b q=> ?_⟩
  simp at b
  exact r1 c o b.2 q
 self:=λ_ _ _ _ _ ⟨⟨d,f⟩,_⟩ h=>wpAny_pyIter_enum f h
section
variable{X:Cx}
def IB(K:PySem.W.Frag)(d:TA):TI:=λe H R=>d e H λb H1=>∃(t:Bool) (a:Addr) (c:List V),b= [.ref a]/\xn K t H1 a c/\R (Li K t a) H1
def ES{b:List Expr}{u:Nat}{G:Pos}{a:Expr}{j:TA}{p pos:Pos}(y:Gl X "enumerate")(M:X.mg "enumerate"=none)(A:PA X [a] j)(L:starEach [a] X.env= [(false,eval a X.env)]:=by rfl):
  PI X (.Tuple b u G) (.Call (.Name "enumerate" p) [a] [] pos) (IB X.K j):=by
 intro d s w H R I h
 refine Call_ (j8 I y M (by rfl) (PyProof.Rows.callWith_type1 (cP (A pos d s w H _ I h) λN f ⟨P,H1,g,C,F⟩=> ?_) L rfl))
 obtain⟨t,x,Q,e,J,q⟩:=F
 subst e
 cases C with
 | cons r v=>
   cases v
   cases r
   obtain⟨z,S,o,_⟩:=g.sq J
   have l:=Sq.lt o
   refine Zq.Jf o λU n B k=> ?_
   refine wpAny_pyIter_enum n ⟨_,_,_,_,H1,rfl,g.kept (t':=f.toks) k,A9 (e:=f.heap.objs.size+1) (it:=f.heap.objs.size) (Nat.succ_ne_self _) (Qwq (Nat.lt_succ_of_lt l)) (Qwq l),⟨⟨_,n⟩,B⟩,λc i=> ?_,q⟩
   have m:f.heap.objs.size<=c:=by
     simp only[Qsq,QXq,or_false] at i
     rcases i with e|e <;>(rw[e];first|exact Qmq _|exact Nat.le_add_right _ _)
   exact g.fpOk m (g.hok.fresh m)
end
end L2
namespace DL
open PySem PySem.Spec L2
def mh(n:Nat):List D->List D
 | []=> []
 |d::ds=>.tup [.int n,d]::mh (n+1) ds
theorem nk:∀{ds:List D} {n i:Nat} {d:D},(mh n ds)[i]?=some d->∃x,ds[i]?=some x/\d=.tup [.int ((n+i:Nat)),x]
 | [],_,_,_,h=>by simp[mh] at h
 | x::ds,n,0,d,h=>by
   simp only[mh,List.getElem?_cons_zero,Option.some.injEq] at h
   exact⟨x,rfl,h.symm⟩
 | x::ds,n,i+1,d,h=>by
   simp only[mh,List.getElem?_cons_succ] at h
   obtain⟨y,a,b⟩:=nk h
   exact⟨y,by simpa using a,by rw[b];congr 3;omega⟩
theorem nR:∀{ds:List D} {n:Nat},(mh n ds).length=ds.length
 | [],_=>rfl
 |_::_,_=>congrArg (·+1) nR
def Aw(f:fE):vT:=λa S=>(f a S).bind λ(p,b)=>some ((mh 0 p.1,λS=>p.2.stays S p.1),b)
section
variable{X:Cx}{a:Expr}{pos:Pos}
def GG{b:List Expr}{j:Nat}{Q p:Pos}{f:fE}(C:Gl X "enumerate")(hm:X.mg "enumerate"=none)(K:PE X a (tQ (md X) f))(s:starEach [a] X.env= [(false,eval a X.env)]:=by rfl):
  PI X (.Tuple b j Q) (.Call (.Name "enumerate" p) [a] [] pos) (tI (md X) (Aw f)):=Kl (ES C hm (dG K gF s) s) λσ H R ⟨P,L,S,ds,W,S',ok,e,q⟩=>by
 obtain⟨⟨⟨k,N⟩,G⟩,A,e⟩:=ar e
 obtain⟨Y,rfl⟩:=cx e
 obtain⟨rfl,rfl⟩:=Prod.mk.inj Y
 refine⟨P,L,S,k,N,G,ok,A,λt Z g H1 j m r M=> ?_⟩
 refine⟨_,Z,g,rfl,r.sqB,q _ _ _ j m λi J S3 H3 U c w=> ?_⟩
 obtain⟨h,l,n⟩:=r.to M U c w
 refine⟨λd I=> ?_,λz=>⟨h,l.sqB,?_⟩⟩
 ·obtain⟨x,F,rfl⟩:=nk I
  obtain⟨u,o,y⟩:=n.get F
  refine⟨⟨h,u,l.sqB,o⟩,λv H4 B=> ?_⟩
  obtain⟨p,rfl,hp,hq⟩:=B
  have:=hq h u l.sqB o
  subst this
  refine⟨b9.laid hp,c.lay hp,.tup bQ ((a_.cons ?_ (.cons y .nil)).ext (b9.laid hp))⟩
  rw[Nat.zero_add]
  exact .int _
 ·rw[z,nR,n.length]
  exact Qmq _
end
structure AK(P:Program)(w:World)(K:PySem.W.Frag)(mg:Str->Option Value)(x:Str)(tbl:List (Str×Str)):Prop where
 at_:∃a,mg x=some (.ref a)/\∀h:Heap,K.In h->∃vs,h.DictOf (bN P w) a vs/\∀k nm,tbl.lookup k=some nm->∃f,valueAt vs (Sum.inr k:Key)=some (.ref f)/\mg nm=some (.ref f)
section
variable{X:Cx}{a b c e:Expr}{pos:Pos}
def Kc(d:List (Str×Str))(g:bA):bA:=λh S=>(g h S).bind λ(y,i)=>match y with
 |.str x=>(d.lookup x).bind λf=>some (.fn f,i)
 |_=>none
def Fx{x:Str}{j:List (Str×Str)}{g:bA}{p:Pos}(hD:AK X.prog X.w X.K X.mg x j)(W:Gl X x)(Y:PE X b (tD (md X) g))(hs:Fc b)(hd:(x==("__debug__":Str))=false:=by decide):
  PE X (.Subscript (.Name x p) b pos) (tD (md X) (Kc j g)):=by
 rintro i s P H Q I ⟨B,Γ,S,d,S',ok,e,q⟩
 obtain⟨a,hm,L⟩:=hD.at_
 obtain⟨⟨y,u⟩,M,e⟩:=ar e
 cases y with
 | str z=>
   obtain⟨J,G,e⟩:=ar e
   obtain⟨rfl,rfl⟩:=cx e
   refine zW PySem.F.slot_dict_getitem.lookup hs (u9 I W hm ?_ hd)
   refine cP (Y i s P H (λv l=>∃h,b9 B H h l/\fF (md X) h u l/\Rel (md X) h l (.str z) v) I ⟨B,Γ,S,_,u,ok,M,λh v l x st r=>⟨h,x,st,r⟩⟩) λiv s2 qr=> ?_
   obtain⟨v,H2,A,Z,h,x2,n,N⟩:=qr
   obtain⟨vs,t,R⟩:=L _ A.kIn
   obtain⟨f,C,m⟩:=R z J G
   cases N
   have ty:s2.TypeIs (.ref a) "dict":=by
     obtain⟨o,es,ep,h1,U,h3,_⟩:=t
     exact⟨o,h1,U.1⟩
   refine⟨ty,wpAny_getItem_of (vW (k:=Sum.inr z) Z) t.mapOf C ?_⟩
   exact⟨.ref f,H2,A.tok _,rfl,q _ _ _ x2 n (.fn m)⟩
 |_=>cases e
def rf(i:Nat)(T:List (Str×dE))(g:gW):bA:=λd S=>match d[i]? with
 |some (some (.fn x))=>(T.lookup x).bind λF=>aF F g d S
 |_=>none
def E5{i k:Nat}{y:Str}{ps:List Str}{T:List (Str×dE)}{j:List Expr}{g:gW}{p:Pos}(hT:∀x F,T.lookup x=some F->fG X.prog X.w X.K X.mg X.base k x ps F)(hr:eG k X.A)(hN:X.N[i]?=some y)(hv:F_ X.env.scope y)
  (ha:PA X (e::j) (wF (md X) g)) (R:nA ps.length g) (B:(y==("__debug__":Str))=false:=by decide) (z:(y==("__classdict__":Str))=false:=by decide) (he:starEach (e::j) X.env=(false,eval e X.env)::starEach j X.env:=by rfl) (hpl:(backTo pos (starEach j X.env)).any (·.1)=false:=by rfl):
  PE X (.Call (.Name y p) (e::j) [] pos) (tD (md X) (rf i T g)):=by
 rintro h s o H Q I ⟨ρ,Γ,S,d,S',ok,e,q⟩
 unfold rf at e
 split at e
 ·rename_i x hx
  obtain⟨F,n,e⟩:=ar e
  obtain⟨f,fd,G,bb,P,m⟩:=(hT x F n).ex
  obtain⟨v,t,rv⟩:=ok.en.get i _ hx
  cases rv with
  | fn hm=>
    have C:(md X).mg x=some (.ref f):=m
    rw[hm] at C
    cases C
    refine wpAny_Call_Name_kw (cP (CS hN hv B z h s o H (λJ l=>J=.ref f/\l=H) I ⟨_,t,rfl,rfl⟩) λu M qr=> ?_)
    obtain⟨J,l,U,r1,n,Y⟩:=qr
    subst n Y
    cases (show u=Value.ref f from r1)
    refine PySem.W.callWith_K (h₀:=X.base) I.ok.mod.kin P (cP (ha pos h M o l _ U (zI R o l Q ⟨ρ,Γ,S,d,S',ok,e,q⟩)) λus s2 ⟨vs,H1,L,r,Z⟩=>⟨L.kIn,?_⟩) he hpl
    exact C0 G hr bb .nil CY L r Z
 ·cases e
end
def yO(w:World)(x:Str):PyData.keyHash w.params x=hashStr w x:=by
 unfold PyData.keyHash hashStr
 first|rfl|simp
inductive Al(w:World)(mg:Str->Option Value):List DictEntry->List (Str×Str)->Prop
 |nil:Al w mg [] []
 |cons {x nm:Str} {t:Tok} {f:Addr} {es:List DictEntry} {tbl:List (Str×Str)}:mg nm=some (.ref f)->Al w mg es tbl->Al w mg (⟨PyData.keyHash w.params x,.str x t,.ref f⟩::es) ((x,nm)::tbl)
def Al.keys{P:Program}{w:World}{mg:Str->Option Value}{b:List DictEntry}{a:List (Str×Str)}(c:Al w mg b a):∀e∈b,∃k,(bN P w).is k e.key=true/\e.hash=(bN P w).hash k:=by
 induction c with
 |nil=>intro e h;cases h
 | @cons x nm t f b a hm c ih=>
   intro e h
   rcases Qsq.mp h with rfl|h
   · exact⟨Sum.inr x,nN x t,yO w x⟩
   · exact ih e h
def Al.pairs{P:Program}{w:World}{mg:Str->Option Value}{b:List DictEntry}{a:List (Str×Str)}(e:Al w mg b a):∃vs:List (Key×Value),Pairs (bN P w) b vs/\vs.map (·.1)=a.map (λp=>Sum.inr p.1)∧
  ∀k nm,a.lookup k=some nm->∃f,valueAt vs (Sum.inr k:Key)=some (.ref f)/\mg nm=some (.ref f):=by
 induction e with
 |nil=>exact⟨[],.nil,rfl,λk nm h=>by cases h⟩
 | @cons x nm t f b a hm e ih=>
   obtain⟨vs,m,j,o⟩:=ih
   refine⟨(Sum.inr x,.ref f)::vs,.cons (nN x t) rfl m,by simp[j],λk n h=> ?_⟩
   by_cases c:k=x
   · subst c
     rw[List.lookup_cons_self] at h
     cases h
     refine⟨f,?_,hm⟩
     unfold valueAt
     rw[List.find?_cons_of_pos (by simp)]
     rfl
   · have l:(k==x)=false:=by simpa using c
     rw[List.lookup_cons,l] at h
     obtain⟨g,d,i⟩:=o k n h
     refine⟨g,?_,i⟩
     unfold valueAt at d⊢
     rw[List.find?_cons_of_neg]
     · exact d
     · intro z
       have:(Sum.inr x:Key)=Sum.inr k:=by simpa using z
       exact c (Sum.inr.inj this).symm
def Cm{P:Program}{w:World}{K:PySem.W.Frag}{mg:Str->Option Value}{x:Str}{c:List (Str×Str)}{a:Addr}{d:List DictEntry}{m:Nat}(r:mg x=some (.ref a))(l:K.lookup a=some ⟨.type "dict",none,.dict d.toArray m,#[]⟩)(f:Al w mg d c)(nd:(c.map (·.1)).Nodup):AK P w K mg x c:=by
 obtain⟨g,j,i,o⟩:=f.pairs (P:=P)
 refine⟨a,r,λh k=>⟨g,⟨_,_,_,k _ _ l,⟨rfl,rfl,rfl⟩,rfl,λe q=>f.keys e (by simpa using q),by simpa using j,?_⟩,o⟩⟩
 rw[i]
 have:c.map (λp=>(Sum.inr p.1:Key))=(c.map (·.1)).map Sum.inr:=by rw[QPq];rfl
 rw[this]
 exact List.Pairwise.map _ (λa b n e=>n (Sum.inr.inj e)) nd
theorem DK{P:Program}{w:World}{K:PySem.W.Frag}{mg:Str->Option Value}{base:Heap}{k:Nat}{ps:List Str}:∀{T:List (Str×dE)},(∀p∈T,fG P w K mg base k p.1 ps p.2)->∀x F,T.lookup x=some F->fG P w K mg base k x ps F
 | [],_,x,F,h=>by cases h
 | p::T,g,x,F,h=>by
   by_cases c:x=p.1
   · subst c
     rw[List.lookup_cons_self] at h
     cases h
     exact g p (QBq ..)
   · have a:(x==p.1)=false:=by simpa using c
     rw[List.lookup_cons,a] at h
     exact DK (λq b=>g q (Qpq _ b)) x F h
def ye:Sp:=λc H Q _=>∃(a:Addr) (b:List Int) (o:Obj),c= [.ref a]/\H a=some (.frz o (.lst (b.map V.int)))/\b.length<=63/\∀d,Q (.bl true) d
theorem uf{M:Md}{ρ:List Addr}{H:Hp}:∀ns:List Int,a_ M ρ H (ns.map D.int) (ns.map V.int)
 | []=>.nil
 |s::ss=>.cons (.int s) (uf ss)
def FN{P:Program}{w:World}{K:PySem.W.Frag}{mg:Str->Option Value}{base:Heap}{k:Nat}{f:Addr}{i:FuncData}{ps:List Str}{F:dE}(G:bC P w K mg base d0 k f i ps (eM ⟨K,mg⟩ 1 F))
  (h:∀ns:List Int,ns.length<=63->∃c,F [.ref 0] [.frz (ns.map D.int)]=some (.d (.bl true),c)):bC P w K mg base d0 k f i ps ye:=
 G.imp λu H Q E p=>by
  obtain⟨a,ns,o,e,n,l,q⟩:=p
  subst e
  obtain⟨c,e⟩:=h ns l
  refine⟨[a],[.frz (ns.map D.int)],[.ref 0],_,c,rfl,.cons (.ref rfl) .nil,⟨rfl,by simp,λk b t g m=> ?_⟩,e,λs v j x y r=> ?_⟩
  ·cases k with
   |zero=>cases g;cases m;exact⟨_,o,n,uf ns⟩
   |succ k=>simp at g
  ·cases r
   exact q j
def zf(K:PySem.W.Frag):Bool:=K.all λp=>match p.2.data with|.seq _ _=>(match p.2.cls with|.type s=>s !="list" |_=>true)|_=>true
def Bn{K:PySem.W.Frag}(h:zf K=true){a:Addr}{o:Obj}(e:K.lookup a=some o){f:Array Value}{n:Nat}(hd:o.data=.seq f n):o.cls≠.type "list":=by
 intro i
 have d:∀(K:List (Addr×Obj)),K.all (λp=>match p.2.data with|.seq _ _=>(match p.2.cls with|.type s=>s !="list" |_=>true)|_=>true)=true->K.lookup a=some o->False:=by
  intro K
  induction K with
  |nil=>intro _ e;cases e
  | cons p K k=>
    intro h e
    rw[List.all_cons,QCq] at h
    obtain⟨b,q⟩:=p
    rw[List.lookup_cons] at e
    by_cases c:a=b
    · subst c
      simp only[BEq.rfl] at e
      cases e
      have g:=h.1
      simp only[hd,i] at g
      simp at g
    · have j:(a==b)=false:=by simpa using c
      rw[j] at e
      exact k h.2 e
 exact d K h e
def Jq{K:PySem.W.Frag}{H:Hp}{a:Addr}{ns:List Int}(c:zf K=true)(e:ns.length<=63)(d:Et H)(b:iM K H a (ns.map V.int)):ye [.ref a] H (λv _=>v=.bl true) λ_ _ _=>False:=by
 rcases b with(h|⟨o,h⟩)|⟨o,its,n,h,hc,_,hd,_⟩
 ·rcases d a with z|⟨o,f,z⟩
  ·rw[h] at z;cases z
  ·rw[h] at z;cases z
 ·exact⟨a,ns,o,rfl,h,e,λ_=>rfl⟩
 ·exact absurd hc (Bn c h hd)
def xx{l:PySem.W.OpenLaw}{q:Program}{b:List Str}{r:(Str->Option Value)->Heap->Prop}{e:World->Heap->Prop}{d:DefRec}{K:Params->PySem.W.Frag}{k:Nat}(j:l.most=some 63)(c:d.params.defaults= [])(p:eG k PySem.callerA)
  (y:∀(w:World) (h:Heap),e w h->(K w.params).In h) (t:∀w:World,zf (K w.params)=true)
  (F:∀(w:World) (mg:Str->Option Value) (g:Addr) (h:Heap),(K w.params).In h->h.Ns mainGlobals mg->mg d.name=some (.ref g)→
   ∃i:FuncData,(∀(s:Shared) (u:Value),BindsTo s i ⟨[u],[]⟩ [("_law_script",u)])/\∀base:Heap,(K w.params).In base->base.Ns mainGlobals mg->bC l.prog w (K w.params) mg base d0 k g i ["_law_script"] ye):
  PySem.W.WalkO q b r e l.row.toRowW d [] (λf vs=>PySem.call f vs):=
 L2.Fz (n:=63) (k:=k) (x:="_law_script") (CX:=λ_=>d0) (sp:=λ_=>ye) j (by decide) c p y F (λw H a A o v m=>Jq (t w) o v m) λ_ _ _ _ _ z=>z
end DL
namespace DL
open PySem PySem.Spec L2 PyProof.Rows
section
variable{X:Cx}{x:Str}{e:Expr}{f:bA}{pos pos':Pos}
def bH(i:Nat)(b:X.N.Nodup)(he:PE X e (tD (md X) f))(hi:X.N[i]?=some x:=by rfl)(d:Loc X.env.scope x:=by first|exact Or.inl rfl|exact Or.inr rfl)(a:swapsWith e (some (.Name x pos')) pos.line X.env=pure false:=by rfl)
  (c:X.fn x=true\/X.env.scope.names.lookup x=some .local:=by first|exact .inl rfl|exact .inr rfl|assumption):PS X (.Assign [.Name x pos'] e pos) (tS (md X) (bu i f)):=Jh (HJ b hi d he a c)
def DA(i:Nat)(b:X.N.Nodup)(hi:X.N[i]?=some x:=by rfl)(c:Loc X.env.scope x:=by first|exact Or.inl rfl|exact Or.inr rfl)(a:X.fn x=true\/X.env.scope.names.lookup x=some .local:=by first|exact .inl rfl|exact .inr rfl|assumption):PG X (.Name x pos) (qz i):=ve b hi c a
def bE(i:Nat)(b:X.N.Nodup)(hi:X.N[i]?=some x:=by rfl)(c:Loc X.env.scope x:=by first|exact Or.inl rfl|exact Or.inr rfl)(a:X.fn x=true\/X.env.scope.names.lookup x=some .local:=by first|exact .inl rfl|exact .inr rfl|assumption):PG X (.Name x pos) (tG (md X) (cy i)):=Dp (ve b hi c a)
def gC{N:List Str}{a:Scope}{b:List (Str×Addr)}{C:Addr}{s:Shared}{H:Hp}{fp:List Addr}(i:Nat)(d:N.Nodup:=by decide +kernel)(hi:(aY X N a b C s H fp).N[i]?=some x:=by rfl)(g:Loc (aY X N a b C s H fp).env.scope x:=by first|exact Or.inl rfl|exact Or.inr rfl)
  (c:(aY X N a b C s H fp).fn x=true\/(aY X N a b C s H fp).env.scope.names.lookup x=some .local:=by first|exact .inl rfl|exact .inr rfl|assumption):PG (aY X N a b C s H fp) (.Name x pos) (tG (md (aY X N a b C s H fp)) (cy i)):=Dp (ve d hi g c)
def v_(i:Nat)(b:X.N[i]?=some x:=by rfl)(c:F_ X.env.scope x:=by first|exact Or.inl rfl|exact Or.inr (Or.inl rfl)|exact Or.inr (Or.inr rfl))(hd:(x==("__debug__":Str))=false:=by decide)(a:(x==("__classdict__":Str))=false:=by decide):PE X (.Name x pos) (tD (md X) (av i)):=J6 (pv i b c hd a)
end
section
variable{X:Cx}{x:Str}{k k':Nat}{ps:List Str}{F:dE}{e:Expr}{es:List Expr}{g:gW}{p pos:Pos}
def aR(C:fG X.prog X.w X.K X.mg X.base k x ps F)(b:eG k' X.A)(c:PA X (e::es) (wF (md X) g))(d:k<=k':=by first|decide|omega)(h:Gl X x:=by rfl)
  (f:nA ps.length g:=by repeat (first|exact y6|refine kP ?_))
  (a:(x==("__debug__":Str))=false:=by decide) (he:starEach (e::es) X.env=(false,eval e X.env)::starEach es X.env:=by rfl) (hpl:(backTo pos (starEach es X.env)).any (·.1)=false:=by rfl):
  PE X (.Call (.Name x p) (e::es) [] pos) (tD (md X) (aF F g)):=Iy C (b.mono d) h c f a he hpl
def pJ(C:fG X.prog X.w X.K X.mg X.base k x ps F)(b:eG k' X.A)(c:PA X (e::es) (wF (md X) g))(d:k<=k':=by first|decide|omega)(h:Gl X x:=by rfl)
  (f:nA ps.length g:=by repeat (first|exact y6|refine kP ?_))
  (a:(x==("__debug__":Str))=false:=by decide) (he:starEach (e::es) X.env=(false,eval e X.env)::starEach es X.env:=by rfl) (hpl:(backTo pos (starEach es X.env)).any (·.1)=false:=by rfl):
  PE X (.Call (.Name x p) (e::es) [] pos) (tL (md X) (fA F g)):=JP C (b.mono d) h c f a he hpl
end
def fK{N P:List Str}{h:Scope}(a:h.kind=.function:=by rfl)(b:h.isCoroutine=false:=by rfl)(c:h.isGenerator=false:=by rfl)(d:N.Nodup:=by decide +kernel)(e:N.take P.length=P:=by rfl)
  (f:∀x∈P,h.names.lookup x=some .local\/h.names.lookup x=some .cell:=by decide +kernel) (g:∀y∈h.names,y.2≠.free:=by decide +kernel):aL N P h:=⟨a,b,c,d,e,f,g⟩
structure bt(K:PySem.W.Frag)(x:Str)(st:Stmt)(f:Addr):Prop where
 ex:∃(oc:Value) (od:Option Addr) (kV dc pm:Value) (an:Option Addr) (cd ct:Value) (sl:Array (Option Value)),PySem.W.nsIn K mainGlobals x=some (some (.ref f))∧
  K.lookup f=some ⟨oc,od,.func (PySem.W.fnOf x x (gP st) (eO st) (aD st) .none kV dc pm an cd ct),sl⟩/\PySem.W.codeIn K cd x=true/\PySem.W.keepIn K (.ref f)=true
def bt.of{K:PySem.W.Frag}{x:Str}{st:Stmt}{f:Addr}{i:Value}{d:Option Addr}{kV g h:Value}{j:Option Addr}{b ct:Value}{e:Array (Option Value)}(a:PySem.W.nsIn K mainGlobals x=some (some (.ref f)))
  (l:K.lookup f=some ⟨i,d,.func (PySem.W.fnOf x x (gP st) (eO st) (aD st) .none kV g h j b ct),e⟩) (c:PySem.W.codeIn K b x=true) (k:PySem.W.keepIn K (.ref f)=true):bt K x st f:=⟨i,d,kV,g,h,j,b,ct,e,a,l,c,k⟩
structure KY(K:PySem.W.Frag)(mg:Str->Option Value)(x:Str)(st:Stmt)(ps:List Str)(f:Addr):Prop where
 ex:∃fd,eN K x x st f fd/\Binds K fd ps []/\PySem.W.keepIn K (.ref f)=true
 m:mg x=some (.ref f)
def bt.ok1{K:PySem.W.Frag}{mg:Str->Option Value}{x:Str}{st:Stmt}{ps:List Str}{f:Addr}{h:Heap}(D:bt K x st f)(X:K.In h)(G:h.Ns mainGlobals mg)
  (l:∀(kV b g:Value) (i:Option Addr) (c ct:Value) (a:List Value),a.length=ps.length->bindArgs (PySem.W.fnOf x x (gP st) (eO st) (aD st) .none kV b g i c ct) ⟨a,[]⟩=pure (ps.zip a):=by intro _ _ _ _ _ _ a k;rcases a with _|⟨_,_|⟨_,_|⟨_,_|⟨_,_|⟨_,_|⟨_,_⟩⟩⟩⟩⟩⟩ <;>first|rfl|cases k):KY K mg x st ps f:=by
 obtain⟨r,o,kV,p,g,i,n,ct,q,m,e,j,d⟩:=D.ex
 exact⟨⟨_,yy e j d,(yy e j d).binds l,d⟩,PySem.W.mg_of X G m⟩
structure Pk(P:Program)(w:World)(base:Heap):Prop where
def KY.cal{P:Program}{w:World}{base:Heap}{K:PySem.W.Frag}{mg:Str->Option Value}{x:Str}{st:Stmt}{ps:List Str}{f:Addr}{k:Nat}{F:dE}(O:KY K mg x st ps f)(Z:Pk P w base)
  (h:∀a,eN K x x st f a->Binds K a ps []->PySem.W.keepIn K (.ref f)=true->mg x=some (.ref f)->bC P w K mg base d0 k f a ps (eM ⟨K,mg⟩ ps.length F)):fG P w K mg base k x ps F:=by
 obtain⟨a,d,c,b⟩:=O.ex
 exact⟨f,a,h a d c b O.m,c,b,O.m⟩
end DL
namespace DL
open PySem PySem.Spec L2
def E{α:Type}(f:dt->aI->Option (α×aI))(c:dt)(S:aI)(Q:α->aI->Prop):Prop:=∃a b,f c S=some (a,b)/\Q a b
def T(f:cZ)(a:dt)(S:aI)(Q:Out->Prop):Prop:=∃o,f a S=some o/\Q o
def Fn(F:dE)(ds:List D)(S:aI)(Q:Res->aI->Prop):Prop:=∃r a,F ds S=some (r,a)/\Q r a
def Tg(g:mf)(d:D)(c:dt)(S:aI)(Q:dt->aI->Prop):Prop:=∃a b,g d c S=some (a,b)/\Q a b
def Kr(g:pz)(d:List D)(c:dt)(S:aI)(Q:dt->aI->Prop):Prop:=∃a b,g d c S=some (a,b)/\Q a b
def Op{α:Type}(o:Option α)(Q:α->Prop):Prop:=∃d,o=some d/\Q d
section
variable{Γ:dt}{S:aI}
def E.mono{α:Type}{f:dt->aI->Option (α×aI)}{Q R:α->aI->Prop}(h:E f Γ S Q)(i:∀a S,Q a S->R a S):E f Γ S R:=by
 obtain⟨a,b,e,q⟩:=h
 exact⟨a,b,e,i _ _ q⟩
def cR{i:Nat}{d:D}{Q:D->aI->Prop}(h:Γ[i]?=some (some d))(q:Q d S):E (av i) Γ S Q:=⟨d,S,by unfold av;rw[h],q⟩
def Lb{d:D}{Q:D->aI->Prop}(q:Q d S):E (cF d) Γ S Q:=⟨d,S,rfl,q⟩
def Lf{Q:List D->aI->Prop}(q:Q [] S):E aA Γ S Q:=⟨[],S,rfl,q⟩
def K5{f:bA}{g:gW}{Q:List D->aI->Prop}(h:E f Γ S λd a=>E g Γ a λds S2=>Q (d::ds) S2):E (au f g) Γ S Q:=by
 obtain⟨d,a,b,ds,S2,c,q⟩:=h
 exact⟨_,_,by unfold au;rw[b];simp only[Qbq];rw[c];rfl,q⟩
def zw{o:rp}{f g:bA}{Q:D->aI->Prop}(h:E f Γ S λx a=>E g Γ a λy S2=>Op (o S2 x y) λd=>Q d S2):E (aG o f g) Γ S Q:=by
 obtain⟨x,a,b,y,S2,e,d,c,q⟩:=h
 exact⟨d,S2,by unfold aG;rw[b];simp only[Qbq];rw[e];simp only[Qbq];rw[c];rfl,q⟩
def Lx{f:gW}{Q:D->aI->Prop}(h:E f Γ S λds a=>ds.length<=sizeLine/\Q (.tup ds) a):E (aX f) Γ S Q:=by
 obtain⟨ds,a,b,l,q⟩:=h
 exact⟨_,_,by unfold aX;rw[b];simp only[Qbq];rw[Qhq l],q⟩
def Ks{f:gW}{Q:List D->aI->Prop}(h:E f Γ S λds a=>ds.length<=sizeLine/\Q ds a):E (gn f) Γ S Q:=by
 obtain⟨ds,a,b,l,q⟩:=h
 exact⟨_,_,by unfold gn;rw[b];simp only[Qbq];rw[Qhq l],q⟩
def Ll{f:gW}{Q:D->aI->Prop}(h:E f Γ S λds a=>Q (.ref a.length) (a++ [.lst ds])):E (i6 f) Γ S Q:=by
 obtain⟨ds,a,b,q⟩:=h
 exact⟨_,_,by unfold i6;rw[b];rfl,q⟩
def LH{o:Ga}{f:gW}{Q:D->aI->Prop}(h:E f Γ S λds a=>Op (o ds) λd=>Q d a):E (Ap o f) Γ S Q:=by
 obtain⟨ds,a,b,d,c,q⟩:=h
 exact⟨d,a,by unfold Ap;rw[b];simp only[Qbq];rw[c];rfl,q⟩
def Gi{f:bA}{Q:(List D×Tag)->aI->Prop}(h:E f Γ S λd a=>Op (m5 a d) λp=>Q p a):E (cq f) Γ S Q:=by
 obtain⟨e,a,b,d,c,q⟩:=h
 exact⟨d,a,by unfold cq;rw[b];simp only[Qbq];rw[c];rfl,q⟩
def Iw{f:gW}{Q:(List D×Tag)->aI->Prop}(h:E f Γ S λds a=>Q (ds,.fr) a):E (ni f) Γ S Q:=by
 obtain⟨ds,a,b,q⟩:=h
 exact⟨_,a,by unfold ni;rw[b];rfl,q⟩
def JQ{f:fE}{Q:D->aI->Prop}(h:E f Γ S λp a=>Q (.int p.1.length) a):E (kT f) Γ S Q:=by
 obtain⟨p,a,b,q⟩:=h
 exact⟨_,a,by unfold kT;rw[b];rfl,q⟩
def KL{f:fE}{Q:D->aI->Prop}(h:E f Γ S λp a=>Q (.tup p.1) a):E (tupQ f) Γ S Q:=by
 obtain⟨p,a,b,q⟩:=h
 exact⟨_,a,by unfold tupQ;rw[b];rfl,q⟩
def Im{f:fE}{Q:(List D×Tag)->aI->Prop}(h:E f Γ S λp a=>p.2.isL=true/\Q p a):E (kQ f) Γ S Q:=by
 obtain⟨p,a,b,l,q⟩:=h
 exact⟨_,a,by unfold kQ;rw[b];simp only[Qbq];rw[Qhq l],q⟩
def Fh{f:fE}{Q:D->aI->Prop}(h:E f Γ S λp a=>(p.2.isL=true/\p.2.stays a p.1)/\Q (.bl (!p.1.isEmpty)) a):E (qg f) Γ S Q:=by
 obtain⟨p,a,b,l,q⟩:=h
 exact⟨_,a,by unfold qg;rw[b];simp only[Qbq];rw[Qhq l],q⟩
def K2{F:dE}{g:gW}{Q:D->aI->Prop}(h:E g Γ S λds a=>Fn F ds a λr S2=>match r with|.d x=>Q x S2|.l _=>False):E (aF F g) Γ S Q:=by
 obtain⟨ds,a,b,r,S2,c,q⟩:=h
 cases r with
 |d x=>exact⟨x,S2,by unfold aF;rw[b];simp only[Qbq];rw[c];rfl,q⟩
 |l x=>exact q.elim
def Kg{F:dE}{g:gW}{Q:List D->aI->Prop}(h:E g Γ S λds a=>Fn F ds a λr S2=>match r with|.d _=>False|.l x=>Q x S2):E (fA F g) Γ S Q:=by
 obtain⟨ds,a,b,r,S2,c,q⟩:=h
 cases r with
 |d x=>exact q.elim
 |l x=>exact⟨x,S2,by unfold fA;rw[b];simp only[Qbq];rw[c];rfl,q⟩
def gq{f:bA}{Q:Bool->aI->Prop}(h:E f Γ S λd a=>match d with|.bl k=>Q k a|_=>False):E (aV f) Γ S Q:=by
 obtain⟨d,a,b,q⟩:=h
 cases d with
 |bl k=>exact⟨k,a,by unfold aV;rw[b];rfl,q⟩
 |_=>exact q.elim
def IW{f:bA}{Q:Bool->aI->Prop}(h:E f Γ S λd a=>Op (yE a d) λk=>Q k a):E (kU f) Γ S Q:=by
 obtain⟨d,a,b,k,c,q⟩:=h
 exact⟨k,a,by unfold kU;rw[b];simp only[Qbq];rw[c];rfl,q⟩
def Hz{f:jA}{Q:Bool->aI->Prop}(h:E f Γ S λk a=>Q (!k) a):E (xY f) Γ S Q:=by
 obtain⟨k,a,b,q⟩:=h
 exact⟨_,a,by unfold xY;rw[b];rfl,q⟩
def Hj{f g:jA}{Q:Bool->aI->Prop}(h:E f Γ S λk a=>if k=true then E g Γ a Q else Q false a):E (xw f g) Γ S Q:=by
 obtain⟨k,a,b,q⟩:=h
 cases k with
 |true=>obtain⟨j,c,d,q⟩:=(q:E g Γ a Q);exact⟨j,c,by unfold xw;rw[b];exact d,q⟩
 |false=>exact⟨false,a,by unfold xw;rw[b];rfl,q⟩
def Di{f g:jA}{Q:Bool->aI->Prop}(h:E f Γ S λk a=>if k=true then Q true a else E g Γ a Q):E (El f g) Γ S Q:=by
 obtain⟨k,a,b,q⟩:=h
 cases k with
 |true=>exact⟨true,a,by unfold El;rw[b];rfl,q⟩
 |false=>obtain⟨j,c,d,q⟩:=(q:E g Γ a Q);exact⟨j,c,by unfold El;rw[b];exact d,q⟩
def Lj{c:jA}{f g:bA}{Q:D->aI->Prop}(h:E c Γ S λk a=>if k=true then E f Γ a Q else E g Γ a Q):E (nu c f g) Γ S Q:=by
 obtain⟨k,a,e,q⟩:=h
 cases k with
 |true=>obtain⟨j,b,d,q⟩:=(q:E f Γ a Q);exact⟨j,b,by unfold nu;rw[e];exact d,q⟩
 |false=>obtain⟨j,b,d,q⟩:=(q:E g Γ a Q);exact⟨j,b,by unfold nu;rw[e];exact d,q⟩
def Gn{i:Nat}{f:bA}{Q:Out->Prop}(h:E f Γ S λd a=>Q (.nx (Γ.set i (some d)) a)):T (bu i f) Γ S Q:=by
 obtain⟨d,a,b,q⟩:=h
 exact⟨_,by unfold bu;rw[b];rfl,q⟩
def rg{f:bA}{Q:Out->Prop}(h:E f Γ S λd a=>Q (.rt d a)):T (cK f) Γ S Q:=by
 obtain⟨d,a,b,q⟩:=h
 exact⟨_,by unfold cK;rw[b];rfl,q⟩
def La{f:gW}{Q:Out->Prop}(h:E f Γ S λd a=>Q (.rl d a)):T (Gq f) Γ S Q:=by
 obtain⟨d,a,b,q⟩:=h
 exact⟨_,by unfold Gq;rw[b];rfl,q⟩
def DJ{f:bA}{Q:Out->Prop}(h:E f Γ S λd a=>Q (.nx Γ a)):T (Ek f) Γ S Q:=by
 obtain⟨d,a,b,q⟩:=h
 exact⟨_,by unfold Ek;rw[b];rfl,q⟩
def cf{Q:Out->Prop}(q:Q (.nx Γ S)):T gr Γ S Q:=⟨_,rfl,q⟩
def LN{f:bA}{g:mf}{Q:Out->Prop}(h:E f Γ S λd b=>Tg g d Γ b λa S2=>Q (.nx a S2)):T (p8 f g) Γ S Q:=by
 obtain⟨d,b,c,a,S2,e,q⟩:=h
 exact⟨_,by unfold p8;rw[c];simp only[Qbq];rw[e];rfl,q⟩
def cv{f g:cZ}{Q:Out->Prop}(h:T f Γ S λo=>match o with|.nx a b=>T g a b Q|o=>Q o):T (aK f g) Γ S Q:=by
 obtain⟨o,c,q⟩:=h
 cases o with
 |nx a b=>obtain⟨o,d,q⟩:=(q:T g a b Q);exact⟨o,by unfold aK;rw[c];exact d,q⟩
 |_=>exact⟨_,by unfold aK;rw[c];rfl,q⟩
def gV{c:jA}{f g:cZ}{Q:Out->Prop}(h:E c Γ S λk a=>if k=true then T f Γ a Q else T g Γ a Q):T (gg c f g) Γ S Q:=by
 obtain⟨k,a,d,q⟩:=h
 cases k with
 |true=>obtain⟨j,b,q⟩:=(q:T f Γ a Q);exact⟨j,by unfold gg;rw[d];exact b,q⟩
 |false=>obtain⟨j,b,q⟩:=(q:T g Γ a Q);exact⟨j,by unfold gg;rw[d];exact b,q⟩
def bg{i:Nat}{d:D}{Q:dt->aI->Prop}(q:Q (Γ.set i (some d)) S):Tg (cy i) d Γ S Q:=⟨_,_,rfl,q⟩
def LC{f g:bA}{d:D}{Q:dt->aI->Prop}(h:E f Γ S λx a=>E g Γ a λy S2=>∃k i ds j,x=.ref k/\y=.int i/\S2[k]?=some (.lst ds)/\Bx ds.length i=some j/\Q Γ (S2.set k (.lst (ds.set j d)))):Tg (Iq f g) d Γ S Q:=by
 obtain⟨x,a,b,y,S2,c,k,i,ds,j,rfl,rfl,h1,h2,q⟩:=h
 exact⟨_,_,by unfold Iq;rw[b];simp only[Qbq];rw[c];simp only[Qbq,h1,h2],q⟩
def Lg{f g h:bA}{Q:Out->Prop}(w:E f Γ S λx c=>E g Γ c λy S2=>∃k i ds m,x=.ref k/\y=.int i/\S2[k]?=some (.lst ds)/\0<=i/\ds[i.toNat]?=some (.int m)/\E h Γ S2 λz b=>∃n a j,z=.int n/\b[k]?=some (.lst a)/\Bx a.length i=some j/\Q (.nx Γ (b.set k (.lst (a.set j (.int (m+n))))))):T (Kf f g h) Γ S Q:=by
 obtain⟨x,c,e,y,S2,d,k,i,ds,m,rfl,rfl,h1,h2,h3,z,b,e3,n,a,j,rfl,h4,h5,q⟩:=w
 exact⟨_,by unfold Kf;rw[e];simp only[Qbq];rw[d];simp only[Qbq,h1,Qhq h2,h3,e3,h4,h5],q⟩
def mT{i:vT}{g:mf}{b:cZ}{Q:Out->Prop} (h:E i Γ S λp v=>∃I:Nat->dt->aI->Prop,I 0 Γ v/\(∀n a e,I n a e->p.2 e)∧
   (∀(n:Nat) (d:D) (a:dt) (e:aI),p.1[n]?=some d->I n a e->Tg g d a e λr S2=>T b r S2 λo=>match o with|.nx c f=>I (n+1) c f|.ct c f=>I (n+1) c f|.bk c f=>Q (.nx c f)|o=>Q o)∧
   ∀a e,I p.1.length a e->Q (.nx a e)):T (pE i g b) Γ S Q:=by
 obtain⟨⟨l,W⟩,v,A,I,z,x,j,s⟩:=h
 have B:∀(k n:Nat) (a:dt) (e:aI),n+k=l.length->I n a e->∃o,forL g b W (l.drop n) a e=some o/\Q o:=by
  intro k
  induction k with
  | zero=>
    intro n a e w m
    rw[List.drop_of_length_le (by omega)]
    refine⟨.nx a e,by simp only[forL];rw[Qhq (x _ _ _ m)],s _ _ (by rw[←w];exact m)⟩
  | succ k y=>
    intro n a e w m
    have t:n<l.length:=by omega
    rw[QWq t]
    obtain⟨r,S2,u,o,C,q⟩:=j n l[n] a e (gQe t) m
    simp only[forL]
    rw[Qhq (x _ _ _ m),u]
    simp only[Qbq]
    rw[C]
    simp only[Qbq]
    cases o with
    |nx c f=>exact y (n+1) c f (by omega) q
    |ct c f=>exact y (n+1) c f (by omega) q
    |bk c f=>exact⟨_,rfl,q⟩
    |rt d f=>exact⟨_,rfl,q⟩
    |rl d f=>exact⟨_,rfl,q⟩
 obtain⟨o,u,q⟩:=B l.length 0 Γ v (by omega) z
 exact⟨o,by unfold pE;rw[A];exact u,q⟩
def q0{js:List (Option Nat)}{i:vT}{g:mf}{t:jA}{f:bA}{Q:List D->aI->Prop} (h:E i Γ S λp A=>∃I:Nat->dt->aI->List D->Prop,I 0 (m9 js Γ) A []/\(∀n b j a,I n b j a->p.2 j)∧
   (∀(n:Nat) (d:D) (b:dt) (j:aI) (a:List D),p.1[n]?=some d->I n b j a->Tg g d b j λe S2=>E t e S2 λk w=>if k=true then E f e w λy z=>a.length<sizeLine/\I (n+1) e z (a++ [y]) else I (n+1) e w a)∧
   ∀b j a,I p.1.length b j a->Q a j):E (dC js i g t f) Γ S Q:=by
 obtain⟨⟨o,W⟩,A,H,I,G,C,m,u⟩:=h
 have K:∀(k n:Nat) (b:dt) (j:aI) (a:List D),n+k=o.length->I n b j a->∃r l,k9 g t f W (o.drop n) b j a=some (r,l)/\Q r l:=by
  intro k
  induction k with
  | zero=>
    intro n b j a B s
    rw[List.drop_of_length_le (by omega)]
    refine⟨a,j,by simp only[k9];rw[Qhq (C _ _ _ _ s)],u _ _ _ (by rw[←B];exact s)⟩
  | succ k F=>
    intro n b j a B s
    have v:n<o.length:=by omega
    rw[QWq v]
    obtain⟨e,S2,x,c,w,M,q⟩:=m n o[n] b j a (gQe v) s
    simp only[k9]
    rw[Qhq (C _ _ _ _ s),x]
    simp only[Qbq]
    rw[M]
    simp only[Qbq]
    cases c with
    | true=>
      rw[Qhq rfl] at q⊢
      obtain⟨y,z,L,J,q⟩:=q
      rw[L]
      simp only[Qbq]
      rw[Qhq J]
      exact F (n+1) e z _ (by omega) q
    | false=>
      rw[Quq (by decide)] at q⊢
      exact F (n+1) e w _ (by omega) q
 obtain⟨r,l,x,q⟩:=K o.length 0 _ A [] (by omega) G
 exact⟨r,l,by unfold dC;rw[H];exact x,q⟩
def Ce{f:bA}{Q:(List D×(aI->Prop))->aI->Prop}(h:E f Γ S λd a=>∃j,d=.int j/\(-(2^62)<=j/\j<2^62)/\Q (q_ 0 j,λ_=>True) a):E (xV f) Γ S Q:=by
 obtain⟨d,a,b,j,rfl,hj,q⟩:=h
 exact⟨_,a,by unfold xV;rw[b];simp only[Qbq];rw[Qhq hj],q⟩
def AU{f:fE}{Q:(List D×(aI->Prop))->aI->Prop}(h:E f Γ S λp a=>Q (p.1,λc=>p.2.stays c p.1) a):E (sm f) Γ S Q:=by
 obtain⟨p,a,b,q⟩:=h
 exact⟨_,a,by unfold sm;rw[b];rfl,q⟩
def EB{m:List D->List D->Option (List D×D)}{f:bA}{g:gW}{Q:D->aI->Prop}(h:E f Γ S λx b=>∃k a,x=.ref k/\b[k]?=some (.lst a)/\E g Γ b λys S2=>∃ds,S2[k]?=some (.lst ds)/\Op (m ds ys) λp=>Q p.2 (S2.set k (.lst p.1))):E (Eo m f g) Γ S Q:=by
 obtain⟨x,b,c,k,a,rfl,h1,ys,S2,e2,ds,h2,p,e3,q⟩:=h
 exact⟨_,_,by unfold Eo;rw[c];simp only[Qbq,e2,h1,h2,e3],q⟩
end
def bX{n:Nat}{b:cZ}{ds:List D}{S:aI}{Q:Res->aI->Prop} (h:T b (ds.map some++List.replicate (n-ds.length) none) S λo=>match o with
   |.nx _ a=>Op (settle S .non a) λp=>Q p.1 p.2|.rt d a=>Op (settle S d a) λp=>Q p.1 p.2|.rl l a=>Op (fj S l a) λp=>Q p.1 p.2|_=>False):Fn (fD n b) ds S Q:=by
 obtain⟨o,f,q⟩:=h
 cases o with
 |nx g a=>obtain⟨⟨r,c⟩,e,q⟩:=q;exact⟨r,c,by unfold fD;rw[f];exact e,q⟩
 |rt d a=>obtain⟨⟨r,c⟩,e,q⟩:=q;exact⟨r,c,by unfold fD;rw[f];exact e,q⟩
 |rl d a=>obtain⟨⟨r,c⟩,e,q⟩:=q;exact⟨r,c,by unfold fD;rw[f];exact e,q⟩
 |bk=>exact q.elim
 |ct=>exact q.elim
def g8{S a S2:aI}{d:D}{Q:Res×aI->Prop}(b:m8 S a)(ht:a.take S.length=S2)(hd:∀k,d≠.ref k)(c:cD S.length d=true)(q:Q (.d d,S2)):Op (settle S d a) Q:=by
 refine⟨_,?_,q⟩
 unfold settle
 rw[Qhq b,ht]
 cases d with
 |ref k=>exact absurd rfl (hd k)
 |_=>simp only[c,if_true]
def qE{S a S2:aI}{ds:List D}{Q:Res×aI->Prop}(b:m8 S a)(ht:a.take S.length=S2)(c:bS S.length ds=true)(q:Q (.l ds,S2)):Op (fj S ds a) Q:=by
 refine⟨_,?_,q⟩
 unfold fj
 rw[Qhq ⟨b,c⟩,ht]
def qu{S:aI}:m8 S S:=⟨Qmq _,λk o _ h=>.inl h⟩
def tW{S:aI}{k:Nat}{o:O}(h:Fb S.length o=true):m8 S (S.set k o):=by
 refine⟨by simp,λj u _ e=> ?_⟩
 rw[List.getElem?_set] at e
 split at e
 ·split at e
  ·cases e;exact .inr h
  ·cases e
 ·exact .inl e
end DL
namespace L2
open PySem PySem.Spec PyProof.Rows
end L2
namespace DL
open PySem PySem.Spec L2
end DL
namespace L2
open PySem PySem.Spec PyProof.Rows
section
variable{X:Cx}
def IG:V->List V->Hp->VK->Prop:=λx b H Q=>∃(l:Addr) (a:List V) (i:Int) (y:V),x=.ref l/\b= [.int i,y]/\H l=some (.lst a)/\0<=i/\i<1000000/\i.toNat<=a.length/\a.length<sizeLine/\Q .non (upd H l (.lst (a.take i.toNat++y::a.drop i.toNat)))
def Eu{a:List Value}{i:Int}{u:Value}(c:0<=i)(b:i.toNat<=a.length):(a.toArray.extract 0 (if i<0 then(i+(a.toArray.size:Int)).toNat else min i.toNat a.toArray.size)).push u++a.toArray.extract (if i<0 then(i+(a.toArray.size:Int)).toNat else min i.toNat a.toArray.size)=(a.take i.toNat++u::a.drop i.toNat).toArray:=by
 rw[Quq (by omega),Qjq,Nat.min_eq_left b]
 apply Array.toList_inj.mp
 simp
 exact List.take_of_length_le (by rw[List.length_drop];exact Qmq _)
def BW:Iz X "list.insert" IG:=by
 intro f s A H x o v m Q I k j h
 obtain⟨l,p,i,y,rfl,rfl,hH,h0,h1,hk,hz,q⟩:=h
 cases k
 obtain⟨w,u,rfl,r1,ru⟩:=j.two
 obtain⟨t,rfl⟩:=r1
 obtain⟨z,a,n,r,d,e⟩:=I.lstM hH
 have g:Builtin.List.listFitsIndex i=true:=fitsIndex_both (Int.le_trans (by decide) h0) (Int.lt_trans h1 (by decide))
 have b:a.toArray.size<=sizeLine:=by rw[Qjq,←d];exact nQl hz
 have c:¬(!Builtin.List.listFitsIndex i)=true:=by rw[g];exact Qtq
 refine call_meets F.slot_list_insert ⟨_,e,rfl⟩ F.entry_list_insert (F.args_list_insert_3 _ _ _) (AutoSeq1.list_insert_list_int_val_1 l a.toArray n i t u c b) ⟨e,?_⟩
 refine⟨.non,_,I.lset (its':=a.take i.toNat++u::a.drop i.toNat) hH e (Eu h0 (d▸hk)) ((r.take _).append (.cons ru (r.drop _))) ?_,rfl,q⟩
 simp only[lQa,Qxq,Qnq,List.length_drop]
 omega
end
end L2
namespace DL
open PySem PySem.Spec PyProof.Rows L2
section
variable{X:Cx}{e e2:Expr}
def y8:List D->List D->Option (List D×D):=λa b=>match b with
 | [.int i,y]=>if 0<=i/\i<1000000/\i.toNat<=a.length/\a.length<sizeLine then some (a.take i.toNat++y::a.drop i.toNat,.non) else none
 |_=>none
def HB{M:Md}:EK M IG y8:=by
 intro p H a n r o d h m Q l c g e q
 unfold y8 at e
 split at e
 ·split at e
  ·rename_i i y b
   obtain⟨rfl,rfl⟩:=cx e
   cases g with
   | cons g f=>
     cases f with
     | cons f k=>
       cases k
       cases g
       have j:=c.length
       rw[j] at b
       exact⟨a,h,i,_,rfl,rfl,l,b.1,b.2.1,b.2.2.1,b.2.2.2,q _ _ ((c.take _).append (.cons f (c.drop _))) .non⟩
  ·cases e
 ·cases e
def wa{f g k:bA}{o:Expr}{b a:Pos}(p:PE X o (tD (md X) f))(n:PE X e (tD (md X) g))(m:PE X e2 (tD (md X) k))(c:attributeBase o "insert" X.env (eval o X.env)=eval o X.env:=by rfl) (h:((backTo a (starEach [e,e2] X.env)).all (λx=> !x.1)&&(backToKw a (keywordEach [] X.env)).all (λx=>x.1.isSome)
   &&decide ([e,e2].length+([]:List Keyword).length+(if ([]:List Keyword).isEmpty then 0 else 1)<30))=true:=by rfl)
  (d:(b.endLine==a.line)=true:=by rfl) (j:starEach [e,e2] X.env=(false,eval e X.env)::starEach [e2] X.env:=by rfl) (i:starEach [e2] X.env= [(false,eval e2 X.env)]:=by rfl) (l:(backTo a (starEach [e2] X.env)).any (·.1)=false:=by rfl):PE X (.Call (.Attribute o "insert" b) [e,e2] [] a) (tD (md X) (Eo y8 f (au g (au k aA)))):=
 j2 (rT PySem.F.plainAttrs_list PySem.F.slot_list_insert PySem.F.type_list_insert BW p (aq n (aq m aw i) j) c h d j l) (GQ HB)
end
end DL
namespace L2
open PySem PySem.Spec PyProof.Rows
end L2
namespace DL
open PySem PySem.Spec PyProof.Rows L2
end DL
namespace DL
open PySem PySem.Spec L2
mutual
def iY:D->Option PyData
 |.non=>some .none
 |.bl b=>some (.bool b)
 |.int i=>some (.int i)
 |.str x=>if PyData.strOk x=true then some (.str x) else none
 |.tup a=>(km a).map .tuple
 |.ref _=>none
 |.fn _=>none
def km:List D->Option (List PyData)
 | []=>some []
 |d::ds=>(iY d).bind λp=>(km ds).map (p::·)
end
mutual
theorem ng:∀{d:D} {p:PyData},iY d=some p->p.canLay0=true
 |.non,_,e=>by cases e;rfl
 |.bl _,_,e=>by cases e;rfl
 |.int _,_,e=>by cases e;rfl
 | .str x,_,e=>by
   simp only[iY] at e
   split at e
   · rename_i c;cases e;exact c
   · cases e
 | .tup ds,_,e=>by
   simp only[iY] at e
   obtain⟨b,a,rfl⟩:=oQm.mp e
   exact t4 a
 |.ref _,_,e=>by cases e
 |.fn _,_,e=>by cases e
theorem t4:∀{ds:List D} {ps:List PyData},km ds=some ps->PyData.canLayAll0 ps=true
 | [],_,e=>by cases e;rfl
 | d::ds,_,e=>by
   simp only[km] at e
   obtain⟨p,a,e⟩:=ar e
   obtain⟨ps,b,rfl⟩:=oQm.mp e
   simp only[PyData.canLayAll0,QCq]
   exact⟨ng a,t4 b⟩
end
mutual
theorem yF{M:Md}{ρ:List Addr}{H:Hp}:∀{d:D} {p:PyData} {v:V},Rel M ρ H d v->iY d=some p->pH (λ_=>False) H p v
 |.non,_,_,.non,e=>by cases e;exact .non
 |.bl _,_,_,.bl _,e=>by cases e;exact .bl _
 |.int _,_,_,.int _,e=>by cases e;exact .int _
 | .str _,_,_,.str _,e=>by
   simp only[iY] at e
   split at e
   · cases e;exact .str _
   · cases e
 | .tup ds,_,_,.tup h hs,e=>by
   simp only[iY] at e
   obtain⟨b,a,rfl⟩:=oQm.mp e
   exact .tup h (Ag hs a)
 |.ref _,_,_,_,e=>by cases e
 |.fn _,_,_,_,e=>by cases e
theorem Ag{M:Md}{ρ:List Addr}{H:Hp}:∀{ds:List D} {ps:List PyData} {vs:List V},a_ M ρ H ds vs->km ds=some ps->qQ (λ_=>False) H ps vs
 | [],_,_,.nil,e=>by cases e;exact .nil
 | d::ds,_,_,.cons h hs,e=>by
   simp only[km] at e
   obtain⟨p,a,e⟩:=ar e
   obtain⟨ps,b,rfl⟩:=oQm.mp e
   exact .cons (yF h a) (Ag hs b)
end
end DL
namespace L2
open PySem PySem.Spec
section
variable{X:Cx}
def HH(a:Bool):R2:=λx y H Q=>∃p q,pH (λ_=>False) H p x/\pH (λ_=>False) H q y/\p.canLay0=true/\q.canLay0=true/\p.depth<=60/\Q (.bl (if a then !PyData.eqv p q else PyData.eqv p q)) H
def DV(m:X.A.units+64<cLine):jI X (compareOp .Eq) (HH false):=by
 rintro b s l H x y v u Q I k g ⟨p,q,i,e,f,d,n,h⟩
 obtain⟨o,c,_⟩:=kg I (λa z=>z.elim) i k
 obtain⟨r,j,_⟩:=kg I (λa z=>z.elim) e g
 exact SeqAt.eqOverData _ _ _ _ _ _ _ _ _ _ _ _ c j f d (by omega) ⟨.bl _,H,I,rfl,h⟩
def Hm(m:X.A.units+64<cLine):jI X (compareOp .NotEq) (HH true):=by
 rintro b s l H x y v u Q I k g ⟨p,q,i,e,f,d,n,h⟩
 obtain⟨o,c,_⟩:=kg I (λa z=>z.elim) i k
 obtain⟨r,j,_⟩:=kg I (λa z=>z.elim) e g
 exact SeqAt.neOverData _ _ _ _ _ _ _ _ _ _ _ _ c j f d (by omega) ⟨.bl _,H,I,rfl,h⟩
end
end L2
namespace DL
open PySem PySem.Spec L2
section
variable{X:Cx}{a b e:Expr}{pos:Pos}
def mG(c:Bool):rp:=λ_ x y=>(iY x).bind λp=>(iY y).bind λq=>if p.depth<=60 then some (.bl (if c then !PyData.eqv p q else PyData.eqv p q)) else none
def y7{M:Md}{f:Bool}:jS M (HH f) (mG f):=by
 intro m S H x y d u v Q l k i e q
 unfold mG at e
 obtain⟨p,h,e⟩:=ar e
 obtain⟨j,g,e⟩:=ar e
 split at e
 ·rename_i c
  cases e
  exact⟨p,j,yF k h,yF i g,ng h,ng g,c,q _ _ b9.refl l (.bl _)⟩
 ·cases e
def F7{f g:bA}{k:Nat}(d:eG k X.A)(h:PE X a (tD (md X) f))(c:PE X b (tD (md X) g)):PE X (.Compare a [.Eq] [b] pos) (tD (md X) (aG (mG false) f g)):=oO (DV d.units) y7 h c (bf _)
def AG{f g:bA}{k:Nat}(d:eG k X.A)(h:PE X a (tD (md X) f))(c:PE X b (tD (md X) g)):PT X (.Compare a [.Eq] [b] pos) (tB (md X) (aV (aG (mG false) f g))):=bU (DV d.units) y7 h c (bf _)
def mM{f g:bA}{k:Nat}(d:eG k X.A)(h:PE X a (tD (md X) f))(c:PE X b (tD (md X) g)):PT X (.Compare a [.NotEq] [b] pos) (tB (md X) (aV (aG (mG true) f g))):=bU (Hm d.units) y7 h c (bf _)
end
def zH(S:aI):D->Option Nat
 |.str z=>if z.length<=sizeLine then some z.length else none
 |d=>(m5 S d).map (·.1.length)
def Ey(f:bA):bA:=λb S=>(f b S).bind λ(d,a)=>(zH a d).bind λn=>some (.int n,a)
section
variable{X:Cx}{a:Expr}{pos:Pos}
def G7{f:bA}{p:Pos}(m:Gl X "len")(C:X.mg "len"=none)(s:PE X a (tD (md X) f))(k:starEach [a] X.env= [(false,eval a X.env)]:=by rfl):
  PE X (.Call (.Name "len" p) [a] [] pos) (tD (md X) (Ey f)):=
 j2 (d_ (uA.or mQ) m C PySem.boot_len (dG s gF k) (he:=k)) λI H Q y=>by
  obtain⟨w,u,S,d,J,ok,e,q⟩:=y
  obtain⟨⟨g,j⟩,l,e⟩:=ar e
  obtain⟨n,b,e⟩:=ar e
  obtain⟨rfl,rfl⟩:=cx e
  refine⟨w,u,S,g,j,ok,l,λB v G x h r=> ?_⟩
  by_cases c:∃z,g=.str z
  ·obtain⟨z,rfl⟩:=c
   cases r
   simp only[zH] at b
   split at b <;>cases b
   exact .inl ⟨z,rfl,by assumption,q _ _ _ x h (.int _)⟩
  ·have A:(m5 j g).map (·.1.length)=some n:=by
    cases g with
    |str z=>exact absurd ⟨z,rfl⟩ c
    |_=>exact b
   obtain⟨⟨F,t⟩,o,rfl⟩:=oQm.mp A
   obtain⟨a,i,rfl,h2,h3⟩:=zG h r o
   refine .inr ⟨a,i,rfl,h2.sq,?_⟩
   have:=q _ (.int i.length) _ x h (by rw[←h3.length];exact .int _)
   exact this
end
def Ds{b:dt}{S:aI}{f:bA}{Q:D->aI->Prop}(h:E f b S λd a=>Op (zH a d) λn=>Q (.int n) a):E (Ey f) b S Q:=by
 obtain⟨d,a,c,n,e,q⟩:=h
 exact⟨_,a,by unfold Ey;rw[c];simp only[Qbq];rw[e];rfl,q⟩
end DL
namespace DL
open PySem PySem.Spec PyProof.Rows L2
def oE:fillsNumberSlot (.type "tuple") "mul"=pure false:=
 PySem.fillsNumberSlot_seq (id:="tuple.__mul__") (r:=some (.builtin "tuple.__rmul__")) PySem.F.slot_tuple_mul.lookup (by decide +kernel) PySem.F.slot_tuple_rmul.lookup (by decide +kernel)
def uW:seqRepeat? (.type "tuple")=pure (some (.builtin "tuple.__mul__")):=by
 unfold seqRepeat?
 rw[PySem.seqSlot_of (T:="tuple") (name:="__mul__") (id:="tuple.__mul__") PySem.F.slot_tuple_mul.lookup (by decide +kernel),PySem.seqSlot_of (T:="tuple") (name:="__rmul__") (id:="tuple.__rmul__") PySem.F.slot_tuple_rmul.lookup (by decide +kernel)]
 rfl
def zq(a:Int)(t:Tok)(l:Addr)(items:Array Value)(n:Nat)(c:Option Addr)(e:Array (Option Value)):
  Meets (Builtin.«int.__rmul__» ⟨[.int a t,.ref l],[]⟩) (λ_ R s=>s.heap.get? l=some {cls:=.type "tuple",dict:=c,data:=.seq items n,slots:=e}/\R (.ok (.ret Value.notImplemented)) s):=
 .of_wp λb w A R s h=>by obtain⟨f,g,d,k,i⟩:=s;obtain⟨j,h⟩:=h;wp_walk;exact⟨_,rfl,h⟩
def A7(l:Addr)(items:Array Value)(n:Nat)(o:Option Addr)(t:Array (Option Value))(x:Int)(u:Tok)(F:2<=x)(G:x<2^63)(a:¬items.isEmpty=true)(hsz:items.size*x.toNat<=sizeLine):
  Meets (Builtin.«tuple.__mul__» ⟨[.ref l,.int x u],[]⟩) (λ_ R s=>s.heap.get? l=some {cls:=.type "tuple",dict:=o,data:=.seq items n,slots:=t}/\R (.ok (.ret (Value.ref s.heap.objs.size))) {s with heap:=s.heap.push {cls:=Value.type "tuple",data:=Data.seq (List.foldl (λe f=>e++f) #[] (List.replicate x.toNat items))},toks:=s.toks}):=
 .of_wp λi w A R s h=>by
  obtain⟨z,g,d,H,B⟩:=s;obtain⟨b,h⟩:=h
  have C:=AutoSeq1.idx_int
  have k:(sizeLine:Nat)=16777216:=by decide
  have j:((items.size:Int)*x)=((items.size*x.toNat:Nat):Int):=by rw[Int.natCast_mul,Int.toNat_of_nonneg (by omega)]
  have q:items.size*x.toNat<=16777216:=by omega
  have p:¬(decide (x< -2^63)||decide (x>=2^63))=true:=by simp;omega
  have r:¬(items.isEmpty||x==1)=true:=by simp at a⊢;exact⟨a,by omega⟩
  have m:¬(decide (x<=0)||items.isEmpty)=true:=by simp at a⊢;exact⟨by omega,a⟩
  have v:¬((items.size:Int)*x>(2^63-1)/8):=by rw[j];omega
  have y:¬Builtin.Tuple.tupleTooMany ((items.size:Int)*x)=true:=by rw[j];unfold Builtin.Tuple.tupleTooMany;rw[Qdq (by rw[k];omega)];decide
  have c:(List.foldl (λe f=>e++f) #[] (List.replicate x.toNat items)).size<=sizeLine:=by rw[AutoListH.size_joined,k,Nat.mul_comm];simpa using q
  wp_walk using wpAny_loadPart' b
  refine QgQ (Qdq p) ?_
  wp_walk using wpAny_loadPart' b
  refine QgQ (Qdq r) ?_
  wp_walk using wpAny_loadPart' b
  refine QgQ (Qdq m) ?_
  wp_walk using wpAny_loadPart' b
  refine QgQ (Qdq v) ?_
  wp_walk using wpAny_loadPart' b
  refine QgQ (Qdq y) ?_
  wp_walk using wpAny_loadPart' b
  refine QgQ (Qdq (Nat.not_lt.mpr c)) ?_
  wp_walk
  exact⟨_,rfl,h⟩
section
variable{X:Cx}{a b:Expr}{pos:Pos}
def F6(K:PySem.W.Frag):R2:=λx y H Q=>∃a k c,x=.ref a/\y=.int k/\ic K H a c/\c≠[]/\2<=k/\k<2^63/\c.length*k.toNat<=sizeLine/\∀p,H p=none->Q (.ref p) (upd H p (.tup (List.replicate k.toNat c).flatten))
def EN:jI X (binaryOp .Mult) (F6 X.K):=by
 intro w s P H x y v u Q I M J h
 obtain⟨l,k,B,rfl,rfl,ha,hx,h1,h2,hz,q⟩:=h
 cases M
 obtain⟨t,rfl⟩:=J
 obtain⟨c,g,N,_⟩:=I.tuple ha
 obtain⟨⟨A,j,m,r⟩,d,i,n,p⟩:=id N
 simp only at i p
 subst i p
 have f:c.toArray.size*k.toNat<=sizeLine:=by rw[Qjq,←g.length];exact hz
 have e:List.foldl (λC L=>C++L) #[] (List.replicate k.toNat c.toArray)=(List.replicate k.toNat c).flatten.toArray:=by
  have:=foldl_rep c k.toNat []
  rw[List.nil_append] at this
  exact this
 refine wpAny_binaryOp_repeat_ref (T:="tuple") (U:="int") (by decide) ⟨_,d,rfl⟩ (λG=>typeIs_int G k t) oE F.fills_int_mul F.slot_int_rmul uW F.slot_int_index.lookup
  (call_meets F.slot_int_rmul (typeIs_int s k t) F.entry_int_rmul (F.args_int_rmul_2 _ _) (zq k t l c.toArray n j r)
   ⟨d,rfl,⟨_,d,rfl⟩,call_meets F.slot_tuple_mul ⟨_,d,rfl⟩ F.entry_tuple_mul (F.args_tuple_mul_2 _ _) (A7 l c.toArray n j r k t h1 h2 (λz=>hx (g.nil_iff.mp (by simpa using z))) f) ⟨d,?_⟩⟩)
 rw[e]
 refine⟨.ref s.heap.objs.size,_,I.laid (t':=s.toks) (o:=.tup (List.replicate k.toNat B).flatten) (λb R q=>Qcq _ q) (Qmq _) ?_,rfl,q _ (I.hok.fresh (Qmq _))⟩
 exact⟨by rw[len_rep,Nat.mul_comm];exact hz,_,g.rep k.toNat,vf.new _ _⟩
def wR:rp:=λ_ x y=>match x,y with
 |.tup i,.int k=>if 2<=k/\k<2^63/\i≠[]/\i.length*k.toNat<=sizeLine then some (.tup (List.replicate k.toNat i).flatten) else none
 |_,_=>none
def GY{M:Md}:jS M (F6 M.K) wR:=by
 intro m S H x y d u v Q l j h e q
 cases j with
 | tup i g=>
   cases h with
   | int k=>
     simp only[wR] at e
     split at e <;>cases e
     rename_i c
     refine⟨_,k,_,rfl,rfl,ic.of i,λz=>c.2.2.1 ?_,c.1,c.2.1,by rw[←g.length];exact c.2.2.2,λp f=>q _ _ (b9.laid f) (l.lay f) (.tup bQ ((g.rep _).ext (b9.laid f)))⟩
     have:=g.length
     rw[z] at this
     exact List.length_eq_zero_iff.mp this
   |_=>simp only[wR,reduceCtorEq] at e
 |_=>simp only[wR,reduceCtorEq] at e
def GC{f g:bA}(c:PE X a (tD (md X) f))(d:PE X b (tD (md X) g)):PE X (.BinOp a .Mult b pos) (tD (md X) (aG wR f g)):=mR GY (oI EN c d)
end
end DL
namespace W28
open PySem PySem.Spec L2 DL
abbrev aQ(k:Int):=cF (.int k)
abbrev aJ(k:Nat):=au (av k)
abbrev sx(k:Int):=au (cF (.int k))
def ub:cZ:=
 (aK (bu 2 (aQ 0))
 (aK (gg (aV (aG Kv (av 1) (kT (cq (av 0))))) (bu 2 (Ap Ft (au (aG aS (av 0) (av 1)) aA))) gr)
 (aK (bu 3 (aG lM (aG pF (av 2) (aG lM (aG uP (aQ 10) (aQ 60)) (aG uP (aQ 10) (aQ 60)))) (Ap intOfD (au (aG KR (av 2) (aG uP (aQ 10) (aQ 18))) aA))))
 (Gq (gn (aJ 3 (au (aG pF (aG cJ (aG cJ (av 2) (aG lM (aQ 104729) (av 1))) (aQ 7)) (aQ 2305843009213693951)) (sx 0 aA))))))))
def kO:dE:=fD 4 ub
def rK:cZ:=
 (aK (gg (aV (aG Ir (aG aS (av 0) (aQ 0)) (aQ 0))) (aK (bu 2 (aG pF (aG aS (av 0) (aQ 0)) (av 1)))
 (aK (p8 (aG xB (aG aS (av 0) (aQ 0)) (av 1)) (Iq (av 0) (aQ 0)))
 (cK (av 2)))) gr)
 (aK (Kf (av 0) (aQ 2) (aQ 1))
 (aK (bu 3 (aG pF (aG cJ (aG cJ (aG lM (aG aS (av 0) (aQ 1)) (aQ 69069)) (aG lM (aQ 9973) (aG aS (av 0) (aQ 2)))) (aQ 5)) (aQ 2305843009213693921)))
 (aK (p8 (aG pF (aG lM (av 3) (aG cJ (aG cJ (aG pF (av 3) (aQ 999983)) (aG lM (aQ 2) (aG aS (av 0) (aQ 2)))) (aQ 3))) (aQ 2305843009213693907)) (Iq (av 0) (aQ 1)))
 (cK (aG pF (aG xB (aG aS (av 0) (aQ 1)) (aQ 65537)) (av 1)))))))
def cu:dE:=fD 4 rK
def lS:cZ:=
 (cK (aG aS (av 1) (aF cu (aJ 0 (au (Ey (av 1)) aA)))))
def fP:dE:=fD 2 lS
def oW:cZ:=
 (aK (bu 2 (aG aS (i6 (gn (au (cF (.str "at once")) (au (cF (.str "when free")) aA)))) (aF cu (aJ 0 (sx 2 aA)))))
 (aK (bu 3 (aG aS (i6 (gn (au (cF (.str "row")) (au (cF (.str "turns")) aA)))) (Ap intOfD (au (aG Ir (aF cu (aJ 0 (sx 3 aA))) (aQ 0)) aA))))
 (aK (bu 4 (i6 (gn (au (aX (au (cF (.str "m")) (aJ 3 aA))) aA))))
 (aK (bu 5 (aX (au (aF fP (aJ 0 (au (cF (.str "az")) aA))) (au (aF fP (aJ 0 (au (i6 (gn (au (cF (.str "row")) (au (cF (.str "turns")) aA)))) aA))) aA))))
 (aK (bu 4 (tupQ (ni (vm (ni (FI (cq (av 4)) (ni (gn (aJ 5 aA)))))))))
 (aK (bu 6 (i6 (dC [none,some 0] (xV (aG Dc (av 1) (aQ 1))) (cy 0) e_ (aG aS (i6 (gn (sx 0 (sx 9 (sx 4 (sx 4 (sx 5 (au (aF cu (aJ 1 (sx 10 aA))) aA)))))))) (aF cu (aJ 1 (sx 6 aA)))))))
 (aK (bu 7 (aX (au (aX (au (cF (.str "ring")) (au (aG wR (aX (au (aX (au (cF (.str "call")) (au (cF (.str "m")) aA))) aA)) (av 1)) aA))) (au (aX (au (cF (.str "stay")) (au (aX (au (aX (au (cF (.str "wait")) (au (cF (.str "m")) (au (cF (.str "given")) aA)))) aA)) aA))) aA))))
 (aK (bu 8 (i6 (dC [none] (sm (cq (av 6))) (cy 0) e_ (aX (au (aX aA) (au (aX (au (aX (au (cF (.str "do")) (au (cF .non) (au (cF (.str "room")) (au (cF (.str "stay")) (aJ 0 aA)))))) aA)) aA))))))
 (aK (bu 9 (aF cu (aJ 0 (aJ 1 aA))))
 (aK (Ek (Eo y8 (av 8) (aJ 9 (au (aX (au (aX aA) (au (aX (au (aX (au (cF (.str "do")) (au (cF .non) (au (cF (.str "room")) (au (cF (.str "ring")) (sx 0 aA)))))) aA)) aA))) aA))))
 (aK (Ek (Eo y8 (av 6) (aJ 9 (au (cF .non) aA))))
 (cK (aX (au (aX (au (aX (au (aX (au (cF (.str "room")) (aJ 2 (au (aX aA) (aJ 4 (aJ 7 aA)))))) aA)) (au (aX aA) (au (aX aA) (au (tupQ (kQ (cq (av 8)))) aA))))) (aJ 6 (aJ 3 (aJ 9 aA)))))))))))))))))
def ix:dE:=Iu 10 oW
def ph:cZ:=
 (aK (gg (aV (aG (iJ false) (av 1) (cF (.str "row")))) (cK (aG cJ (av 0) (aX (au (aX (sx 0 (aJ 3 aA))) aA)))) gr)
 (aK (bu 4 (tupQ (ni (dC [none,some 2] (sm (cq (av 0))) (cy 0) (aV (aG Kp (aG aS (av 0) (aQ 0)) (av 1))) (av 0)))))
 (cK (aG cJ (aG cJ (av 4) (aX (au (aX (aJ 2 (aJ 3 aA))) aA))) (tupQ (ni (dC [none,some 2] (sm (cq (av 0))) (cy 0) (aV (aG Ir (aG aS (av 0) (aQ 0)) (av 1))) (av 0))))))))
def ip:dE:=fD 5 ph
def qO:cZ:=
 (cK (tupQ (ni (dC [none,none] (sm (cq (av 0))) (ju (nG 2 (aN (cy 0) (aN (cy 1) dQ)))) e_ (av 1)))))
def fL:dE:=fD 1 qO
def oV:cZ:=
 (aK (p8 (av 0) (ju (nG 5 (aN (cy 1) (aN (cy 2) (aN (cy 3) (aN (cy 4) (aN (cy 5) dQ))))))))
 (cK (aX (au (aF fL (aJ 3 aA)) (au (cF (.int (-1))) (au (aX aA) (au (aX aA) (au (tupQ (ni (dC [none] (sm (cq (av 4))) (cy 0) e_ (aX aA)))) aA))))))))
def iw:dE:=fD 6 oV
def Cv:cZ:=
 (aK (p8 (av 0) (ju (nG 4 (aN (cy 1) (aN (cy 2) (aN (cy 3) (aN (cy 4) dQ)))))))
 (aK (bu 5 (aX (au (cF (.int (-1))) (au (cF (.int (-1))) (sx 0 (sx 0 (sx 0 aA)))))))
 (cK (aX (au (tupQ (ni (dC [none] (sm (cq (av 1))) (cy 0) e_ (aF iw (aJ 0 aA))))) (au (tupQ (ni (dC [none,none] (sm (cq (av 2))) (ju (nG 2 (aN (cy 0) (aN (cy 1) dQ)))) e_ (aX (aJ 1 (au (aX aA) aA)))))) (au (aF fL (aJ 3 aA)) (au (tupQ (ni (dC [none,none,some 5] (sm (cq (av 4))) (ju (nG 2 (aN (cy 0) (aN (cy 1) dQ)))) e_ (aX (au (aF fL (aJ 0 aA)) (au (aX (aJ 2 aA)) aA)))))) aA))))))))
def qx:dE:=fD 6 Cv
def oY:cZ:=
 (cK (aG aS (aG aS (aG aS (aG aS (av 0) (aQ 3)) (av 1)) (aQ 1)) (sT (aQ 1))))
def cA:dE:=fD 2 oY
def oU:cZ:=
 (aK (FK 3 4 (au (aG aS (av 2) (aQ 0)) (au (aG aS (av 2) (aQ 1)) aA)))
 (aK (gg (aV (aG (iJ false) (av 3) (cF (.int (-1))))) (cK (aG aS (aG aS (aG aS (av 0) (aQ 3)) (av 1)) (aQ 1))) gr)
 (cK (aG aS (aG aS (aG aS (aG aS (aG aS (av 0) (aQ 0)) (av 3)) (aQ 4)) (av 4)) (aQ 1)))))
def eg:dE:=fD 5 oU
def ue:cZ:=
 (Gq (dC [none] (sm (cq (av 0))) (cy 0) e_ (aG aS (av 0) (aQ 0))))
def dW:dE:=fD 1 ue
def tf:cZ:=
 (cK (A2 (ni (fA dW (aJ 0 aA))) (av 1)))
def c9:dE:=fD 2 tf
def rY:cZ:=
 (cK (aG cJ (aG cJ (pD (av 0) pU (pM (av 1))) (aX (aJ 2 aA))) (pD (av 0) (pM (aG cJ (av 1) (aQ 1))) pU)))
def dk:dE:=fD 3 rY
def r9:cZ:=
 (cK (aG cJ (pD (av 0) pU (pM (aQ 3))) (aX (au (aF dk (au (aG aS (av 0) (aQ 3)) (aJ 1 (au (aX (aJ 2 (aJ 3 aA))) aA)))) aA))))
def eV:dE:=fD 4 r9
def rP:cZ:=
 (cK (aG cJ (aX (au (aF dk (au (aG aS (av 0) (aQ 0)) (aJ 1 (aJ 2 aA)))) aA)) (pD (av 0) (pM (aQ 1)) pU)))
def cT:dE:=fD 3 rP
def l_:cZ:=
 (aK (bu 5 (aG aS (aF cA (aJ 1 (aJ 2 aA))) (aQ 0)))
 (aK (gg (aV (aG (iJ true) (av 5) (cF (.int (-1))))) (aK (bu 6 (aF c9 (au (aG aS (aG aS (aG aS (av 0) (aQ 0)) (av 5)) (aQ 2)) (aJ 3 aA))))
 (aK (bu 7 (aF dk (au (aG aS (aG aS (aG aS (av 1) (aQ 0)) (av 5)) (aQ 0)) (aJ 6 (aJ 4 aA)))))
 (cK (aF cT (aJ 1 (aJ 5 (au (aG cJ (aX (aJ 7 aA)) (pD (aG aS (aG aS (av 1) (aQ 0)) (av 5)) (pM (aQ 1)) pU)) aA))))))) gr)
 (aK (gg (aV (B4 false (av 3) (ni (fA dW (au (aG aS (av 0) (aQ 2)) aA))))) (aK (bu 8 (aF dk (au (aG aS (av 1) (aQ 2)) (au (aF c9 (au (aG aS (av 0) (aQ 2)) (aJ 3 aA))) (aJ 4 aA)))))
 (cK (aX (au (aG aS (av 1) (aQ 0)) (au (aG aS (av 1) (aQ 1)) (aJ 8 (au (aG aS (av 1) (aQ 3)) aA))))))) gr)
 (aK (p8 (aG aS (aG aS (av 1) (aQ 3)) (av 2)) (ju (nG 2 (aN (cy 7) (aN (cy 9) dQ)))))
 (aK (bu 6 (aF c9 (au (aG aS (aG aS (aG aS (av 0) (aQ 3)) (av 2)) (aQ 0)) (aJ 3 aA))))
 (cK (aF eV (aJ 1 (aJ 2 (au (aF dk (aJ 7 (aJ 6 (aJ 4 aA)))) (aJ 9 aA)))))))))))
def eZ:dE:=fD 10 l_
def lA:cZ:=
 (aK (gg (aV (aG (iJ false) (av 0) (cF (.str "plus")))) (cK (Ap minD (au (aG cJ (av 1) (av 2)) (au (cF (.int (9))) aA)))) gr)
 (aK (gg (aV (aG (iJ false) (av 0) (cF (.str "minus")))) (cK (Ap maxD (au (aG Dc (av 1) (av 2)) (sx 0 aA)))) gr)
 (aK (gg (aV (aG (iJ false) (av 0) (cF (.str "less")))) (cK (nu (aV (aG Kv (av 1) (av 2))) (aQ 1) (aQ 0))) gr)
 (aK (gg (aV (aG (iJ false) (av 0) (cF (.str "same")))) (cK (nu (aV (aG (iJ false) (av 1) (av 2))) (aQ 1) (aQ 0))) gr)
 (cK (nu (xw (aV (aG (iJ true) (av 1) (aQ 0))) (aV (aG (iJ true) (av 2) (aQ 0)))) (aQ 1) (aQ 0)))))))
def fW:dE:=fD 3 lA
def ug(self:dE):cZ:=
 (aK (gg (kU (oz "int" (av 0))) (cK (av 0)) gr)
 (aK (gg (kU (oz "str" (av 0))) (cK (J4 (av 1) (av 0))) gr)
 (aK (gg (aV (aG (iJ false) (aG aS (av 0) (aQ 0)) (cF (.str "waits")))) (cK (nu (aV (aG Ir (J4 (av 2) (aG aS (av 0) (aQ 1))) (aQ 0))) (aQ 1) (aQ 0))) gr)
 (aK (bu 3 (aF self (au (aG aS (av 0) (aQ 1)) (aJ 1 (aJ 2 aA)))))
 (aK (gg (aV (aG (iJ false) (aG aS (av 0) (aQ 0)) (cF (.str "not")))) (cK (nu (aV (aG (iJ false) (av 3) (aQ 0))) (aQ 1) (aQ 0))) gr)
 (cK (aF fW (au (aG aS (av 0) (aQ 0)) (aJ 3 (au (aF self (au (aG aS (av 0) (aQ 2)) (aJ 1 (aJ 2 aA)))) aA))))))))))
def fO:Nat->dE
 |0=>λ_ _=>none
 |n+1=>fD 4 (ug (fO n))
def nO:cZ:=
 (aK (bu 4 (aF cA (aJ 1 (aJ 2 aA))))
 (aK (bu 5 (aG aS (av 4) (aQ 0)))
 (aK (gg (aV (aG (iJ false) (av 5) (cF (.int (-1))))) (aK (bu 6 (Ik (ni (fA dW (au (aG aS (av 0) (aQ 2)) aA))) (cq (aG aS (av 1) (aQ 2)))))
 (aK (Ek (FE (av 6) (Ik (ni (fA dW (au (aG aS (aG aS (aG aS (av 0) (aQ 3)) (av 2)) (aQ 0)) aA))) (cq (aG aS (aG aS (aG aS (av 1) (aQ 3)) (av 2)) (aQ 0))))))
 (cK (aF (fO 6) (aJ 3 (aJ 6 (au K1 aA))))))) gr)
 (aK (bu 6 (Ik (ni (fA dW (au (aG aS (aG aS (aG aS (av 0) (aQ 0)) (av 5)) (aQ 2)) aA))) (cq (aG aS (aG aS (aG aS (av 1) (aQ 0)) (av 5)) (aQ 0)))))
 (aK (Kk (av 6) (cF (.str "given")) (aG aS (av 4) (aQ 3)))
 (aK (Ko 7 (qU [none,none] (xH (ni (fA dW (au (aG aS (aG aS (aG aS (av 0) (aQ 0)) (av 5)) (aQ 3)) aA))) (cq (aG aS (aG aS (aG aS (av 1) (aQ 0)) (av 5)) (aQ 4)))) (ju (nG 2 (aN (cy 0) (aN (cy 1) dQ)))) e_ (av 0) (kT (cq (av 1)))))
 (cK (aF (fO 6) (aJ 3 (aJ 6 (aJ 7 aA)))))))))))
def dz:dE:=fD 8 nO
def Ac:cZ:=
 (cK (aF eZ (aJ 0 (aJ 1 (aJ 2 (au (aG aS (av 3) (aQ 1)) (au (aF dz (aJ 0 (aJ 1 (aJ 2 (au (aG aS (av 3) (aQ 2)) aA))))) aA)))))))
def pY:dE:=fD 4 Ac
def iO:cZ:=
 (aK (p8 (aG aS (aG aS (av 0) (aQ 3)) (av 1)) (ju (nG 2 (aN (cy 3) (aN (cy 4) dQ)))))
 (cK (aF eV (aJ 0 (aJ 1 (aJ 3 (au (aG cJ (pD (av 4) pU (pM (sT (aQ 1)))) (aX (aJ 2 aA))) aA)))))))
def dA:dE:=fD 5 iO
def Ah:cZ:=
 (aK (bu 3 (aF cA (aJ 0 (aJ 1 aA))))
 (cK (aF dA (aJ 0 (aJ 1 (au (aG cJ (aG cJ (pD (av 3) pU (pM (aQ 2))) (aX (aJ 2 aA))) (pD (av 3) (pM (aQ 3)) pU)) aA))))))
def jl:dE:=fD 4 Ah
def rO:cZ:=
 (aK (gg (aV (aG (iJ false) (aF dz (aJ 0 (aJ 1 (aJ 2 (au (aG aS (av 3) (aQ 1)) aA))))) (aQ 0))) (cK (aF jl (aJ 1 (aJ 2 (au (aG aS (av 3) (aQ 2)) aA))))) gr)
 (cK (av 1)))
def jy:dE:=fD 4 rO
def C9:cZ:=
 (cK (aF jl (aJ 1 (aJ 2 (au (aG aS (av 3) (aQ 1)) aA)))))
def uC:dE:=fD 4 C9
def xP:cZ:=
 (aK (p8 (aG aS (aG aS (av 0) (aQ 0)) (av 1)) (ju (nG 5 (aN (cy 3) (aN (cy 4) (aN (cy 5) (aN (cy 6) (aN (cy 7) dQ))))))))
 (aK (gg (aV (aG (iJ false) (av 4) (cF (.int (-1))))) (cK (aF cT (aJ 0 (aJ 1 (au (aX (aJ 3 (aJ 2 (aJ 5 (aJ 6 (aJ 7 aA)))))) aA))))) gr)
 (cK (aF cT (aJ 0 (aJ 1 (au (aX (aJ 3 (aJ 4 (au (aG cJ (av 5) (aX (aJ 2 aA))) (aJ 6 (aJ 7 aA)))))) aA)))))))
def jZ:dE:=fD 8 xP
def Dw:cZ:=
 (aK (bu 4 (aF c9 (au (aG aS (av 0) (aQ 0)) (au (aG aS (av 3) (aQ 2)) aA))))
 (aK (bu 5 (aF c9 (au (aG aS (aG aS (aG aS (av 0) (aQ 0)) (av 4)) (aQ 4)) (au (aG aS (av 3) (aQ 3)) aA))))
 (aK (bu 6 (aX (aJ 4 (aJ 5 (sx 0 (au (aF dz (aJ 0 (aJ 1 (aJ 2 (au (aG aS (av 3) (aQ 4)) aA))))) (sx 0 aA)))))))
 (aK (p8 (aG aS (aG aS (av 1) (aQ 3)) (av 2)) (ju (nG 2 (aN (cy 7) (aN (cy 8) dQ)))))
 (cK (aF jZ (au (aF eV (aJ 1 (aJ 2 (aJ 7 (au (aG cJ (av 8) (aX (aJ 6 aA))) aA))))) (aJ 4 (aJ 2 aA)))))))))
def vJ:dE:=fD 9 Dw
def xR:cZ:=
 (aK (bu 4 (aG aS (aF cA (aJ 1 (aJ 2 aA))) (aQ 0)))
 (cK (aX (aJ 4 (au (aF c9 (au (aG aS (aG aS (aG aS (av 0) (aQ 0)) (av 4)) (aQ 3)) (aJ 3 aA))) aA)))))
def jd:dE:=fD 5 xR
def rj:cZ:=
 (aK (bu 4 (aG aS (aG aS (av 0) (aQ 0)) (av 1)))
 (cK (aF cT (aJ 0 (aJ 1 (au (aG cJ (pD (av 4) pU (pM (aQ 4))) (aX (au (aF dk (au (aG aS (av 4) (aQ 4)) (aJ 2 (aJ 3 aA)))) aA))) aA))))))
def eS:dE:=fD 5 rj
def D9:cZ:=
 (aK (p8 (aG aS (aG aS (av 0) (aQ 0)) (av 1)) (ju (nG 5 (aN (cy 2) (aN (cy 3) (aN (cy 4) (aN (cy 5) (aN (cy 6) dQ))))))))
 (aK (gg (kU (av 5)) (cK (aF cT (aJ 0 (aJ 1 (au (aX (aJ 2 (au (aG aS (av 5) (aQ 0)) (aJ 4 (au (pD (av 5) (pM (aQ 1)) pU) (aJ 6 aA)))))) aA))))) gr)
 (aK (gg (kU (av 4)) (cK (aF cT (aJ 0 (aJ 1 (au (aX (aJ 2 (au (aG aS (av 4) (aQ 0)) (au (pD (av 4) (pM (aQ 1)) pU) (aJ 5 (aJ 6 aA)))))) aA))))) gr)
 (cK (aF cT (aJ 0 (aJ 1 (au (aX (aJ 2 (au (cF (.int (-1))) (aJ 4 (aJ 5 (aJ 6 aA)))))) aA))))))))
def oq:dE:=fD 7 D9
def xN:cZ:=
 (aK (p8 (aF jd (aJ 0 (aJ 1 (aJ 2 (au (aG aS (av 3) (aQ 1)) aA))))) (ju (nG 2 (aN (cy 4) (aN (cy 5) dQ)))))
 (aK (bu 6 (aQ 0))
 (aK (gg (aV (aG (iJ false) (aG aS (aG aS (aG aS (aG aS (aG aS (av 0) (aQ 0)) (av 4)) (aQ 3)) (av 5)) (aQ 1)) (cF (.str "turns")))) (bu 6 (aF dz (aJ 0 (aJ 1 (aJ 2 (au (aG aS (av 3) (aQ 2)) aA)))))) gr)
 (aK (bu 7 (aG aS (aG aS (aG aS (aG aS (av 1) (aQ 0)) (av 4)) (aQ 4)) (av 5)))
 (aK (bu 8 (kT (ni (dC [none,none,some 6] (sm (cq (av 7))) (ju (nG 2 (aN (cy 0) (aN (cy 1) dQ)))) (aV (aG Kp (av 0) (av 2))) (av 0)))))
 (aK (bu 9 (aF eS (aJ 1 (aJ 4 (aJ 5 (au (aG cJ (aG cJ (pD (av 7) pU (pM (av 8))) (aX (au (aX (aJ 6 (aJ 2 aA))) aA))) (pD (av 7) (pM (av 8)) pU)) aA))))))
 (cK (aF oq (aJ 9 (aJ 4 aA))))))))))
def ml:dE:=fD 10 xN
def wJ:cZ:=
 (aK (p8 (aF jd (aJ 0 (aJ 1 (aJ 2 (au (aG aS (av 3) (aQ 1)) aA))))) (ju (nG 2 (aN (cy 4) (aN (cy 5) dQ)))))
 (aK (bu 6 (aG aS (aG aS (aG aS (aG aS (av 1) (aQ 0)) (av 4)) (aQ 4)) (av 5)))
 (aK (gg (xY (kU (av 6))) (cK (av 1)) gr)
 (aK (bu 7 (aF eS (aJ 1 (aJ 4 (aJ 5 (au (pD (av 6) (pM (aQ 1)) pU) aA))))))
 (aK (gg (aV (aG (iJ false) (aG aS (aG aS (aG aS (av 0) (aQ 0)) (av 4)) (aQ 1)) (cF (.str "when free")))) (cK (av 7)) gr)
 (aK (p8 (aG aS (aG aS (av 7) (aQ 0)) (av 4)) (ju (nG 5 (aN (cy 8) (aN (cy 9) (aN (cy 10) (aN (cy 11) (aN (cy 12) dQ))))))))
 (cK (aF cT (aJ 7 (aJ 4 (au (aX (aJ 8 (au (aG aS (aG aS (av 6) (aQ 0)) (aQ 1)) (aJ 10 (au (aG cJ (av 11) (aX (aJ 2 aA))) (aJ 12 aA)))))) aA)))))))))))
def mF:dE:=fD 13 wJ
def An:cZ:=
 (aK (p8 (aF jd (aJ 0 (aJ 1 (aJ 2 (au (aG aS (av 3) (aQ 1)) aA))))) (ju (nG 2 (aN (cy 4) (aN (cy 5) dQ)))))
 (cK (aF eS (aJ 1 (aJ 4 (aJ 5 (au (aX aA) aA)))))))
def p5:dE:=fD 6 An
def xf:cZ:=
 (aK (bu 4 (aF dz (aJ 0 (aJ 1 (aJ 2 (au (aG aS (av 3) (aQ 1)) aA))))))
 (cK (aF dA (aJ 1 (aJ 2 (au (aG cJ (pD (aF cA (aJ 1 (aJ 2 aA))) pU (pM (aQ 4))) (aX (aJ 4 aA))) aA))))))
def mU:dE:=fD 5 xf
def qp:cZ:=
 (cK (aG cJ (aX (au (aG aS (av 0) (aQ 0)) (au (aF dk (au (aG aS (av 0) (aQ 1)) (aJ 1 (aJ 2 aA)))) aA))) (pD (av 0) (pM (aQ 2)) pU)))
def eT:dE:=fD 3 qp
def Dq:cZ:=
 (aK (bu 4 (aF c9 (au (aG aS (av 0) (aQ 1)) (aJ 3 aA))))
 (aK (p8 (aG aS (aG aS (av 1) (aQ 1)) (av 4)) (ju (nG 2 (aN (cy 5) (aN (cy 6) dQ)))))
 (aK (gg (aV (aG Ir (av 5) (aQ 0))) (cK (aF eT (aJ 1 (aJ 4 (au (aX (au (aG Dc (av 5) (aQ 1)) (aJ 6 aA))) aA))))) gr)
 (cK (aF eT (aJ 1 (aJ 4 (au (aX (aJ 5 (au (aG cJ (av 6) (aX (aJ 2 aA))) aA))) aA))))))))
def qY:dE:=fD 7 Dq
def xC:cZ:=
 (cK (aF qY (aJ 0 (aJ 1 (aJ 2 (au (aG aS (av 3) (aQ 1)) aA))))))
def mv:dE:=fD 4 xC
def o8:cZ:=
 (aK (bu 3 (aF c9 (au (aG aS (av 0) (aQ 1)) (aJ 2 aA))))
 (aK (p8 (aG aS (aG aS (av 1) (aQ 1)) (av 3)) (ju (nG 2 (aN (cy 4) (aN (cy 5) dQ)))))
 (aK (gg (kU (av 5)) (cK (aF eT (aJ 1 (aJ 3 (au (aX (aJ 4 (au (pD (av 5) (pM (aQ 1)) pU) aA))) aA))))) gr)
 (cK (aF eT (aJ 1 (aJ 3 (au (aX (au (Ap minD (au (aG cJ (av 4) (aQ 1)) (au (cF (.int (9))) aA))) (aJ 5 aA))) aA))))))))
def gk:dE:=fD 6 o8
def wY:cZ:=
 (cK (aF gk (aJ 0 (aJ 1 (au (aG aS (av 3) (aQ 1)) aA)))))
def mz:dE:=fD 4 wY
def xo:cZ:=
 (cK (aF qY (aJ 0 (au (aF gk (aJ 0 (aJ 1 (au (aG aS (av 3) (aQ 1)) aA)))) (aJ 2 (au (aG aS (av 3) (aQ 2)) aA))))))
def mX:dE:=fD 4 xo
def AO:cZ:=
 (cK (av 1))
def pT:dE:=fD 4 AO
def kN:List (Str×Str):= [("put","by_put"),("unless","by_unless"),("go","by_go"),("do","by_do"),("wait","by_wait"),("call","by_call"),("all","by_all"),("tell","by_tell"),("take","by_take"),("give","by_give"),("pass","by_pass"),("say","by_say")]
def rN:List (Str×dE):= [("by_put",pY),("by_unless",jy),("by_go",uC),("by_do",vJ),("by_wait",ml),("by_call",mF),("by_all",p5),("by_tell",mU),("by_take",mv),("by_give",mz),("by_pass",mX),("by_say",pT)]
def t7:cZ:=
 (aK (bu 4 (Kc kN (aG aS (av 3) (aQ 0))))
 (cK (rf 4 rN (aJ 0 (aJ 1 (aJ 2 (aJ 3 aA)))))))
def iX:dE:=fD 5 t7
def t5:cZ:=
 (aK (p8 (aG aS (aG aS (av 1) (aQ 3)) (av 2)) (ju (nG 2 (aN (cy 3) (aN (cy 4) dQ)))))
 (aK (p8 (aG aS (av 4) (sT (aQ 1))) (ju (nG 5 (aN (cy 5) (aN (cy 6) (aN (cy 7) (aN (cy 8) (aN (cy 9) dQ))))))))
 (aK (bu 10 (aF eV (au (aF oq (aJ 1 (aJ 5 aA))) (aJ 2 (aJ 3 (au (pD (av 4) pU (pM (sT (aQ 1)))) aA))))))
 (aK (bu 11 (aG aS (aF eg (aJ 0 (aJ 2 (au (aG aS (av 4) (sT (aQ 2))) aA)))) (aG Dc (aG aS (aG aS (av 4) (sT (aQ 2))) (aQ 2)) (aQ 1))))
 (aK (gg (aV (aG (sJ false) (aG aS (av 11) (aQ 1)) (cF .non))) (cK (av 10)) gr)
 (cK (aF eZ (aJ 0 (aJ 10 (aJ 2 (au (aG aS (av 11) (aQ 1)) (aJ 9 aA))))))))))))
def iT:dE:=fD 12 t5
def mj:cZ:=
 (aK (bu 3 (aF cA (aJ 1 (aJ 2 aA))))
 (aK (bu 4 (aG aS (av 3) (aQ 0)))
 (aK (gg (xw (aV (aG (iJ true) (av 4) (cF (.int (-1))))) (aV (aG (iJ true) (aG aS (aG aS (aG aS (av 1) (aQ 0)) (av 4)) (aQ 1)) (av 2)))) (cK (aX (au (aF jZ (aJ 1 (aJ 4 (aJ 2 aA)))) (au (cF .non) aA)))) gr)
 (aK (bu 5 (aF eg (aJ 0 (aJ 2 (aJ 3 aA)))))
 (aK (gg (aV (aG (iJ false) (aG aS (av 3) (aQ 2)) (kT (cq (av 5))))) (cK (aX (au (aF iT (aJ 0 (aJ 1 (aJ 2 aA)))) (au (cF .non) aA)))) gr)
 (aK (bu 6 (aG aS (av 5) (aG aS (av 3) (aQ 2))))
 (aK (bu 7 (cF .non))
 (aK (gg (aV (aG (iJ false) (aG aS (av 6) (aQ 0)) (cF (.str "say")))) (bu 7 (aX (aJ 2 (au (aF dz (aJ 0 (aJ 1 (aJ 2 (au (aG aS (av 6) (aQ 1)) aA))))) aA)))) gr)
 (cK (aX (au (aF iX (aJ 0 (au (aF jl (aJ 1 (aJ 2 (au (aG cJ (aG aS (av 3) (aQ 2)) (aQ 1)) aA)))) (aJ 2 (aJ 6 aA))))) (aJ 7 aA))))))))))))
def j0:dE:=fD 8 mj
def tO:cZ:=
 (Gq (dC [none,none] (sm (cq (av 0))) (ju (nG 2 (aN (cy 0) (aN (cy 1) dQ)))) e_ (av 1)))
def jf:dE:=fD 1 tO
def jY:cZ:=
 (aK (bu 1 (i6 (gn aA)))
 (aK (pE (sm (cq (aG aS (av 0) (aQ 1)))) (ju (nG 2 (aN (cy 2) (aN (cy 3) dQ)))) (Ek (uj (av 1) (cq (av 3)))))
 (aK (pE (sm (cq (aG aS (av 0) (aQ 0)))) (ju (nG 5 (aN (cy 4) (aN (cy 5) (aN (cy 3) (aN (cy 6) (aN (cy 7) dQ))))))) (aK (Ek (uj (av 1) (cq (aG cJ (av 3) (av 6)))))
 (pE (sm (cq (av 7))) (cy 8) (Ek (C_ (av 1) (ni (fA jf (aJ 8 aA))))))))
 (cK (av 1)))))
def ed:dE:=fD 9 jY
def kA:cZ:=
 (aK (bu 3 (aF cA (aJ 1 (aJ 2 aA))))
 (cK (xv (aG (iJ false) (aG aS (av 3) (aQ 0)) (cF (.int (-1)))) (aG (iJ false) (aG aS (av 3) (aQ 2)) (kT (cq (aF eg (aJ 0 (aJ 2 (aJ 3 aA))))))))))
def fu:dE:=fD 4 kA
def um:cZ:=
 (aK (bu 2 (i6 (fA ed (aJ 1 aA))))
 (Gq (dC [none,some 0,some 1,some 2] (xV (kT (cq (aG aS (av 1) (aQ 3))))) (cy 0) (xw (aV (B4 true (av 0) (cq (av 3)))) (xY (kU (aF fu (aJ 1 (aJ 2 (aJ 0 aA))))))) (av 0))))
def i8:dE:=fD 3 um
def zT:cZ:=
 (aK (bu 2 (aF qx (aJ 0 aA)))
 (aK (bu 3 (i6 (gn aA)))
 (aK (pE (Aw (cq (av 1))) (ju (nG 2 (aN (cy 4) (aN (cy 5) dQ)))) (aK (gg (aV (B4 true (av 5) (ni (fA i8 (aJ 0 (aJ 2 aA)))))) never gr)
 (aK (p8 (aF j0 (aJ 0 (aJ 2 (aJ 5 aA)))) (ju (nG 2 (aN (cy 2) (aN (cy 6) dQ)))))
 (gg (aV (aG (sJ true) (av 6) (cF .non))) (Ek (Eo DG (av 3) (aJ 6 aA))) gr))))
 (cK (aX (aJ 2 (au (tupQ (kQ (cq (av 3)))) aA)))))))
def mJ:dE:=fD 7 zT
def wj:cZ:=
 (aK (gg (aV (B4 true (av 2) (ni (fA i8 (aJ 0 (aJ 1 aA)))))) never gr)
 (cK (aF j0 (aJ 0 (aJ 1 (aJ 2 aA))))))
def iW:dE:=fD 3 wj
def jr(self:dE):cZ:=
 (aK (gg (kU (oz "tuple" (av 1))) (aK (gg (El (xY (kU (oz "tuple" (av 0)))) (aV (aG (iJ true) (kT (cq (av 0))) (kT (cq (av 1)))))) (cK (cF (.bl false))) gr)
 (cK (FZ (ni (dC [none,none] (xH (cq (av 0)) (cq (av 1))) (ju (nG 2 (aN (cy 0) (aN (cy 1) dQ)))) e_ (aF self (aJ 0 (aJ 1 aA)))))))) gr)
 (aK (gg (El (kU (oz "str" (av 1))) (aV (aG (sJ false) (av 1) (cF .non)))) (cK (xv (aG (iJ false) (oz "str" (av 0)) (oz "str" (av 1))) (aG (iJ false) (av 0) (av 1)))) gr)
 (cK (xv (oz "int" (av 0)) (xv (FD (oz "bool" (av 0))) (aG (iJ false) (av 0) (av 1)))))))
def eQ:Nat->dE
 |0=>λ_ _=>none
 |n+1=>fD 2 (jr (eQ n))
def sj:cZ:=
 (aK (bu 2 (i6 (dC [none,none] (sm (cq (aG aS (aG aS (aG aS (av 0) (aQ 0)) (aQ 0)) (aQ 3)))) (ju (nG 2 (aN (cy 0) (aN (cy 1) dQ)))) e_ (av 0))))
 (cK (aG aS (aG aS (aG aS (aG aS (av 1) (aQ 0)) (aQ 0)) (aQ 4)) (A2 (cq (av 2)) (cF (.str "m"))))))
def h_:dE:=fD 3 sj
def jK:cZ:=
 (aK (pE (xH (cq (aG aS (av 0) (aQ 1))) (cq (aG aS (av 1) (aQ 1)))) (ju (nG 2 (aN (ju (nG 2 (aN (cy 3) (aN (cy 4) dQ)))) (aN (ju (nG 2 (aN (cy 5) (aN (cy 6) dQ)))) dQ)))) (gg (aV (B4 false (av 2) (cq (av 6)))) (cK (aX (au (cF (.str "pass")) (aJ 3 aA)))) gr))
 (aK (pE (xH (cq (aG aS (av 0) (aQ 0))) (cq (aG aS (av 1) (aQ 0)))) (ju (nG 2 (aN (cy 7) (aN (cy 8) dQ)))) (aK (gg (aV (B4 false (av 2) (cq (aG aS (av 8) (aQ 2))))) (cK (aX (au (cF (.str "row")) (au (aG aS (av 7) (aQ 0)) aA)))) gr)
 (aK (gg (aV (B4 false (av 2) (cq (aG aS (av 8) (aQ 3))))) (cK (aX (au (cF (.str "late")) (au (aG aS (av 7) (aQ 0)) aA)))) gr)
 (pE (xH (cq (aG aS (av 7) (aQ 3))) (cq (aG aS (av 8) (aQ 4)))) (ju (nG 2 (aN (ju (nG 2 (aN (cy 9) (aN (cy 10) dQ)))) (aN (cy 11) dQ)))) (gg (aV (B4 false (av 2) (ni (fA jf (aJ 11 aA))))) (cK (aX (au (cF (.str "bell")) (au (aG aS (av 7) (aQ 0)) (aJ 9 aA))))) gr)))))
 (cK (cF .non))))
def eP:dE:=fD 12 jK
def Aj:cZ:=
 (aK (bu 3 (aF eP (aJ 0 (aJ 1 (aJ 2 aA)))))
 (aK (gg (aV (aG (sJ true) (av 3) (cF .non))) (cK (av 3)) gr)
 (aK (bu 4 (aF cA (aJ 1 (aJ 2 aA))))
 (aK (bu 5 (aG aS (av 4) (aQ 0)))
 (aK (gg (aV (aG (iJ false) (av 5) (cF (.int (-1))))) (cK (nu (aV (aG (iJ false) (aG aS (av 4) (aQ 2)) (kT (cq (aF eg (aJ 0 (aJ 2 (aJ 4 aA)))))))) (aX (au (cF (.str "done")) aA)) (aX (au (cF (.str "out")) aA)))) gr)
 (aK (bu 6 (aG aS (aG aS (aG aS (av 0) (aQ 0)) (av 5)) (aQ 0)))
 (cK (nu (aV (aG (iJ false) (aG aS (aG aS (aG aS (av 1) (aQ 0)) (av 5)) (aQ 1)) (av 2))) (aX (au (cF (.str "within")) (aJ 6 aA))) (aX (au (cF (.str "called")) (aJ 6 aA)))))))))))
def fo:dE:=fD 7 Aj
def m_:cZ:=
 (aK (bu 4 (aG aS (aG aS (aG aS (av 0) (aQ 0)) (aQ 0)) (aQ 1)))
 (aK (bu 1 (aG aS (aF iW (aJ 0 (aJ 1 (aJ 3 aA)))) (aQ 0)))
 (aK (gg (xY (kU (aF (eQ 10) (au (aF h_ (aJ 0 (aJ 1 aA))) (au (pD (av 2) (pM (aQ 1)) pU) aA))))) (cK (cF .non)) gr)
 (aK (gg (aV (aG (mG false) (av 2) (aX aA))) (cK (nu (aV (aG (mG false) (aF fo (aJ 0 (aJ 1 (aJ 3 aA)))) (aX (au (cF (.str "within")) (au (cF (.str "room")) aA))))) (av 1) (cF .non))) gr)
 (aK (bu 5 (aG aS (aG aS (av 2) (aQ 0)) (aQ 1)))
 (aK (bu 6 (aG aS (i6 (gn (au (aX (au (cF (.str "called")) (au (cF (.str "room")) aA))) (au (aX (au (cF (.str "within")) (au (cF (.str "room")) aA))) aA)))) (Ap intOfD (au (aG (mG false) (av 4) (cF (.str "at once"))) aA))))
 (aK (bu 7 (aG aS (i6 (gn (au (aX (au (cF (.str "within")) (au (cF (.str "room")) aA))) (au (aX (au (cF (.str "late")) (au (cF (.str "room")) aA))) aA)))) (Ap intOfD (au (aG (mG false) (av 4) (cF (.str "at once"))) aA))))
 (aK (gg (El (aV (aG (mG true) (aF fo (aJ 0 (aJ 1 (aJ 5 aA)))) (av 6))) (aV (aG (mG true) (aF fo (aJ 0 (aJ 1 (aJ 3 aA)))) (av 7)))) (cK (cF .non)) gr)
 (aK (bu 1 (aG aS (aF iW (aJ 0 (aJ 1 (aJ 5 aA)))) (aQ 0)))
 (aK (gg (aV (aG (mG false) (av 4) (cF (.str "when free")))) (cK (nu (aV (aG (mG false) (aF fo (aJ 0 (aJ 1 (aJ 5 aA)))) (aX (au (cF (.str "row")) (au (cF (.str "room")) aA))))) (av 1) (cF .non))) gr)
 (aK (gg (El (aV (aG (mG true) (aF fo (aJ 0 (aJ 1 (aJ 5 aA)))) (aX (au (cF (.str "done")) aA)))) (aV (aG (mG true) (aF fo (aJ 0 (aJ 1 (aJ 3 aA)))) (aX (au (cF (.str "within")) (au (cF (.str "room")) aA)))))) (cK (cF .non)) gr)
 (cK (av 1)))))))))))))
def gQ:dE:=fD 8 m_
def JL:cZ:=
 (aK (pE (xV (Ap maxD (sx 1 (au (Ap minD (au (kT (cq (av 0))) (sx 8 aA))) aA)))) (cy 1) (aK (bu 2 (i6 (fA kO (aJ 0 (aJ 1 aA)))))
 (aK (p8 (aF ix (aJ 2 (au (aG cJ (aQ 2) (aF cu (aJ 2 (sx 3 aA)))) aA))) (ju (nG 4 (aN (cy 3) (aN (cy 4) (aN (cy 5) (aN (cy 6) dQ)))))))
 (aK (gg (aV (aG (mG true) (aG aS (aG aS (aG aS (aF qx (aJ 3 aA)) (aQ 0)) (aQ 0)) (aQ 4)) (aX (au (aX aA) (au (aX aA) aA))))) (cK (cF (.bl false))) gr)
 (aK (bu 7 (i6 (dC [none,some 6] (xV (kT (cq (av 4)))) (cy 0) (aV (aG (mG true) (av 0) (av 1))) (av 0))))
 (aK (p8 (aX (au (aX aA) (au (aX aA) aA))) (ju (nG 2 (aN (cy 8) (aN (cy 9) dQ)))))
 (aK (Ej (aV (qg (cq (av 7)))) (aK (bu 10 (Eo qG (av 7) (au (aF cu (aJ 2 (au (kT (cq (av 7))) aA))) aA)))
 (aK (bu 8 (aG cJ (av 8) (aX (aJ 10 (aJ 10 aA)))))
 (aK (bu 9 (aF ip (aJ 9 (aJ 5 (au (aG aS (av 4) (av 10)) (aJ 10 aA))))))
 (aK (bu 11 (aG aS (aF mJ (aJ 3 (aJ 8 aA))) (aQ 0)))
 (gg (El (xY (kU (aF (eQ 10) (au (aF h_ (aJ 3 (aJ 11 aA))) (aJ 9 aA))))) (aV (aG (mG true) (aF fo (aJ 3 (aJ 11 (aJ 10 aA)))) (aX (au (cF (.str "bell")) (au (cF (.str "room")) (au (cF (.str "m")) aA))))))) (cK (cF (.bl false))) gr))))) 4)
 (aK (bu 11 (aG aS (aF mJ (aJ 3 (au (aG cJ (av 8) (aX (aJ 6 aA))) aA))) (aQ 0)))
 (aK (pE (xV (kT (cq (av 4)))) (cy 12) (aK (bu 11 (aF gQ (aJ 3 (aJ 11 (aJ 9 (aJ 6 aA))))))
 (aK (gg (aV (aG (sJ false) (av 11) (cF .non))) (cK (cF (.bl false))) gr)
 (bu 9 (pD (av 9) (pM (aQ 1)) pU)))))
 (aK (bu 13 (aG aS (aG aS (aG aS (av 11) (aQ 0)) (aQ 0)) (aQ 2)))
 (aK (bu 11 (aG aS (aF iW (aJ 3 (aJ 11 (aJ 6 aA)))) (aQ 0)))
 (gg (El (aV (aG (mG true) (aF fo (aJ 3 (aJ 11 (aJ 6 aA)))) (aX (au (cF (.str "done")) aA)))) (aV (aG (mG true) (aG aS (aG aS (aG aS (av 11) (aQ 0)) (aQ 0)) (aQ 1)) (aG aS (aG cJ (av 13) (aX (au (sT (aQ 1)) aA))) (aQ 0))))) (cK (cF (.bl false))) gr))))))))))))
 (cK (cF (.bl true))))
def ER:dE:=fD 14 JL
def top(i:Nat):Stmt:=PySem.Challenge.pw_calledroom_k25_turns_at_bells.main.body.getD i (.Pass ⟨0,0,0,0⟩)
abbrev lU:Stmt:=top 59
abbrev kr:Stmt:=top 60
abbrev kd:Stmt:=top 61
abbrev jC:Stmt:=top 63
abbrev jg:Stmt:=top 65
abbrev ki:Stmt:=top 10
abbrev jj:Stmt:=top 12
abbrev vD:Stmt:=top 11
abbrev jw:Stmt:=top 13
abbrev jG:Stmt:=top 14
abbrev lR:Stmt:=top 25
abbrev lQ:Stmt:=top 27
abbrev j6:Stmt:=top 15
abbrev ka:Stmt:=top 18
abbrev kn:Stmt:=top 16
abbrev ku:Stmt:=top 29
abbrev hJ:Stmt:=top 6
abbrev lY:Stmt:=top 5
abbrev lB:Stmt:=top 28
abbrev rB:Stmt:=top 33
abbrev fw:Stmt:=top 19
abbrev qm:Stmt:=top 20
abbrev kj:Stmt:=top 34
abbrev vE:Stmt:=top 35
abbrev nB:Stmt:=top 30
abbrev vz:Stmt:=top 36
abbrev ou:Stmt:=top 37
abbrev kc:Stmt:=top 38
abbrev vM:Stmt:=top 31
abbrev oD:Stmt:=top 39
abbrev nK:Stmt:=top 40
abbrev qc:Stmt:=top 41
abbrev nJ:Stmt:=top 42
abbrev kz:Stmt:=top 17
abbrev uS:Stmt:=top 44
abbrev nI:Stmt:=top 43
abbrev jD:Stmt:=top 46
abbrev nM:Stmt:=top 45
abbrev oh:Stmt:=top 47
abbrev qC:Stmt:=top 48
abbrev lT:Stmt:=top 50
abbrev lV:Stmt:=top 32
abbrev og:Stmt:=top 57
abbrev l8:Stmt:=top 23
abbrev gA:Stmt:=top 53
abbrev gw:Stmt:=top 54
abbrev lX:Stmt:=top 52
abbrev rX:Stmt:=top 56
abbrev nE:Stmt:=top 55
abbrev kh:Stmt:=top 62
abbrev ko:Stmt:=top 64
abbrev fT:Stmt:=top 22
abbrev rq:Stmt:=top 21
abbrev iE:Stmt:=top 66
abbrev mD:Stmt:=top 67
end W28
namespace W28
open PySem PySem.Spec L2 DL PyProof.Rows
abbrev Fe:List Str:= ["_law_bell_here","_law_sort","_law_turn","_law_own"]
abbrev zu:List Str:= ["_law_found","_law_due"]
abbrev Jz:List Str:= ["_law_pair","_law_turn"]
abbrev E3:List Str:= ["_law_pot_here","_law_hands"]
abbrev zC:List Str:= ["_law_pot_here","_law_many"]
abbrev w_:List Str:= ["_law_pot_here","_law_some"]
abbrev zU:List Str:= ["_law_script","_law_k"]
abbrev CT:List Str:= ["_law_script"]
abbrev zD:List Str:= ["_law_world_here","_law_scene","_law_bell_here","_law_spot"]
abbrev AN:List Str:= ["_law_world_here","_law_scene"]
abbrev wX:List Str:= ["form","first","second"]
abbrev xl:List Str:= ["line"]
abbrev xX:List Str:= ["parts","at","part"]
abbrev xu:List Str:= ["roll","name"]
abbrev wD:List Str:= ["roll"]
abbrev xg:List Str:= ["room"]
abbrev wC:List Str:= ["scene","at","room"]
abbrev v9:List Str:= ["scene","at","turnstile"]
abbrev AH:List Str:= ["scene","hand","frame"]
abbrev AR:List Str:= ["scene","hand","row"]
abbrev xM:List Str:= ["scene","hand","values","frames"]
abbrev wZ:List Str:= ["scene","hand"]
abbrev Ai:List Str:= ["scene","room","bell","line"]
abbrev zV:List Str:= ["scene","room","hand"]
abbrev z9:List Str:= ["scene","room"]
abbrev Af:List Str:= ["scene"]
abbrev wG:List Str:= ["things"]
abbrev tM:List Str:= ["tree","things","waiting"]
abbrev AD:List Str:= ["world","hand","frame"]
abbrev zF:List Str:= ["world","scene","hand","name"]
abbrev bJ:List Str:= ["world","scene","hand","row"]
abbrev zQ:List Str:= ["world","scene","hand","tree"]
abbrev AI:List Str:= ["world","scene","hand","word","value"]
abbrev zJ:List Str:= ["world","scene","hand","word"]
abbrev dJ:List Str:= ["world","scene","hand"]
abbrev Ay:List Str:= ["world","scene","name"]
abbrev As:List Str:= ["world","scene"]
abbrev zP:List Str:= ["world","weaving"]
abbrev Ab:List Str:= ["world"]
section
variable(P:Program)(w:World)(K:PySem.W.Frag)(mg:Str->Option Value)(base:Heap)
abbrev zy:Prop:=fG P w K mg base 1 "_law_pot" zU kO
abbrev kB:Prop:=fG P w K mg base 1 "_law_take" zC cu
abbrev wA:Prop:=fG P w K mg base 2 "_law_pick" w_ fP
abbrev vg:Prop:=fG P w K mg base 3 "_law_world" E3 ix
abbrev vd:Prop:=fG P w K mg base 1 "_law_stood" Fe ip
abbrev oQ:Prop:=fG P w K mg base 1 "values_of" wG fL
abbrev uM:Prop:=fG P w K mg base 2 "begun_room" xg iw
abbrev z3:Prop:=fG P w K mg base 3 "begun" Ab qx
abbrev dh:Prop:=fG P w K mg base 1 "last_frame" wZ cA
abbrev gS:Prop:=fG P w K mg base 1 "program_of" AD eg
abbrev lZ:Prop:=fG P w K mg base 1 "names_of" wD dW
abbrev hV:Prop:=fG P w K mg base 2 "place_of" xu c9
abbrev gc:Prop:=fG P w K mg base 1 "with_part" xX dk
abbrev iq:Prop:=fG P w K mg base 2 "with_hand" xM eV
abbrev f_:Prop:=fG P w K mg base 2 "with_room" wC cT
abbrev o6:Prop:=fG P w K mg base 3 "put_thing" AI eZ
abbrev qj:Prop:=fG P w K mg base 1 "value_of_two" wX fW
abbrev yU:Prop:=fG P w K mg base 8 "value_of" tM (fO 6)
abbrev fN:Prop:=fG P w K mg base 9 "reckoned" zQ dz
abbrev iC:Prop:=fG P w K mg base 3 "with_last_frame" AH dA
abbrev rH:Prop:=fG P w K mg base 4 "at_row" AR jl
abbrev t8:Prop:=fG P w K mg base 3 "come_in" zV jZ
abbrev nj:Prop:=fG P w K mg base 3 "bell_of" zJ jd
abbrev jV:Prop:=fG P w K mg base 3 "with_line" Ai eS
abbrev AL:Prop:=fG P w K mg base 3 "leave" z9 oq
abbrev o_:Prop:=fG P w K mg base 2 "with_pass" v9 eT
abbrev zN:Prop:=fG P w K mg base 3 "taken" zF qY
abbrev mw:Prop:=fG P w K mg base 3 "given_back" Ay gk
abbrev yQ:Prop:=fG P w K mg base 11 "row_done" bJ iX
abbrev zi:Prop:=fG P w K mg base 4 "end_deed" dJ iT
abbrev tT:Prop:=fG P w K mg base 12 "step_of" dJ j0
abbrev qD:Prop:=fG P w K mg base 1 "hands_at" xl jf
abbrev pN:Prop:=fG P w K mg base 2 "hands_in_rows" Af ed
abbrev pI:Prop:=fG P w K mg base 2 "is_behind_all" dJ fu
abbrev qW:Prop:=fG P w K mg base 3 "may_step" As i8
abbrev DQ:Prop:=fG P w K mg base 13 "walked" zP mJ
abbrev ur:Prop:=fG P w K mg base 13 "stepped" dJ iW
abbrev oT:Prop:=fG P w K mg base 11 "_law_same" zu (eQ 10)
abbrev oK:Prop:=fG P w K mg base 1 "_law_bell" AN h_
abbrev nz:Prop:=fG P w K mg base 2 "place_in_a_row" dJ eP
abbrev v7:Prop:=fG P w K mg base 3 "stands" dJ fo
abbrev sI:Prop:=fG P w K mg base 14 "_law_called" zD gQ
end
section
variable{P:Program}{w:World}{K:PySem.W.Frag}{mg:Str->Option Value}{base:Heap}{f:Addr}{fd:FuncData}
def oM:aL ["_law_script","_law_k","_law_cell","_law_digits"] zU (aD lU):=fK
def wB(F:eN K "_law_pot" "_law_pot" lU f fd)(B:Bl mg):bC P w K mg base d0 1 f fd zU (eM ⟨K,mg⟩ 2 kO):=by
 have b:=oM.nd
 refine bz F oM λc A a s H E d=> ?_
 exact(az (bH 2 b ax)
  (az (cO (bU Gd F8 (v_ 1) (ja rfl B.len (gE (v_ 0))) (bf _)) (aH (bH 2 b (sE HP (d_ C8 rfl B.abs (by rfl) (aq (aE (v_ 0) (v_ 1)) aw))))) bI)
  (az (bH 3 b (qv (qw (v_ 2) (qv (Cc ax ax) (Cc ax ax))) (sE mK (i0 kH rfl B.int (by rfl) (aq (oO IR JH (v_ 2) (Cc ax ax) (bf _)) aw)))))
  (aH (uZ (jL (aq (v_ 3) (aq (qw (cz (cz (v_ 2) (qv ax (v_ 1))) ax) ax) (aq ax aw)))))))))
def m7:aL ["_law_pot_here","_law_many","_law_digit","_law_mixed"] zC (aD kr):=fK
def u3(F:eN K "_law_take" "_law_take" kr f fd)(B:Bl mg):bC P w K mg base d0 1 f fd zC (eM ⟨K,mg⟩ 2 cu):=by
 have b:=m7.nd
 refine bz F m7 λc A a s H E d=> ?_
 exact(az (cO (bU xi xK (aE (v_ 0) ax) ax (bf _)) (az (bH 2 b (qw (aE (v_ 0) ax) (v_ 1)))
  (az (fc (D7 (aE (v_ 0) ax) (v_ 1)) (Gc (v_ 0) ax))
  (aH (aO (v_ 2))))) bI)
  (az (G0 (v_ 0) ax ax)
  (az (bH 3 b (qw (cz (cz (qv (aE (v_ 0) ax) ax) (qv ax (aE (v_ 0) ax))) ax) ax))
  (az (fc (qw (qv (v_ 3) (cz (cz (qw (v_ 3) ax) (qv ax (aE (v_ 0) ax))) ax)) ax) (Gc (v_ 0) ax))
  (aH (aO (qw (D7 (aE (v_ 0) ax) ax) (v_ 1))))))))
def vO:aL w_ w_ (aD kd):=fK
def vH(F:eN K "_law_pick" "_law_pick" kd f fd)(B:Bl mg)(c:kB P w K mg base):bC P w K mg base d0 2 f fd w_ (eM ⟨K,mg⟩ 2 fP):=by
 refine bz F vO λd A a s H E b=> ?_
 exact(aH (aO (aE (v_ 1) (aR c b (aq (v_ 0) (aq (G7 rfl B.len (v_ 1)) aw))))))
def k_:aL ["_law_pot_here","_law_hands","_law_manner","_law_sort","_law_bells","_law_other","_law_turns","_law_deeds","_law_made","_law_spot"] E3 (aD jC):=fK
def sP(F:eN K "_law_world" "_law_world" jC f fd)(B:Bl mg)(c:kB P w K mg base)(e:wA P w K mg base):bC P w K mg base d0 3 f fd E3 (eM ⟨K,mg⟩ 2 ix):=by
 have a:=k_.nd
 refine HZ F k_ λg A d s H E b=> ?_
 exact(az (bH 2 a (aE (jU (jL (aq bh (aq bh aw)))) (aR c b (aq (v_ 0) (aq ax aw)))))
  (az (bH 3 a (aE (jU (jL (aq bh (aq bh aw)))) (sE mK (i0 kH rfl B.int (by rfl) (aq (oO xi xK (aR c b (aq (v_ 0) (aq ax aw))) ax (bf _)) aw)))))
  (az (bH 4 a (jU (jL (aq (aM (aq bh (aq (v_ 3) aw))) aw))))
  (az (bH 5 a (aM (aq (aR e b (aq (v_ 0) (aq bh aw))) (aq (aR e b (aq (v_ 0) (aq (jU (jL (aq bh (aq bh aw)))) aw))) aw))))
  (az (bH 4 a (fV rfl B.tuple (sk (Bb rfl B.sorted (sk (JN (gE (v_ 4)) (sk (jL (aq (v_ 5) aw))))))) (ht:=iz)))
  (az (u7 (n:=6) (N:= ["_law_own","_law_pot_here"]) (js:= [none,some 0]) (bp.gen rfl rfl rfl rfl rfl rfl) rfl (qZ rfl B.range (AC (v_ 1) ax)) (λ_ _ _ _=>(gC 0)) (λ_ _ _ _=>jO) (λ_ _ _ _=>(aE (jU (jL (aq ax (aq ax (aq ax (aq ax (aq ax (aq (aR c b (aq (v_ 1) (aq ax aw))) aw)))))))) (aR c b (aq (v_ 1) (aq ax aw))))) (DA 6 a))
  (az (bH 7 a (aM (aq (aM (aq bh (aq (GC (aM (aq (aM (aq bh (aq bh aw))) aw)) (v_ 1)) aw))) (aq (aM (aq bh (aq (aM (aq (aM (aq bh (aq bh (aq bh aw)))) aw)) aw))) aw))))
  (az (u7 (n:=8) (N:= ["_law_turn"]) (js:= [none]) (bp.gen rfl rfl rfl rfl rfl rfl) rfl (g_ (gE (v_ 6))) (λ_ _ _ _=>(gC 0)) (λ_ _ _ _=>jO) (λ_ _ _ _=>(aM (aq (aM aw) (aq (aM (aq (aM (aq bh (aq fZ (aq bh (aq bh (aq (v_ 0) aw)))))) aw)) aw)))) (DA 8 a))
  (az (bH 9 a (aR c b (aq (v_ 0) (aq (v_ 1) aw))))
  (az (lD (wa (v_ 8) (v_ 9) (aM (aq (aM aw) (aq (aM (aq (aM (aq bh (aq fZ (aq bh (aq bh (aq ax aw)))))) aw)) aw)))))
  (az (lD (wa (v_ 6) (v_ 9) fZ))
  (aH (aO (aM (aq (aM (aq (aM (aq (aM (aq bh (aq (v_ 2) (aq (aM aw) (aq (v_ 4) (aq (v_ 7) aw)))))) aw)) (aq (aM aw) (aq (aM aw) (aq (fV rfl B.tuple (F3 (gE (v_ 8))) (ht:=oS)) aw))))) (aq (v_ 6) (aq (v_ 3) (aq (v_ 9) aw))))))))))))))))))
def k0:aL ["_law_bell_here","_law_sort","_law_turn","_law_own","_law_ahead"] Fe (aD jg):=fK
def sN(F:eN K "_law_stood" "_law_stood" jg f fd)(B:Bl mg):bC P w K mg base d0 1 f fd Fe (eM ⟨K,mg⟩ 4 ip):=by
 have b:=k0.nd
 refine bz F k0 λc A a s H E d=> ?_
 exact(az (cO (bU dM dR (v_ 1) bh (bf _)) (aH (aO (cz (v_ 0) (aM (aq (aM (aq ax (aq (v_ 3) aw))) aw))))) bI)
  (az (bH 4 b (fV rfl B.tuple (sk (gD (N:=Jz) (js:= [none,some 2]) (bp.gen rfl rfl rfl rfl rfl rfl) rfl (g_ (gE (v_ 0))) (λ_ _ _ _=>(gC 0)) (λ_ _ _ _=>(wV (bU Gf F5 (aE (v_ 0) ax) (v_ 1) (bf _)))) (λ_ _ _ _=>(v_ 0)))) (ht:=iz)))
  (aH (aO (cz (cz (v_ 4) (aM (aq (aM (aq (v_ 2) (aq (v_ 3) aw))) aw))) (fV rfl B.tuple (sk (gD (N:=Jz) (js:= [none,some 2]) (bp.gen rfl rfl rfl rfl rfl rfl) rfl (g_ (gE (v_ 0))) (λ_ _ _ _=>(gC 0)) (λ_ _ _ _=>(wV (bU xi xK (aE (v_ 0) ax) (v_ 1) (bf _)))) (λ_ _ _ _=>(v_ 0)))) (ht:=iz)))))))
def vi:aL wG wG (aD ki):=fK
def uX(F:eN K "values_of" "values_of" ki f fd)(B:Bl mg):bC P w K mg base d0 1 f fd wG (eM ⟨K,mg⟩ 1 fL):=by
 refine bz F vi λb A a s H E c=> ?_
 exact(aH (aO (fV rfl B.tuple (sk (gD (N:= ["word","value"]) (js:= [none,none]) (bp.gen rfl rfl rfl rfl rfl rfl) rfl (g_ (gE (v_ 0))) (λ_ _ _ _=>(cC rfl (aC (gC 0) (aC (gC 1) bK)))) (λ_ _ _ _=>jO) (λ_ _ _ _=>(v_ 1)))) (ht:=iz))))
def kX:aL ["room","name","manner","things","bells","deeds"] xg (aD jj):=fK
def sG(F:eN K "begun_room" "begun_room" jj f fd)(B:Bl mg)(d:oQ P w K mg base){g:Tok}(e:mg "NOBODY"=some (.int (-1) g)):bC P w K mg base d0 2 f fd xg (eM ⟨K,mg⟩ 1 iw):=by
 have a:=kX.nd
 refine bz F kX λh A b s H E c=> ?_
 exact(az (fc (v_ 0) (cC rfl (aC (bE 1 a) (aC (bE 2 a) (aC (bE 3 a) (aC (bE 4 a) (aC (bE 5 a) bK)))))))
  (aH (aO (aM (aq (aR d c (aq (v_ 3) aw)) (aq (de (eB (v:=.int (-1)) rfl e ⟨_,rfl⟩) λ_ _=>.int (-1)) (aq (aM aw) (aq (aM aw) (aq (fV rfl B.tuple (sk (gD (N:= ["bell"]) (js:= [none]) (bp.gen rfl rfl rfl rfl rfl rfl) rfl (g_ (gE (v_ 4))) (λ_ _ _ _=>(gC 0)) (λ_ _ _ _=>jO) (λ_ _ _ _=>(aM aw)))) (ht:=iz)) aw)))))))))
def xc:aL ["world","rooms","passes","shared","hands","own"] Ab (aD vD):=fK
def Dl(F:eN K "begun" "begun" vD f fd)(B:Bl mg)(e:oQ P w K mg base)(g:uM P w K mg base){h:Tok}(d:mg "OWN"=some (.int (-1) h)):bC P w K mg base d0 3 f fd Ab (eM ⟨K,mg⟩ 1 qx):=by
 have a:=xc.nd
 refine bz F xc λi A c s H E b=> ?_
 exact(az (fc (v_ 0) (cC rfl (aC (bE 1 a) (aC (bE 2 a) (aC (bE 3 a) (aC (bE 4 a) bK))))))
  (az (bH 5 a (aM (aq (de (eB (v:=.int (-1)) rfl d ⟨_,rfl⟩) λ_ _=>.int (-1)) (aq (de (eB (v:=.int (-1)) rfl d ⟨_,rfl⟩) λ_ _=>.int (-1)) (aq ax (aq ax (aq ax aw)))))))
  (aH (aO (aM (aq (fV rfl B.tuple (sk (gD (N:=xg) (js:= [none]) (bp.gen rfl rfl rfl rfl rfl rfl) rfl (g_ (gE (v_ 1))) (λ_ _ _ _=>(gC 0)) (λ_ _ _ _=>jO) (λ_ _ _ _=>(aR g b (aq (v_ 0) aw))))) (ht:=iz)) (aq (fV rfl B.tuple (sk (gD (N:= ["name","value"]) (js:= [none,none]) (bp.gen rfl rfl rfl rfl rfl rfl) rfl (g_ (gE (v_ 2))) (λ_ _ _ _=>(cC rfl (aC (gC 0) (aC (gC 1) bK)))) (λ_ _ _ _=>jO) (λ_ _ _ _=>(aM (aq (v_ 1) (aq (aM aw) aw)))))) (ht:=iz)) (aq (aR e b (aq (v_ 3) aw)) (aq (fV rfl B.tuple (sk (gD (N:= ["things","program","own"]) (js:= [none,none,some 5]) (bp.gen rfl rfl rfl rfl rfl rfl) rfl (g_ (gE (v_ 4))) (λ_ _ _ _=>(cC rfl (aC (gC 0) (aC (gC 1) bK)))) (λ_ _ _ _=>jO) (λ_ _ _ _=>(aM (aq (aR e b (aq (v_ 0) aw)) (aq (aM (aq (v_ 2) aw)) aw)))))) (ht:=iz)) aw)))))))))
end
section
variable{P:Program}{w:World}{K:PySem.W.Frag}{mg:Str->Option Value}{base:Heap}{f:Addr}{fd:FuncData}
def sR:aL wZ wZ (aD jw):=fK
def sy(F:eN K "last_frame" "last_frame" jw f fd)(B:Bl mg):bC P w K mg base d0 1 f fd wZ (eM ⟨K,mg⟩ 2 cA):=by
 refine bz F sR λb A a s H E c=> ?_
 exact(aH (aO (aE (aE (aE (aE (v_ 0) ax) (v_ 1)) ax) (qK ax))))
def k8:aL ["world","hand","frame","room","deed"] AD (aD jG):=fK
def sS(F:eN K "program_of" "program_of" jG f fd)(B:Bl mg){d:Tok}(b:mg "OWN"=some (.int (-1) d)):bC P w K mg base d0 1 f fd AD (eM ⟨K,mg⟩ 3 eg):=by
 have c:=k8.nd
 refine bz F k8 λe A a s H E g=> ?_
 exact(az (JY (GF (i:=3) (j:=4) rfl c rfl rfl (by decide) rfl rfl (aq (aE (v_ 2) ax) (aq (aE (v_ 2) ax) aw)) rfl))
  (az (cO (bU dM dR (v_ 3) (de (eB (v:=.int (-1)) rfl b ⟨_,rfl⟩) λ_ _=>.int (-1)) (bf _)) (aH (aO (aE (aE (aE (v_ 0) ax) (v_ 1)) ax))) bI)
  (aH (aO (aE (aE (aE (aE (aE (v_ 0) ax) (v_ 3)) ax) (v_ 4)) ax)))))
def we:aL wD wD (aD lR):=fK
def yb(F:eN K "names_of" "names_of" lR f fd)(B:Bl mg):bC P w K mg base d0 1 f fd wD (eM ⟨K,mg⟩ 1 dW):=by
 refine bz F we λb A a s H E c=> ?_
 exact(aH (uZ (gD (N:= ["row"]) (js:= [none]) (bp.gen rfl rfl rfl rfl rfl rfl) rfl (g_ (gE (v_ 0))) (λ_ _ _ _=>(gC 0)) (λ_ _ _ _=>jO) (λ_ _ _ _=>(aE (v_ 0) ax)))))
def v5:aL xu xu (aD lQ):=fK
def yh(F:eN K "place_of" "place_of" lQ f fd)(B:Bl mg)(c:lZ P w K mg base):bC P w K mg base d0 2 f fd xu (eM ⟨K,mg⟩ 2 c9):=by
 refine bz F v5 λd A a s H E b=> ?_
 exact(aH (aO (Ae (sk (pJ c b (aq (v_ 0) aw))) (v_ 1))))
def vy:aL xX xX (aD j6):=fK
def vB(F:eN K "with_part" "with_part" j6 f fd)(B:Bl mg):bC P w K mg base d0 1 f fd xX (eM ⟨K,mg⟩ 3 dk):=by
 refine bz F vy λb A a s H E c=> ?_
 exact(aH (aO (cz (cz (cG (v_ 0) dv (dw (v_ 1))) (aM (aq (v_ 2) aw))) (cG (v_ 0) (dw (cz (v_ 1) ax)) dv))))
def uK:aL xM xM (aD ka):=fK
def uL(F:eN K "with_hand" "with_hand" ka f fd)(B:Bl mg)(c:gc P w K mg base):bC P w K mg base d0 2 f fd xM (eM ⟨K,mg⟩ 4 eV):=by
 refine bz F uK λd A a s H E b=> ?_
 exact(aH (aO (cz (cG (v_ 0) dv (dw ax)) (aM (aq (aR c b (aq (aE (v_ 0) ax) (aq (v_ 1) (aq (aM (aq (v_ 2) (aq (v_ 3) aw))) aw)))) aw)))))
def vR:aL wC wC (aD kn):=fK
def vh(F:eN K "with_room" "with_room" kn f fd)(B:Bl mg)(c:gc P w K mg base):bC P w K mg base d0 2 f fd wC (eM ⟨K,mg⟩ 3 cT):=by
 refine bz F vR λd A a s H E b=> ?_
 exact(aH (aO (cz (aM (aq (aR c b (aq (aE (v_ 0) ax) (aq (v_ 1) (aq (v_ 2) aw)))) aw)) (cG (v_ 0) (dw ax) dv))))
def mW:aL ["world","scene","hand","word","value","room","place","values","shared","frames"] AI (aD ku):=fK
def vb(F:eN K "put_thing" "put_thing" ku f fd)(B:Bl mg)(h:dh P w K mg base)(c:hV P w K mg base)(e:gc P w K mg base)(m:f_ P w K mg base)(j:lZ P w K mg base)(g:iq P w K mg base){i:Tok}(l:mg "OWN"=some (.int (-1) i)):bC P w K mg base d0 3 f fd AI (eM ⟨K,mg⟩ 5 eZ):=by
 have b:=mW.nd
 refine bz F mW λk A d s H E a=> ?_
 exact(az (bH 5 b (aE (aR h a (aq (v_ 1) (aq (v_ 2) aw))) ax))
  (az (cO (bU ud uk (v_ 5) (de (eB (v:=.int (-1)) rfl l ⟨_,rfl⟩) λ_ _=>.int (-1)) (bf _)) (az (bH 6 b (aR c a (aq (aE (aE (aE (v_ 0) ax) (v_ 5)) ax) (aq (v_ 3) aw))))
  (az (bH 7 b (aR e a (aq (aE (aE (aE (v_ 1) ax) (v_ 5)) ax) (aq (v_ 6) (aq (v_ 4) aw)))))
  (aH (aO (aR m a (aq (v_ 1) (aq (v_ 5) (aq (cz (aM (aq (v_ 7) aw)) (cG (aE (aE (v_ 1) ax) (v_ 5)) (dw ax) dv)) aw)))))))) bI)
  (az (cO (Ct (v_ 3) (sk (pJ j a (aq (aE (v_ 0) ax) aw)))) (az (bH 8 b (aR e a (aq (aE (v_ 1) ax) (aq (aR c a (aq (aE (v_ 0) ax) (aq (v_ 3) aw))) (aq (v_ 4) aw)))))
  (aH (aO (aM (aq (aE (v_ 1) ax) (aq (aE (v_ 1) ax) (aq (v_ 8) (aq (aE (v_ 1) ax) aw)))))))) bI)
  (az (fc (aE (aE (v_ 1) ax) (v_ 2)) (cC rfl (aC (bE 7 b) (aC (bE 9 b) bK))))
  (az (bH 6 b (aR c a (aq (aE (aE (aE (v_ 0) ax) (v_ 2)) ax) (aq (v_ 3) aw))))
  (aH (aO (aR g a (aq (v_ 1) (aq (v_ 2) (aq (aR e a (aq (v_ 7) (aq (v_ 6) (aq (v_ 4) aw)))) (aq (v_ 9) aw))))))))))))
def pj:aL wX wX (aD hJ):=fK
def pA(F:eN K "value_of_two" "value_of_two" hJ f fd)(B:Bl mg){c:Tok}(b:mg "HIGHEST"=some (.int (9) c)):bC P w K mg base d0 1 f fd wX (eM ⟨K,mg⟩ 3 fW):=by
 refine bz F pj λd A a s H E e=> ?_
 exact(az (cO (bU dM dR (v_ 0) bh (bf _)) (aH (aO (sE yk (d_ (oA rfl) rfl B.min (by rfl) (aq (cz (v_ 1) (v_ 2)) (aq (de (eB (v:=.int (9)) rfl b ⟨_,rfl⟩) λ_ _=>.int (9)) aw)))))) bI)
  (az (cO (bU dM dR (v_ 0) bh (bf _)) (aH (aO (sE D6 (d_ (tF rfl) rfl B.max (by rfl) (aq (AC (v_ 1) (v_ 2)) (aq ax aw)))))) bI)
  (az (cO (bU dM dR (v_ 0) bh (bf _)) (aH (aO (mI (bU Gd F8 (v_ 1) (v_ 2) (bf _)) ax ax))) bI)
  (az (cO (bU dM dR (v_ 0) bh (bf _)) (aH (aO (mI (bU dM dR (v_ 1) (v_ 2) (bf _)) ax ax))) bI)
  (aH (aO (mI (PW.pt (w_and (bU ud uk (v_ 1) ax (bf _)) (ze (bU ud uk (v_ 2) ax (bf _))))) ax ax)))))))
def oX:aL ["tree","things","waiting","first"] tM (aD lY):=fK
theorem oJ(F:eN K "value_of" "value_of" lY f fd)(B:Bl mg)(h:qj P w K mg base)(b:Binds K fd tM [])(g:PySem.W.keepIn K (.ref f)=true)(m:mg "value_of"=some (.ref f)):∀n,bC P w K mg base d0 (2+n) f fd tM (eM ⟨K,mg⟩ 3 (fO n))
 |0=>Av
 | n+1=>by
   have e:fG P w K mg base (2+n) "value_of" tM (fO n):=⟨f,fd,oJ F B h b g m n,b,g,m⟩
   have i:=oX.nd
   refine bz (k:=2+n) F oX λj A d s H E c=> ?_
   have a:=Gh c
   exact(az (cO (jM (mN (T:="int") ⟨rfl,rfl,rfl,rfl,rfl,rfl,rfl⟩ rfl B.isi (v_ 0) (gN (v:=.ty "int") rfl B.int PyProof.Rows.boot_int rfl))) (aH (aO (v_ 0))) bI)
   (az (cO (jM (mN (T:="str") ⟨rfl,rfl,rfl,rfl,rfl,rfl,rfl⟩ rfl B.isi (v_ 0) (gN (v:=.ty "str") rfl B.str PyProof.Rows.boot_str rfl))) (aH (aO (CH a (v_ 1) (v_ 0) (λ_ _=>rfl)))) bI)
   (az (cO (bU dM dR (aE (v_ 0) ax) bh (bf _)) (aH (aO (mI (bU xi xK (CH a (v_ 2) (aE (v_ 0) ax) (λ_ _=>rfl)) ax (bf _)) ax ax))) bI)
   (az (bH 3 i (aR e c (aq (aE (v_ 0) ax) (aq (v_ 1) (aq (v_ 2) aw)))))
   (az (cO (bU dM dR (aE (v_ 0) ax) bh (bf _)) (aH (aO (mI (bU dM dR (v_ 3) ax (bf _)) ax ax))) bI)
   (aH (aO (aR h c (aq (aE (v_ 0) ax) (aq (v_ 3) (aq (aR e c (aq (aE (v_ 0) ax) (aq (v_ 1) (aq (v_ 2) aw)))) aw)))))))))))
def o7:aL ["world","scene","hand","tree","frame","room","things","waiting"] zQ (aD lB):=fK
def wz(F:eN K "reckoned" "reckoned" lB f fd)(B:Bl mg)(i:dh P w K mg base)(c:lZ P w K mg base)(g:yU P w K mg base){j:Tok}(h:mg "OWN"=some (.int (-1) j)):bC P w K mg base d0 9 f fd zQ (eM ⟨K,mg⟩ 4 dz):=by
 have b:=o7.nd
 refine bz F o7 λk A d s H E a=> ?_
 have e:=Gh a
 exact(az (bH 4 b (aR i a (aq (v_ 1) (aq (v_ 2) aw))))
  (az (bH 5 b (aE (v_ 4) ax))
  (az (cO (bU dM dR (v_ 5) (de (eB (v:=.int (-1)) rfl h ⟨_,rfl⟩) λ_ _=>.int (-1)) (bf _)) (az (bH 6 b (oG rfl rfl B.dict rfl B.zip (sk (pJ c a (aq (aE (v_ 0) ax) aw))) (gE (aE (v_ 1) ax))))
  (az (lD (DE (v_ 6) (oG rfl rfl B.dict rfl B.zip (sk (pJ c a (aq (aE (aE (aE (v_ 0) ax) (v_ 2)) ax) aw))) (gE (aE (aE (aE (v_ 1) ax) (v_ 2)) ax)))))
  (aH (aO (aR g a (aq (v_ 3) (aq (v_ 6) (aq HC aw)))))))) bI)
  (az (bH 6 b (oG rfl rfl B.dict rfl B.zip (sk (pJ c a (aq (aE (aE (aE (v_ 0) ax) (v_ 5)) ax) aw))) (gE (aE (aE (aE (v_ 1) ax) (v_ 5)) ax))))
  (az (GU e (v_ 6) bh (aE (v_ 4) ax))
  (az (Fl (n:=7) (N:= ["bell","line"]) (js:= [none,none]) (bp.gen rfl rfl rfl rfl rfl rfl) rfl (vZ rfl B.zip (sk (pJ c a (aq (aE (aE (aE (v_ 0) ax) (v_ 5)) ax) aw))) (gE (aE (aE (aE (v_ 1) ax) (v_ 5)) ax))) (λ_ _ _ _=>(cC rfl (aC (gC 0) (aC (gC 1) bK)))) (λ_ _ _ _=>jO) (λ_ _ _ _=>(v_ 0)) (λ_ _ _ _=>(ja rfl B.len (gE (v_ 1)))) (DA 7 b))
  (aH (aO (aR g a (aq (v_ 3) (aq (v_ 6) (aq (v_ 7) aw))))))))))))
end
section
variable{P:Program}{w:World}{K:PySem.W.Frag}{mg:Str->Option Value}{base:Heap}{f:Addr}{fd:FuncData}
def Bf:aL bJ bJ (aD rB):=fK
def BG(F:eN K "by_put" "by_put" rB f fd)(B:Bl mg)(c:o6 P w K mg base)(d:fN P w K mg base):bC P w K mg base d0 10 f fd bJ (eM ⟨K,mg⟩ 4 pY):=by
 refine bz F Bf λe A a s H E b=> ?_
 exact(aH (aO (aR c b (aq (v_ 0) (aq (v_ 1) (aq (v_ 2) (aq (aE (v_ 3) ax) (aq (aR d b (aq (v_ 0) (aq (v_ 1) (aq (v_ 2) (aq (aE (v_ 3) ax) aw))))) aw))))))))
def hX:aL ["scene","hand","frame","values","frames"] AH (aD fw):=fK
def lN(F:eN K "with_last_frame" "with_last_frame" fw f fd)(B:Bl mg)(c:iq P w K mg base):bC P w K mg base d0 3 f fd AH (eM ⟨K,mg⟩ 3 dA):=by
 have b:=hX.nd
 refine bz F hX λe A a s H E d=> ?_
 exact(az (fc (aE (aE (v_ 0) ax) (v_ 1)) (cC rfl (aC (bE 3 b) (aC (bE 4 b) bK))))
  (aH (aO (aR c d (aq (v_ 0) (aq (v_ 1) (aq (v_ 3) (aq (cz (cG (v_ 4) dv (dw (qK ax))) (aM (aq (v_ 2) aw))) aw))))))))
def tE:aL ["scene","hand","row","frame"] AR (aD qm):=fK
def Bi(F:eN K "at_row" "at_row" qm f fd)(B:Bl mg)(d:dh P w K mg base)(c:iC P w K mg base):bC P w K mg base d0 4 f fd AR (eM ⟨K,mg⟩ 3 jl):=by
 have e:=tE.nd
 refine bz F tE λg A a s H E b=> ?_
 exact(az (bH 3 e (aR d b (aq (v_ 0) (aq (v_ 1) aw))))
  (aH (aO (aR c b (aq (v_ 0) (aq (v_ 1) (aq (cz (cz (cG (v_ 3) dv (dw ax)) (aM (aq (v_ 2) aw))) (cG (v_ 3) (dw ax) dv)) aw)))))))
def vI:aL bJ bJ (aD kj):=fK
def uT(F:eN K "by_unless" "by_unless" kj f fd)(B:Bl mg)(d:fN P w K mg base)(c:rH P w K mg base):bC P w K mg base d0 10 f fd bJ (eM ⟨K,mg⟩ 4 jy):=by
 refine bz F vI λe A a s H E b=> ?_
 exact(az (cO (bU dM dR (aR d b (aq (v_ 0) (aq (v_ 1) (aq (v_ 2) (aq (aE (v_ 3) ax) aw))))) ax (bf _)) (aH (aO (aR c b (aq (v_ 1) (aq (v_ 2) (aq (aE (v_ 3) ax) aw)))))) bI)
  (aH (aO (v_ 1))))
def CN:aL bJ bJ (aD vE):=fK
def Cw(F:eN K "by_go" "by_go" vE f fd)(B:Bl mg)(b:rH P w K mg base):bC P w K mg base d0 5 f fd bJ (eM ⟨K,mg⟩ 4 uC):=by
 refine bz F CN λd A a s H E c=> ?_
 exact(aH (aO (aR b c (aq (v_ 1) (aq (v_ 2) (aq (aE (v_ 3) ax) aw))))))
def qt:aL ["scene","room","hand","values","within","row","late","bells"] zV (aD nB):=fK
def yM(F:eN K "come_in" "come_in" nB f fd)(B:Bl mg)(d:f_ P w K mg base){g:Tok}(e:mg "NOBODY"=some (.int (-1) g)):bC P w K mg base d0 3 f fd zV (eM ⟨K,mg⟩ 3 jZ):=by
 have a:=qt.nd
 refine bz F qt λh A b s H E c=> ?_
 exact(az (fc (aE (aE (v_ 0) ax) (v_ 1)) (cC rfl (aC (bE 3 a) (aC (bE 4 a) (aC (bE 5 a) (aC (bE 6 a) (aC (bE 7 a) bK)))))))
  (az (cO (bU dM dR (v_ 4) (de (eB (v:=.int (-1)) rfl e ⟨_,rfl⟩) λ_ _=>.int (-1)) (bf _)) (aH (aO (aR d c (aq (v_ 0) (aq (v_ 1) (aq (aM (aq (v_ 3) (aq (v_ 2) (aq (v_ 5) (aq (v_ 6) (aq (v_ 7) aw)))))) aw)))))) bI)
  (aH (aO (aR d c (aq (v_ 0) (aq (v_ 1) (aq (aM (aq (v_ 3) (aq (v_ 4) (aq (cz (v_ 5) (aM (aq (v_ 2) aw))) (aq (v_ 6) (aq (v_ 7) aw)))))) aw))))))))
def xm:aL ["world","scene","hand","row","room","deed","frame","values","frames"] bJ (aD vz):=fK
def Df(F:eN K "by_do" "by_do" vz f fd)(B:Bl mg)(d:hV P w K mg base)(h:fN P w K mg base)(e:t8 P w K mg base)(g:iq P w K mg base):bC P w K mg base d0 10 f fd bJ (eM ⟨K,mg⟩ 4 vJ):=by
 have b:=xm.nd
 refine bz F xm λi A c s H E a=> ?_
 exact(az (bH 4 b (aR d a (aq (aE (v_ 0) ax) (aq (aE (v_ 3) ax) aw))))
  (az (bH 5 b (aR d a (aq (aE (aE (aE (v_ 0) ax) (v_ 4)) ax) (aq (aE (v_ 3) ax) aw))))
  (az (bH 6 b (aM (aq (v_ 4) (aq (v_ 5) (aq ax (aq (aR h a (aq (v_ 0) (aq (v_ 1) (aq (v_ 2) (aq (aE (v_ 3) ax) aw))))) (aq ax aw)))))))
  (az (fc (aE (aE (v_ 1) ax) (v_ 2)) (cC rfl (aC (bE 7 b) (aC (bE 8 b) bK))))
  (aH (aO (aR e a (aq (aR g a (aq (v_ 1) (aq (v_ 2) (aq (v_ 7) (aq (cz (v_ 8) (aM (aq (v_ 6) aw))) aw))))) (aq (v_ 4) (aq (v_ 2) aw))))))))))
def rE:aL ["world","scene","hand","word","room"] zJ (aD ou):=fK
def zp(F:eN K "bell_of" "bell_of" ou f fd)(B:Bl mg)(c:dh P w K mg base)(e:hV P w K mg base):bC P w K mg base d0 3 f fd zJ (eM ⟨K,mg⟩ 4 jd):=by
 have d:=rE.nd
 refine bz F rE λg A a s H E b=> ?_
 exact(az (bH 4 d (aE (aR c b (aq (v_ 1) (aq (v_ 2) aw))) ax))
  (aH (aO (aM (aq (v_ 4) (aq (aR e b (aq (aE (aE (aE (v_ 0) ax) (v_ 4)) ax) (aq (v_ 3) aw))) aw))))))
def mC:aL ["scene","room","bell","line","state"] Ai (aD kc):=fK
def vQ(F:eN K "with_line" "with_line" kc f fd)(B:Bl mg)(d:f_ P w K mg base)(e:gc P w K mg base):bC P w K mg base d0 3 f fd Ai (eM ⟨K,mg⟩ 4 eS):=by
 have c:=mC.nd
 refine bz F mC λg A a s H E b=> ?_
 exact(az (bH 4 c (aE (aE (v_ 0) ax) (v_ 1)))
  (aH (aO (aR d b (aq (v_ 0) (aq (v_ 1) (aq (cz (cG (v_ 4) dv (dw ax)) (aM (aq (aR e b (aq (aE (v_ 4) ax) (aq (v_ 2) (aq (v_ 3) aw)))) aw))) aw)))))))
def yd:aL ["scene","room","values","within","row","late","bells"] z9 (aD vM):=fK
def Cg(F:eN K "leave" "leave" vM f fd)(B:Bl mg)(d:f_ P w K mg base){g:Tok}(e:mg "NOBODY"=some (.int (-1) g)):bC P w K mg base d0 3 f fd z9 (eM ⟨K,mg⟩ 2 oq):=by
 have a:=yd.nd
 refine bz F yd λh A c s H E b=> ?_
 exact(az (fc (aE (aE (v_ 0) ax) (v_ 1)) (cC rfl (aC (bE 2 a) (aC (bE 3 a) (aC (bE 4 a) (aC (bE 5 a) (aC (bE 6 a) bK)))))))
  (az (cO (jM (v_ 5)) (aH (aO (aR d b (aq (v_ 0) (aq (v_ 1) (aq (aM (aq (v_ 2) (aq (aE (v_ 5) ax) (aq (v_ 4) (aq (cG (v_ 5) (dw ax) dv) (aq (v_ 6) aw)))))) aw)))))) bI)
  (az (cO (jM (v_ 4)) (aH (aO (aR d b (aq (v_ 0) (aq (v_ 1) (aq (aM (aq (v_ 2) (aq (aE (v_ 4) ax) (aq (cG (v_ 4) (dw ax) dv) (aq (v_ 5) (aq (v_ 6) aw)))))) aw)))))) bI)
  (aH (aO (aR d b (aq (v_ 0) (aq (v_ 1) (aq (aM (aq (v_ 2) (aq (de (eB (v:=.int (-1)) rfl e ⟨_,rfl⟩) λ_ _=>.int (-1)) (aq (v_ 4) (aq (v_ 5) (aq (v_ 6) aw)))))) aw)))))))))
def rh:aL ["world","scene","hand","row","room","bell","turn","line","ahead","waiting"] bJ (aD oD):=fK
def yo(F:eN K "by_wait" "by_wait" oD f fd)(B:Bl mg)(h:nj P w K mg base)(e:fN P w K mg base)(d:jV P w K mg base)(g:AL P w K mg base):bC P w K mg base d0 10 f fd bJ (eM ⟨K,mg⟩ 4 ml):=by
 have a:=rh.nd
 refine bz F rh λi A c s H E b=> ?_
 exact(az (fc (aR h b (aq (v_ 0) (aq (v_ 1) (aq (v_ 2) (aq (aE (v_ 3) ax) aw))))) (cC rfl (aC (bE 4 a) (aC (bE 5 a) bK))))
  (az (bH 6 a ax)
  (az (cO (bU dM dR (aE (aE (aE (aE (aE (v_ 0) ax) (v_ 4)) ax) (v_ 5)) ax) bh (bf _)) (aH (bH 6 a (aR e b (aq (v_ 0) (aq (v_ 1) (aq (v_ 2) (aq (aE (v_ 3) ax) aw))))))) bI)
  (az (bH 7 a (aE (aE (aE (aE (v_ 1) ax) (v_ 4)) ax) (v_ 5)))
  (az (bH 8 a (ja rfl B.len (sk (gD (N:= ["other","waiter","turn"]) (js:= [none,none,some 6]) (bp.gen rfl rfl rfl rfl rfl rfl) rfl (g_ (gE (v_ 7))) (λ_ _ _ _=>(cC rfl (aC (gC 0) (aC (gC 1) bK)))) (λ_ _ _ _=>(wV (bU Gf F5 (v_ 0) (v_ 2) (bf _)))) (λ_ _ _ _=>(v_ 0))))))
  (az (bH 9 a (aR d b (aq (v_ 1) (aq (v_ 4) (aq (v_ 5) (aq (cz (cz (cG (v_ 7) dv (dw (v_ 8))) (aM (aq (aM (aq (v_ 6) (aq (v_ 2) aw))) aw))) (cG (v_ 7) (dw (v_ 8)) dv)) aw))))))
  (aH (aO (aR g b (aq (v_ 9) (aq (v_ 4) aw)))))))))))
def p9:aL ["world","scene","hand","row","room","bell","line","called","values","within","queue","late","bells"] bJ (aD nK):=fK
def ym(F:eN K "by_call" "by_call" nK f fd)(B:Bl mg)(g:nj P w K mg base)(d:jV P w K mg base)(e:f_ P w K mg base):bC P w K mg base d0 4 f fd bJ (eM ⟨K,mg⟩ 4 mF):=by
 have a:=p9.nd
 refine bz F p9 λh A c s H E b=> ?_
 exact(az (fc (aR g b (aq (v_ 0) (aq (v_ 1) (aq (v_ 2) (aq (aE (v_ 3) ax) aw))))) (cC rfl (aC (bE 4 a) (aC (bE 5 a) bK))))
  (az (bH 6 a (aE (aE (aE (aE (v_ 1) ax) (v_ 4)) ax) (v_ 5)))
  (az (cO (xk (jM (v_ 6))) (aH (aO (v_ 1))) bI)
  (az (bH 7 a (aR d b (aq (v_ 1) (aq (v_ 4) (aq (v_ 5) (aq (cG (v_ 6) (dw ax) dv) aw))))))
  (az (cO (bU dM dR (aE (aE (aE (v_ 0) ax) (v_ 4)) ax) bh (bf _)) (aH (aO (v_ 7))) bI)
  (az (fc (aE (aE (v_ 7) ax) (v_ 4)) (cC rfl (aC (bE 8 a) (aC (bE 9 a) (aC (bE 10 a) (aC (bE 11 a) (aC (bE 12 a) bK)))))))
  (aH (aO (aR e b (aq (v_ 7) (aq (v_ 4) (aq (aM (aq (v_ 8) (aq (aE (aE (v_ 6) ax) ax) (aq (v_ 10) (aq (cz (v_ 11) (aM (aq (v_ 2) aw))) (aq (v_ 12) aw)))))) aw))))))))))))
end
section
variable{P:Program}{w:World}{K:PySem.W.Frag}{mg:Str->Option Value}{base:Heap}{f:Addr}{fd:FuncData}
def tJ:aL ["world","scene","hand","row","room","bell"] bJ (aD qc):=fK
def AY(F:eN K "by_all" "by_all" qc f fd)(B:Bl mg)(e:nj P w K mg base)(d:jV P w K mg base):bC P w K mg base d0 4 f fd bJ (eM ⟨K,mg⟩ 4 p5):=by
 have c:=tJ.nd
 refine bz F tJ λg A a s H E b=> ?_
 exact(az (fc (aR e b (aq (v_ 0) (aq (v_ 1) (aq (v_ 2) (aq (aE (v_ 3) ax) aw))))) (cC rfl (aC (bE 4 c) (aC (bE 5 c) bK))))
  (aH (aO (aR d b (aq (v_ 1) (aq (v_ 4) (aq (v_ 5) (aq (aM aw) aw))))))))
def rS:aL ["world","scene","hand","row","told"] bJ (aD nJ):=fK
def yV(F:eN K "by_tell" "by_tell" nJ f fd)(B:Bl mg)(e:fN P w K mg base)(c:iC P w K mg base)(d:dh P w K mg base):bC P w K mg base d0 10 f fd bJ (eM ⟨K,mg⟩ 4 mU):=by
 have g:=rS.nd
 refine bz F rS λh A b s H E a=> ?_
 exact(az (bH 4 g (aR e a (aq (v_ 0) (aq (v_ 1) (aq (v_ 2) (aq (aE (v_ 3) ax) aw))))))
  (aH (aO (aR c a (aq (v_ 1) (aq (v_ 2) (aq (cz (cG (aR d a (aq (v_ 1) (aq (v_ 2) aw))) dv (dw ax)) (aM (aq (v_ 4) aw))) aw)))))))
def uH:aL v9 v9 (aD kz):=fK
def vS(F:eN K "with_pass" "with_pass" kz f fd)(B:Bl mg)(c:gc P w K mg base):bC P w K mg base d0 2 f fd v9 (eM ⟨K,mg⟩ 3 eT):=by
 refine bz F uH λd A a s H E b=> ?_
 exact(aH (aO (cz (aM (aq (aE (v_ 0) ax) (aq (aR c b (aq (aE (v_ 0) ax) (aq (v_ 1) (aq (v_ 2) aw)))) aw))) (cG (v_ 0) (dw ax) dv))))
def wg:aL ["world","scene","hand","name","place","value","row"] zF (aD uS):=fK
def CZ(F:eN K "taken" "taken" uS f fd)(B:Bl mg)(e:hV P w K mg base)(d:o_ P w K mg base):bC P w K mg base d0 3 f fd zF (eM ⟨K,mg⟩ 4 qY):=by
 have c:=wg.nd
 refine bz F wg λg A b s H E a=> ?_
 exact(az (bH 4 c (aR e a (aq (aE (v_ 0) ax) (aq (v_ 3) aw))))
  (az (fc (aE (aE (v_ 1) ax) (v_ 4)) (cC rfl (aC (bE 5 c) (aC (bE 6 c) bK))))
  (az (cO (bU xi xK (v_ 5) ax (bf _)) (aH (aO (aR d a (aq (v_ 1) (aq (v_ 4) (aq (aM (aq (AC (v_ 5) ax) (aq (v_ 6) aw))) aw)))))) bI)
  (aH (aO (aR d a (aq (v_ 1) (aq (v_ 4) (aq (aM (aq (v_ 5) (aq (cz (v_ 6) (aM (aq (v_ 2) aw))) aw))) aw)))))))))
def y3:aL bJ bJ (aD nI):=fK
def yN(F:eN K "by_take" "by_take" nI f fd)(B:Bl mg)(c:zN P w K mg base):bC P w K mg base d0 4 f fd bJ (eM ⟨K,mg⟩ 4 mv):=by
 refine bz F y3 λd A a s H E b=> ?_
 exact(aH (aO (aR c b (aq (v_ 0) (aq (v_ 1) (aq (v_ 2) (aq (aE (v_ 3) ax) aw)))))))
def kY:aL ["world","scene","name","place","value","row"] Ay (aD jD):=fK
def sU(F:eN K "given_back" "given_back" jD f fd)(B:Bl mg)(h:hV P w K mg base)(d:o_ P w K mg base){g:Tok}(e:mg "HIGHEST"=some (.int (9) g)):bC P w K mg base d0 3 f fd Ay (eM ⟨K,mg⟩ 3 gk):=by
 have c:=kY.nd
 refine bz F kY λi A b s H E a=> ?_
 exact(az (bH 3 c (aR h a (aq (aE (v_ 0) ax) (aq (v_ 2) aw))))
  (az (fc (aE (aE (v_ 1) ax) (v_ 3)) (cC rfl (aC (bE 4 c) (aC (bE 5 c) bK))))
  (az (cO (jM (v_ 5)) (aH (aO (aR d a (aq (v_ 1) (aq (v_ 3) (aq (aM (aq (v_ 4) (aq (cG (v_ 5) (dw ax) dv) aw))) aw)))))) bI)
  (aH (aO (aR d a (aq (v_ 1) (aq (v_ 3) (aq (aM (aq (sE yk (d_ (oA rfl) rfl B.min (by rfl) (aq (cz (v_ 4) ax) (aq (de (eB (v:=.int (9)) rfl e ⟨_,rfl⟩) λ_ _=>.int (9)) aw)))) (aq (v_ 5) aw))) aw)))))))))
def yn:aL bJ bJ (aD nM):=fK
def yu(F:eN K "by_give" "by_give" nM f fd)(B:Bl mg)(c:mw P w K mg base):bC P w K mg base d0 4 f fd bJ (eM ⟨K,mg⟩ 4 mz):=by
 refine bz F yn λd A a s H E b=> ?_
 exact(aH (aO (aR c b (aq (v_ 0) (aq (v_ 1) (aq (aE (v_ 3) ax) aw))))))
def y1:aL bJ bJ (aD oh):=fK
def yT(F:eN K "by_pass" "by_pass" oh f fd)(B:Bl mg)(d:zN P w K mg base)(c:mw P w K mg base):bC P w K mg base d0 4 f fd bJ (eM ⟨K,mg⟩ 4 mX):=by
 refine bz F y1 λe A a s H E b=> ?_
 exact(aH (aO (aR d b (aq (v_ 0) (aq (aR c b (aq (v_ 0) (aq (v_ 1) (aq (aE (v_ 3) ax) aw)))) (aq (v_ 2) (aq (aE (v_ 3) ax) aw)))))))
def BV:aL bJ bJ (aD qC):=fK
def BK(F:eN K "by_say" "by_say" qC f fd)(B:Bl mg):bC P w K mg base d0 1 f fd bJ (eM ⟨K,mg⟩ 4 pT):=by
 refine bz F BV λb A a s H E c=> ?_
 exact(aH (aO (v_ 1)))
def oN:aL ["world","scene","hand","row","deed"] bJ (aD lT):=fK
def xT(F:eN K "row_done" "row_done" lT f fd)(B:Bl mg)(c:∀x F,rN.lookup x=some F->fG P w K mg base 10 x bJ F)(d:AK P w K mg "DONE_BY" kN):bC P w K mg base d0 11 f fd bJ (eM ⟨K,mg⟩ 4 iX):=by
 have e:=oN.nd
 refine bz F oN λg A a s H E b=> ?_
 exact(az (bH 4 e (Fx d rfl (aE (v_ 3) ax) (λ_ _=>rfl)))
  (aH (aO (E5 c (b.mono (by decide)) rfl (by first|exact Or.inl rfl|exact Or.inr (Or.inl rfl)) (aq (v_ 0) (aq (v_ 1) (aq (v_ 2) (aq (v_ 3) aw)))) (kP (kP (kP (kP y6))))))))
def pe:aL ["world","scene","hand","values","frames","room","deed","row","given","told","outside","came_by"] dJ (aD lV):=fK
def vY(F:eN K "end_deed" "end_deed" lV f fd)(B:Bl mg)(d:iq P w K mg base)(h:AL P w K mg base)(g:gS P w K mg base)(e:o6 P w K mg base):bC P w K mg base d0 4 f fd dJ (eM ⟨K,mg⟩ 3 iT):=by
 have a:=pe.nd
 refine bz F pe λi A c s H E b=> ?_
 exact(az (fc (aE (aE (v_ 1) ax) (v_ 2)) (cC rfl (aC (bE 3 a) (aC (bE 4 a) bK))))
  (az (fc (aE (v_ 4) (qK ax)) (cC rfl (aC (bE 5 a) (aC (bE 6 a) (aC (bE 7 a) (aC (bE 8 a) (aC (bE 9 a) bK)))))))
  (az (bH 10 a (aR d b (aq (aR h b (aq (v_ 1) (aq (v_ 5) aw))) (aq (v_ 2) (aq (v_ 3) (aq (cG (v_ 4) dv (dw (qK ax))) aw))))))
  (az (bH 11 a (aE (aR g b (aq (v_ 0) (aq (v_ 2) (aq (aE (v_ 4) (qK ax)) aw)))) (AC (aE (aE (v_ 4) (qK ax)) ax) ax)))
  (az (cO (bU zh zv (aE (v_ 11) ax) fZ (bf _)) (aH (aO (v_ 10))) bI)
  (aH (aO (aR e b (aq (v_ 0) (aq (v_ 10) (aq (v_ 2) (aq (aE (v_ 11) ax) (aq (v_ 9) aw)))))))))))))
def qB:aL ["world","scene","hand","frame","room","program","row","event"] dJ (aD og):=fK
def yA(F:eN K "step_of" "step_of" og f fd)(B:Bl mg)(e:dh P w K mg base)(d:t8 P w K mg base)(g:gS P w K mg base)(m:zi P w K mg base)(l:fN P w K mg base)(n:yQ P w K mg base)(k:rH P w K mg base){h:Tok}(j:mg "OWN"=some (.int (-1) h)):bC P w K mg base d0 12 f fd dJ (eM ⟨K,mg⟩ 3 j0):=by
 have b:=qB.nd
 refine bz F qB λi A c s H E a=> ?_
 exact(az (bH 3 b (aR e a (aq (v_ 1) (aq (v_ 2) aw))))
  (az (bH 4 b (aE (v_ 3) ax))
  (az (cO (PW.pt (w_and (bU ud uk (v_ 4) (de (eB (v:=.int (-1)) rfl j ⟨_,rfl⟩) λ_ _=>.int (-1)) (bf _)) (ze (bU ud uk (aE (aE (aE (v_ 1) ax) (v_ 4)) ax) (v_ 2) (bf _))))) (aH (aO (aM (aq (aR d a (aq (v_ 1) (aq (v_ 4) (aq (v_ 2) aw)))) (aq fZ aw))))) bI)
  (az (bH 5 b (aR g a (aq (v_ 0) (aq (v_ 2) (aq (v_ 3) aw)))))
  (az (cO (bU dM dR (aE (v_ 3) ax) (ja rfl B.len (gE (v_ 5))) (bf _)) (aH (aO (aM (aq (aR m a (aq (v_ 0) (aq (v_ 1) (aq (v_ 2) aw)))) (aq fZ aw))))) bI)
  (az (bH 6 b (aE (v_ 5) (aE (v_ 3) ax)))
  (az (bH 7 b fZ)
  (az (cO (bU dM dR (aE (v_ 6) ax) bh (bf _)) (aH (bH 7 b (aM (aq (v_ 2) (aq (aR l a (aq (v_ 0) (aq (v_ 1) (aq (v_ 2) (aq (aE (v_ 6) ax) aw))))) aw))))) bI)
  (aH (aO (aM (aq (aR n a (aq (v_ 0) (aq (aR k a (aq (v_ 1) (aq (v_ 2) (aq (cz (aE (v_ 3) ax) ax) aw)))) (aq (v_ 2) (aq (v_ 6) aw))))) (aq (v_ 7) aw)))))))))))))
end
section
variable{P:Program}{w:World}{K:PySem.W.Frag}{mg:Str->Option Value}{base:Heap}{f:Addr}{fd:FuncData}
def wo:aL xl xl (aD l8):=fK
def w6(F:eN K "hands_at" "hands_at" l8 f fd)(B:Bl mg):bC P w K mg base d0 1 f fd xl (eM ⟨K,mg⟩ 1 jf):=by
 refine bz F wo λb A a s H E c=> ?_
 exact(aH (uZ (gD (N:= ["turn","hand"]) (js:= [none,none]) (bp.gen rfl rfl rfl rfl rfl rfl) rfl (g_ (gE (v_ 0))) (λ_ _ _ _=>(cC rfl (aC (gC 0) (aC (gC 1) bK)))) (λ_ _ _ _=>jO) (λ_ _ _ _=>(v_ 1)))))
def jb:aL ["scene","hands","value","row","values","within","late","bells","line"] Af (aD gA):=fK
def om(F:eN K "hands_in_rows" "hands_in_rows" gA f fd)(B:Bl mg)(c:qD P w K mg base):bC P w K mg base d0 2 f fd Af (eM ⟨K,mg⟩ 1 ed):=by
 have a:=jb.nd
 refine bz F jb λe A b s H E d=> ?_
 exact(az (bH 1 a (jU (jL aw)))
  (az (mV PassesOwn.never rfl (g_ (gE (aE (v_ 0) ax))) (cC rfl (aC (bE 2 a) (aC (bE 3 a) bK))) (aH (lD (uo (v_ 1) (gE (v_ 3))))))
  (az (mV PassesOwn.never rfl (g_ (gE (aE (v_ 0) ax))) (cC rfl (aC (bE 4 a) (aC (bE 5 a) (aC (bE 3 a) (aC (bE 6 a) (aC (bE 7 a) bK)))))) (az (lD (uo (v_ 1) (gE (cz (v_ 3) (v_ 6)))))
  (aH (mV PassesOwn.never rfl (g_ (gE (v_ 7))) (bE 8 a) (aH (lD (Dj (v_ 1) (sk (pJ c d (aq (v_ 8) aw))))))))))
  (aH (aO (v_ 1))))))
def jc:aL ["world","scene","hand","frame"] dJ (aD gw):=fK
def oo(F:eN K "is_behind_all" "is_behind_all" gw f fd)(B:Bl mg)(d:dh P w K mg base)(g:gS P w K mg base){h:Tok}(c:mg "OWN"=some (.int (-1) h)):bC P w K mg base d0 2 f fd dJ (eM ⟨K,mg⟩ 3 fu):=by
 have e:=jc.nd
 refine bz F jc λi A a s H E b=> ?_
 exact(az (bH 3 e (aR d b (aq (v_ 1) (aq (v_ 2) aw))))
  (aH (aO (zO (oO dM dR (aE (v_ 3) ax) (de (eB (v:=.int (-1)) rfl c ⟨_,rfl⟩) λ_ _=>.int (-1)) (bf _)) (B_ (oO dM dR (aE (v_ 3) ax) (ja rfl B.len (gE (aR g b (aq (v_ 0) (aq (v_ 2) (aq (v_ 3) aw)))))) (bf _)))))))
def pd:aL ["world","scene","held_up"] As (aD lX):=fK
def xZ(F:eN K "may_step" "may_step" lX f fd)(B:Bl mg)(c:pN P w K mg base)(e:pI P w K mg base):bC P w K mg base d0 3 f fd As (eM ⟨K,mg⟩ 2 i8):=by
 have d:=pd.nd
 refine bz F pd λg A a s H E b=> ?_
 exact(az (bH 2 d (jU (pJ c b (aq (v_ 1) aw))))
  (aH (uZ (gD (N:= ["hand","world","scene","held_up"]) (js:= [none,some 0,some 1,some 2]) (bp.gen rfl rfl rfl rfl rfl rfl) rfl (qZ rfl B.range (ja rfl B.len (gE (aE (v_ 1) ax)))) (λ_ _ _ _=>(gC 0)) (λ_ _ _ _=>(wV (PW.pt (w_and (uF (v_ 0) (gE (v_ 3))) (ze (xk (jM (aR e b (aq (v_ 1) (aq (v_ 2) (aq (v_ 0) aw))))))))))) (λ_ _ _ _=>(v_ 0))))))
def uc:aL ["world","weaving","scene","events","place","hand","event"] zP (aD rX):=fK
def Bj(F:eN K "walked" "walked" rX f fd)(B:Bl mg)(g:z3 P w K mg base)(e:qW P w K mg base)(d:tT P w K mg base):bC P w K mg base d0 13 f fd zP (eM ⟨K,mg⟩ 2 mJ):=by
 have a:=uc.nd
 refine bz F uc λh A c s H E b=> ?_
 exact(az (bH 2 a (aR g b (aq (v_ 0) aw)))
  (az (bH 3 a (jU (jL aw)))
  (az (mV PassesOwn.never rfl (GG rfl B.enum (gE (v_ 1))) (cC rfl (aC (bE 4 a) (aC (bE 5 a) bK))) (az (cO (uF (v_ 5) (sk (pJ e b (aq (v_ 0) (aq (v_ 2) aw))))) (aH zS) bI)
  (az (fc (aR d b (aq (v_ 0) (aq (v_ 2) (aq (v_ 5) aw)))) (cC rfl (aC (bE 2 a) (aC (bE 6 a) bK))))
  (aH (cO (bU Aa zY (v_ 6) fZ (bf _)) (aH (lD (Dy (v_ 3) (v_ 6)))) bI)))))
  (aH (aO (aM (aq (v_ 2) (aq (fV rfl B.tuple (F3 (gE (v_ 3))) (ht:=oS)) aw))))))))
def zd:aL dJ dJ (aD nE):=fK
def y0(F:eN K "stepped" "stepped" nE f fd)(B:Bl mg)(d:qW P w K mg base)(c:tT P w K mg base):bC P w K mg base d0 13 f fd dJ (eM ⟨K,mg⟩ 3 iW):=by
 refine bz F zd λe A a s H E b=> ?_
 exact(az (cO (uF (v_ 2) (sk (pJ d b (aq (v_ 0) (aq (v_ 1) aw))))) (aH zS) bI)
  (aH (aO (aR c b (aq (v_ 0) (aq (v_ 1) (aq (v_ 2) aw)))))))
def vk:aL zu zu (aD kh):=fK
theorem my(F:eN K "_law_same" "_law_same" kh f fd)(B:Bl mg)(b:Binds K fd zu [])(c:PySem.W.keepIn K (.ref f)=true)(m:mg "_law_same"=some (.ref f)):∀n,bC P w K mg base d0 (1+n) f fd zu (eM ⟨K,mg⟩ 2 (eQ n))
 |0=>Av
 | n+1=>by
   have e:fG P w K mg base (1+n) "_law_same" zu (eQ n):=⟨f,fd,my F B b c m n,b,c,m⟩
   refine bz (k:=1+n) F vk λg A a s H E d=> ?_
   exact(az (cO (jM (mN (T:="tuple") ⟨rfl,rfl,rfl,rfl,rfl,rfl,rfl⟩ rfl B.isi (v_ 1) (gN (v:=.ty "tuple") rfl B.tuple PyProof.Rows.boot_tuple rfl))) (az (cO (PW.pt (w_or (xk (jM (mN (T:="tuple") ⟨rfl,rfl,rfl,rfl,rfl,rfl,rfl⟩ rfl B.isi (v_ 0) (gN (v:=.ty "tuple") rfl B.tuple PyProof.Rows.boot_tuple rfl)))) (sZ (bU ud uk (ja rfl B.len (gE (v_ 0))) (ja rfl B.len (gE (v_ 1))) (bf _))))) (aH (aO BL)) bI)
   (aH (aO (JK rfl rfl B.all (sk (gD (N:= ["_law_one","_law_other"]) (js:= [none,none]) (bp.gen rfl rfl rfl rfl rfl rfl) rfl (vZ rfl B.zip (gE (v_ 0)) (gE (v_ 1))) (λ_ _ _ _=>(cC rfl (aC (gC 0) (aC (gC 1) bK)))) (λ_ _ _ _=>jO) (λ_ _ _ _=>(aR e d (aq (v_ 0) (aq (v_ 1) aw)))))))))) bI)
   (az (cO (PW.pt (w_or (jM (mN (T:="str") ⟨rfl,rfl,rfl,rfl,rfl,rfl,rfl⟩ rfl B.isi (v_ 1) (gN (v:=.ty "str") rfl B.str PyProof.Rows.boot_str rfl))) (sZ (bU zh zv (v_ 1) fZ (bf _))))) (aH (aO (zO (oO dM dR (mN (T:="str") ⟨rfl,rfl,rfl,rfl,rfl,rfl,rfl⟩ rfl B.isi (v_ 0) (gN (v:=.ty "str") rfl B.str PyProof.Rows.boot_str rfl)) (mN (T:="str") ⟨rfl,rfl,rfl,rfl,rfl,rfl,rfl⟩ rfl B.isi (v_ 1) (gN (v:=.ty "str") rfl B.str PyProof.Rows.boot_str rfl)) (bf _)) (B_ (oO dM dR (v_ 0) (v_ 1) (bf _)))))) bI)
   (aH (aO (zO (mN (T:="int") ⟨rfl,rfl,rfl,rfl,rfl,rfl,rfl⟩ rfl B.isi (v_ 0) (gN (v:=.ty "int") rfl B.int PyProof.Rows.boot_int rfl)) (zO (Iv (mN (T:="bool") ⟨rfl,rfl,rfl,rfl,rfl,rfl,rfl⟩ rfl B.isi (v_ 0) (gN (v:=.ty "bool") rfl B.bool PyProof.Rows.boot_bool rfl))) (B_ (oO dM dR (v_ 0) (v_ 1) (bf _)))))))))
def mm:aL ["_law_world_here","_law_scene","_law_names"] AN (aD ko):=fK
def uG(F:eN K "_law_bell" "_law_bell" ko f fd)(B:Bl mg):bC P w K mg base d0 1 f fd AN (eM ⟨K,mg⟩ 2 h_):=by
 have b:=mm.nd
 refine bz F mm λc A a s H E d=> ?_
 exact(az (u7 (n:=2) (N:= ["_law_word","_law_sort"]) (js:= [none,none]) (bp.gen rfl rfl rfl rfl rfl rfl) rfl (g_ (gE (aE (aE (aE (v_ 0) ax) ax) ax))) (λ_ _ _ _=>(cC rfl (aC (gC 0) (aC (gC 1) bK)))) (λ_ _ _ _=>jO) (λ_ _ _ _=>(v_ 0)) (DA 2 b))
  (aH (aO (aE (aE (aE (aE (v_ 1) ax) ax) ax) (Ae (gE (v_ 2)) bh)))))
def iy:aL ["world","scene","hand","name","first","value","row","room","state","bell","sort","line"] dJ (aD fT):=fK
def m6(F:eN K "place_in_a_row" "place_in_a_row" fT f fd)(B:Bl mg)(c:qD P w K mg base):bC P w K mg base d0 2 f fd dJ (eM ⟨K,mg⟩ 3 eP):=by
 have a:=iy.nd
 refine bz F iy λe A b s H E d=> ?_
 exact(az (mV PassesOwn.never rfl (vZ rfl B.zip (gE (aE (v_ 0) ax)) (gE (aE (v_ 1) ax))) (cC rfl (aC (cC rfl (aC (bE 3 a) (aC (bE 4 a) bK))) (aC (cC rfl (aC (bE 5 a) (aC (bE 6 a) bK))) bK))) (aH (cO (Ct (v_ 2) (gE (v_ 6))) (aH (aO (aM (aq bh (aq (v_ 3) aw))))) bI)))
  (az (mV PassesOwn.never rfl (vZ rfl B.zip (gE (aE (v_ 0) ax)) (gE (aE (v_ 1) ax))) (cC rfl (aC (bE 7 a) (aC (bE 8 a) bK))) (az (cO (Ct (v_ 2) (gE (aE (v_ 8) ax))) (aH (aO (aM (aq bh (aq (aE (v_ 7) ax) aw))))) bI)
  (az (cO (Ct (v_ 2) (gE (aE (v_ 8) ax))) (aH (aO (aM (aq bh (aq (aE (v_ 7) ax) aw))))) bI)
  (aH (mV PassesOwn.never rfl (vZ rfl B.zip (gE (aE (v_ 7) ax)) (gE (aE (v_ 8) ax))) (cC rfl (aC (cC rfl (aC (bE 9 a) (aC (bE 10 a) bK))) (aC (bE 11 a) bK))) (aH (cO (Ct (v_ 2) (sk (pJ c d (aq (v_ 11) aw)))) (aH (aO (aM (aq bh (aq (aE (v_ 7) ax) (aq (v_ 9) aw)))))) bI)))))))
  (aH (aO fZ))))
def tR:aL ["world","scene","hand","waits","frame","room","name"] dJ (aD rq):=fK
def BM(F:eN K "stands" "stands" rq f fd)(B:Bl mg)(d:nz P w K mg base)(g:dh P w K mg base)(h:gS P w K mg base){i:Tok}(e:mg "OWN"=some (.int (-1) i)):bC P w K mg base d0 3 f fd dJ (eM ⟨K,mg⟩ 3 fo):=by
 have a:=tR.nd
 refine bz F tR λj A c s H E b=> ?_
 exact(az (bH 3 a (aR d b (aq (v_ 0) (aq (v_ 1) (aq (v_ 2) aw)))))
  (az (cO (bU Aa zY (v_ 3) fZ (bf _)) (aH (aO (v_ 3))) bI)
  (az (bH 4 a (aR g b (aq (v_ 1) (aq (v_ 2) aw))))
  (az (bH 5 a (aE (v_ 4) ax))
  (az (cO (bU dM dR (v_ 5) (de (eB (v:=.int (-1)) rfl e ⟨_,rfl⟩) λ_ _=>.int (-1)) (bf _)) (aH (aO (mI (bU dM dR (aE (v_ 4) ax) (ja rfl B.len (gE (aR h b (aq (v_ 0) (aq (v_ 2) (aq (v_ 4) aw)))))) (bf _)) (aM (aq bh aw)) (aM (aq bh aw))))) bI)
  (az (bH 6 a (aE (aE (aE (v_ 0) ax) (v_ 5)) ax))
  (aH (aO (mI (bU dM dR (aE (aE (aE (v_ 1) ax) (v_ 5)) ax) (v_ 2) (bf _)) (aM (aq bh (aq (v_ 6) aw))) (aM (aq bh (aq (v_ 6) aw))))))))))))
end
section
variable{P:Program}{w:World}{K:PySem.W.Frag}{mg:Str->Option Value}{base:Heap}{f:Addr}{fd:FuncData}
def kC:aL ["_law_world_here","_law_scene","_law_bell_here","_law_spot","_law_manner","_law_own","_law_told","_law_late"] zD (aD iE):=fK
def rL(F:eN K "_law_called" "_law_called" iE f fd)(B:Bl mg)(e:ur P w K mg base)(h:oT P w K mg base)(i:oK P w K mg base)(b:v7 P w K mg base):bC P w K mg base d0 14 f fd zD (eM ⟨K,mg⟩ 4 gQ):=by
 have c:=kC.nd
 refine bz F kC λg A d s H E a=> ?_
 exact(az (bH 4 c (aE (aE (aE (v_ 0) ax) ax) ax))
  (az (bH 1 c (aE (aR e a (aq (v_ 0) (aq (v_ 1) (aq (v_ 3) aw)))) ax))
  (az (cO (xk (jM (aR h a (aq (aR i a (aq (v_ 0) (aq (v_ 1) aw))) (aq (cG (v_ 2) (dw ax) dv) aw))))) (aH (aO fZ)) bI)
  (az (cO (AG a (v_ 2) (aM aw)) (aH (aO (mI (AG a (aR b a (aq (v_ 0) (aq (v_ 1) (aq (v_ 3) aw)))) (aM (aq bh (aq bh aw)))) (v_ 1) fZ))) bI)
  (az (bH 5 c (aE (aE (v_ 2) ax) ax))
  (az (bH 6 c (aE (jU (jL (aq (aM (aq bh (aq bh aw))) (aq (aM (aq bh (aq bh aw))) aw)))) (sE mK (i0 kH rfl B.int (by rfl) (aq (F7 a (v_ 4) bh) aw)))))
  (az (bH 7 c (aE (jU (jL (aq (aM (aq bh (aq bh aw))) (aq (aM (aq bh (aq bh aw))) aw)))) (sE mK (i0 kH rfl B.int (by rfl) (aq (F7 a (v_ 4) bh) aw)))))
  (az (cO (PW.pt (w_or (mM a (aR b a (aq (v_ 0) (aq (v_ 1) (aq (v_ 5) aw)))) (v_ 6)) (sZ (mM a (aR b a (aq (v_ 0) (aq (v_ 1) (aq (v_ 3) aw)))) (v_ 7))))) (aH (aO fZ)) bI)
  (az (bH 1 c (aE (aR e a (aq (v_ 0) (aq (v_ 1) (aq (v_ 5) aw)))) ax))
  (az (cO (AG a (v_ 4) bh) (aH (aO (mI (AG a (aR b a (aq (v_ 0) (aq (v_ 1) (aq (v_ 5) aw)))) (aM (aq bh (aq bh aw)))) (v_ 1) fZ))) bI)
  (az (cO (PW.pt (w_or (mM a (aR b a (aq (v_ 0) (aq (v_ 1) (aq (v_ 5) aw)))) (aM (aq bh aw))) (sZ (mM a (aR b a (aq (v_ 0) (aq (v_ 1) (aq (v_ 3) aw)))) (aM (aq bh (aq bh aw))))))) (aH (aO fZ)) bI)
  (aH (aO (v_ 1))))))))))))))
def Co:aL ["_law_script","_law_k","_law_pot_here","_law_world_here","_law_turns","_law_sort","_law_spot","_law_left","_law_weaving","_law_bell_here","_law_own","_law_scene","_law_turn","_law_row"] CT (aD mD):=fK
def Ii(F:eN K "law" "law" mD f fd)(B:Bl mg)(k:zy P w K mg base)(r:vg P w K mg base)(e:kB P w K mg base)(i:z3 P w K mg base)(h:vd P w K mg base)(g:DQ P w K mg base)(l:oT P w K mg base)(j:oK P w K mg base)(d:v7 P w K mg base)(q:sI P w K mg base)(p:ur P w K mg base):bC P w K mg base d0 15 f fd CT (eM ⟨K,mg⟩ 1 ER):=by
 have b:=Co.nd
 refine bz F Co λo A c s H E a=> ?_
 have m:=a.units0
 exact(az (mV PassesOwn.never rfl (qZ rfl B.range (sE D6 (d_ (tF rfl) rfl B.max (by rfl) (aq ax (aq (sE yk (d_ (oA rfl) rfl B.min (by rfl) (aq (ja rfl B.len (gE (v_ 0))) (aq ax aw)))) aw))))) (bE 1 b) (az (bH 2 b (jU (pJ k a (aq (v_ 0) (aq (v_ 1) aw)))))
  (az (fc (aR r a (aq (v_ 2) (aq (cz ax (aR e a (aq (v_ 2) (aq ax aw)))) aw))) (cC rfl (aC (bE 3 b) (aC (bE 4 b) (aC (bE 5 b) (aC (bE 6 b) bK))))))
  (az (cO (mM a (aE (aE (aE (aR i a (aq (v_ 3) aw)) ax) ax) ax) (aM (aq (aM aw) (aq (aM aw) aw)))) (aH (aO BL)) bI)
  (az (u7 (n:=7) (N:= ["_law_own","_law_spot"]) (js:= [none,some 6]) (bp.gen rfl rfl rfl rfl rfl rfl) rfl (qZ rfl B.range (ja rfl B.len (gE (v_ 4)))) (λ_ _ _ _=>(gC 0)) (λ_ _ _ _=>(wV (mM a (v_ 0) (v_ 1)))) (λ_ _ _ _=>(v_ 0)) (DA 7 b))
  (az (fc (aM (aq (aM aw) (aq (aM aw) aw))) (cC rfl (aC (bE 8 b) (aC (bE 9 b) bK))))
  (az (Ff 4 PassesOwn.never (E9 m (gE (v_ 7))) (az (bH 10 b (Fu (v_ 7) (aR e a (aq (v_ 2) (aq (ja rfl B.len (gE (v_ 7))) aw)))))
  (az (bH 8 b (cz (v_ 8) (aM (aq (v_ 10) (aq (v_ 10) aw)))))
  (az (bH 9 b (aR h a (aq (v_ 9) (aq (v_ 5) (aq (aE (v_ 4) (v_ 10)) (aq (v_ 10) aw))))))
  (az (bH 11 b (aE (aR g a (aq (v_ 3) (aq (v_ 8) aw))) ax))
  (aH (cO (PW.pt (w_or (xk (jM (aR l a (aq (aR j a (aq (v_ 3) (aq (v_ 11) aw))) (aq (v_ 9) aw))))) (sZ (mM a (aR d a (aq (v_ 3) (aq (v_ 11) (aq (v_ 10) aw)))) (aM (aq bh (aq bh (aq bh aw)))))))) (aH (aO BL)) bI)))))))
  (az (bH 11 b (aE (aR g a (aq (v_ 3) (aq (cz (v_ 8) (aM (aq (v_ 6) aw))) aw))) ax))
  (az (mV PassesOwn.never rfl (qZ rfl B.range (ja rfl B.len (gE (v_ 4)))) (bE 12 b) (az (bH 11 b (aR q a (aq (v_ 3) (aq (v_ 11) (aq (v_ 9) (aq (v_ 6) aw))))))
  (az (cO (bU zh zv (v_ 11) fZ (bf _)) (aH (aO BL)) bI)
  (aH (bH 9 b (cG (v_ 9) (dw ax) dv))))))
  (az (bH 13 b (aE (aE (aE (v_ 11) ax) ax) ax))
  (az (bH 11 b (aE (aR p a (aq (v_ 3) (aq (v_ 11) (aq (v_ 6) aw)))) ax))
  (aH (cO (PW.pt (w_or (mM a (aR d a (aq (v_ 3) (aq (v_ 11) (aq (v_ 6) aw)))) (aM (aq bh aw))) (sZ (mM a (aE (aE (aE (v_ 11) ax) ax) ax) (aE (cz (v_ 13) (aM (aq (qK ax) aw))) ax))))) (aH (aO BL)) bI)))))))))))))
  (aH (aO BL)))
end
def all_mk{l:PySem.W.OpenLaw}{w:World}{K:PySem.W.Frag}{h:Heap}{mg:Str->Option Value}{fa f1 f2 f3 f4 f5 f6 f7 f8 f9 b2 m1 n1 e5 c2 r5 s7 a7 c6 e1 M q2 s0 H N o2 R h1 e7 h0 j t z a2 q6 h4 A b1 r L U l1 p2 a4 n7 e3 i1 s2 k3 e2 s1 n8 k6 q3 k4 f:Addr}(X:K.In h)(G:h.Ns mainGlobals mg)(f0:mg "law"=some (.ref fa))
  (d1:bt K "_law_pot" lU f1)
  (d2:bt K "_law_take" kr f2)
  (d3:bt K "_law_pick" kd f3)
  (d4:bt K "_law_world" jC f4)
  (d5:bt K "_law_stood" jg f5)
  (d6:bt K "values_of" ki f6)
  (d7:bt K "begun_room" jj f7)
  (d8:bt K "begun" vD f8)
  (d9:bt K "last_frame" jw f9)
  (r6:bt K "program_of" jG b2)
  (n0:bt K "names_of" lR m1)
  (h5:bt K "place_of" lQ n1)
  (q9:bt K "with_part" j6 e5)
  (p3:bt K "with_hand" ka c2)
  (a3:bt K "with_room" kn r5)
  (e6:bt K "put_thing" ku s7)
  (r3:bt K "value_of_two" hJ a7)
  (n4:bt K "value_of" lY c6)
  (a8:bt K "reckoned" lB e1)
  (h8:bt K "by_put" rB M)
  (e8:bt K "with_last_frame" fw q2)
  (a6:bt K "at_row" qm s0)
  (p1:bt K "by_unless" kj H)
  (c1:bt K "by_go" vE N)
  (o0:bt K "come_in" nB o2)
  (l0:bt K "by_do" vz R)
  (m0:bt K "bell_of" ou h1)
  (l2:bt K "with_line" kc e7)
  (e4:bt K "leave" vM h0)
  (q7:bt K "by_wait" oD j)
  (r7:bt K "by_call" nK t)
  (n5:bt K "by_all" qc z)
  (g2:bt K "by_tell" nJ a2)
  (b7:bt K "with_pass" kz q6)
  (k2:bt K "taken" uS h4)
  (k7:bt K "by_take" nI A)
  (l3:bt K "given_back" jD b1)
  (h9:bt K "by_give" nM r)
  (b3:bt K "by_pass" oh L)
  (h3:bt K "by_say" qC U)
  (h6:bt K "row_done" lT l1)
  (b5:bt K "end_deed" lV p2)
  (l5:bt K "step_of" og a4)
  (a9:bt K "hands_at" l8 n7)
  (o5:bt K "hands_in_rows" gA e3)
  (s3:bt K "is_behind_all" gw i1)
  (r2:bt K "may_step" lX s2)
  (n9:bt K "walked" rX k3)
  (h2:bt K "stepped" nE e2)
  (j4:bt K "_law_same" kh s1)
  (p4:bt K "_law_bell" ko n8)
  (b4:bt K "place_in_a_row" fT k6)
  (g4:bt K "stands" rq q3)
  (c0:bt K "_law_called" iE k4)
  {oc kV dc pm cd ct:Value} {od an:Option Addr} {sl:Array (Option Value)} (i5:PySem.W.nsIn K mainGlobals "law"=some (some (.ref f))) (i2:K.lookup f=some ⟨oc,od,.func (PySem.W.fnOf "law" "law" (gP mD) (eO mD) (aD mD) .none kV dc pm an cd ct),sl⟩) (b8:PySem.W.codeIn K cd "law"=true) (r4:PySem.W.keepIn K (.ref f)=true)
  {ia:Tok} (Cf:PySem.W.nsIn K mainGlobals "NOBODY"=some (some (.int (-1) ia)))
  {ig:Tok} (Jy:PySem.W.nsIn K mainGlobals "OWN"=some (some (.int (-1) ig)))
  {iU:Tok} (B3:PySem.W.nsIn K mainGlobals "HIGHEST"=some (some (.int (9) iU)))
  {tq yB:Nat} {vC vn u0 vG u5 uN vj uB uU vF sF sC:Tok} (Bh:PySem.W.nsIn K mainGlobals "DONE_BY"=some (some (.ref tq))) (yI:K.lookup tq=some ⟨.type "dict",none,.dict (List.toArray [⟨PyData.keyHash w.params "put",.str "put" vC,.ref M⟩,⟨PyData.keyHash w.params "unless",.str "unless" vn,.ref H⟩,⟨PyData.keyHash w.params "go",.str "go" u0,.ref N⟩,⟨PyData.keyHash w.params "do",.str "do" vG,.ref R⟩,⟨PyData.keyHash w.params "wait",.str "wait" u5,.ref j⟩,⟨PyData.keyHash w.params "call",.str "call" uN,.ref t⟩,⟨PyData.keyHash w.params "all",.str "all" vj,.ref z⟩,⟨PyData.keyHash w.params "tell",.str "tell" uB,.ref a2⟩,⟨PyData.keyHash w.params "take",.str "take" uU,.ref A⟩,⟨PyData.keyHash w.params "give",.str "give" vF,.ref r⟩,⟨PyData.keyHash w.params "pass",.str "pass" sF,.ref L⟩,⟨PyData.keyHash w.params "say",.str "say" sC,.ref U⟩]) yB,#[]⟩)
  (IE:PySem.W.nsIn K mainGlobals "len"=some none) (Es:PySem.W.nsIn K mainGlobals "tuple"=some none) (GH:PySem.W.nsIn K mainGlobals "list"=some none) (GV:PySem.W.nsIn K mainGlobals "dict"=some none) (Jl:PySem.W.nsIn K mainGlobals "set"=some none) (IV:PySem.W.nsIn K mainGlobals "int"=some none) (IQ:PySem.W.nsIn K mainGlobals "str"=some none) (Hd:PySem.W.nsIn K mainGlobals "bool"=some none) (JM:PySem.W.nsIn K mainGlobals "all"=some none) (Jj:PySem.W.nsIn K mainGlobals "any"=some none) (EX:PySem.W.nsIn K mainGlobals "range"=some none) (IS:PySem.W.nsIn K mainGlobals "zip"=some none) (DZ:PySem.W.nsIn K mainGlobals "sorted"=some none) (u4:PySem.W.nsIn K mainGlobals "isinstance"=some none) (Jb:PySem.W.nsIn K mainGlobals "min"=some none) (IM:PySem.W.nsIn K mainGlobals "max"=some none) (IK:PySem.W.nsIn K mainGlobals "abs"=some none) (wb:PySem.W.nsIn K mainGlobals "enumerate"=some none)
  (T:∀ns:List Int,ns.length<=63->∃S',ER [.ref 0] [.frz (ns.map D.int)]=some (.d (.bl true),S')):
  ∃fd:FuncData,(∀(s:Shared) (v:Value),BindsTo s fd ⟨[v],[]⟩ [("_law_script",v)])/\∀base:Heap,K.In base->base.Ns mainGlobals mg->bC l.prog w K mg base d0 15 fa fd CT ye:=by
 have e:=f0.symm.trans (PySem.W.mg_of X G i5)
 cases e
 have r1:=yy (st:=mD) i2 b8 r4
 have O1:=d1.ok1 (ps:=zU) X G
 have O2:=d2.ok1 (ps:=zC) X G
 have O3:=d3.ok1 (ps:=w_) X G
 have O4:=d4.ok1 (ps:=E3) X G
 have O5:=d5.ok1 (ps:=Fe) X G
 have O6:=d6.ok1 (ps:=wG) X G
 have O7:=d7.ok1 (ps:=xg) X G
 have O8:=d8.ok1 (ps:=Ab) X G
 have O9:=d9.ok1 (ps:=wZ) X G
 have q1:=r6.ok1 (ps:=AD) X G
 have s4:=n0.ok1 (ps:=wD) X G
 have k5:=h5.ok1 (ps:=xu) X G
 have s6:=q9.ok1 (ps:=xX) X G
 have j1:=p3.ok1 (ps:=xM) X G
 have n6:=a3.ok1 (ps:=wC) X G
 have s8:=e6.ok1 (ps:=AI) X G
 have l6:=r3.ok1 (ps:=wX) X G
 have l7:=n4.ok1 (ps:=tM) X G
 have c5:=a8.ok1 (ps:=zQ) X G
 have J:=h8.ok1 (ps:=bJ) X G
 have a5:=e8.ok1 (ps:=AH) X G
 have h7:=a6.ok1 (ps:=AR) X G
 have Y:=p1.ok1 (ps:=bJ) X G
 have a0:=c1.ok1 (ps:=bJ) X G
 have b0:=o0.ok1 (ps:=zV) X G
 have C:=l0.ok1 (ps:=bJ) X G
 have b6:=m0.ok1 (ps:=zJ) X G
 have g1:=l2.ok1 (ps:=Ai) X G
 have k1:=e4.ok1 (ps:=z9) X G
 have I:=q7.ok1 (ps:=bJ) X G
 have a1:=r7.ok1 (ps:=bJ) X G
 have y:=n5.ok1 (ps:=bJ) X G
 have u:=g2.ok1 (ps:=bJ) X G
 have o3:=b7.ok1 (ps:=v9) X G
 have g0:=k2.ok1 (ps:=zF) X G
 have q:=k7.ok1 (ps:=bJ) X G
 have q8:=l3.ok1 (ps:=Ay) X G
 have S:=h9.ok1 (ps:=bJ) X G
 have o:=b3.ok1 (ps:=bJ) X G
 have n:=h3.ok1 (ps:=bJ) X G
 have j5:=h6.ok1 (ps:=bJ) X G
 have e0:=b5.ok1 (ps:=dJ) X G
 have c4:=l5.ok1 (ps:=dJ) X G
 have q4:=a9.ok1 (ps:=xl) X G
 have m2:=o5.ok1 (ps:=Af) X G
 have n2:=s3.ok1 (ps:=dJ) X G
 have n3:=r2.ok1 (ps:=As) X G
 have e9:=n9.ok1 (ps:=zP) X G
 have g3:=h2.ok1 (ps:=dJ) X G
 have q5:=j4.ok1 (ps:=zu) X G
 have o1:=p4.ok1 (ps:=AN) X G
 have c3:=b4.ok1 (ps:=dJ) X G
 have l4:=g4.ok1 (ps:=dJ) X G
 have o4:=c0.ok1 (ps:=zD) X G
 have fm:=PySem.W.mg_of X G Cf
 have c:=PySem.W.mg_of X G Jy
 have g6:=PySem.W.mg_of X G B3
 have nU:AK l.prog w K mg "DONE_BY" kN:=Cm (PySem.W.mg_of X G Bh) yI (.cons J.m (.cons Y.m (.cons a0.m (.cons C.m (.cons I.m (.cons a1.m (.cons y.m (.cons u.m (.cons q.m (.cons S.m (.cons o.m (.cons n.m .nil)))))))))))) (by decide +kernel)
 have B:Bl mg:=⟨QFq X G IE,QFq X G Es,QFq X G GH,QFq X G GV,QFq X G Jl,QFq X G IV,QFq X G IQ,QFq X G Hd,QFq X G JM,QFq X G Jj,QFq X G EX,QFq X G IS,QFq X G DZ,QFq X G u4,QFq X G Jb,QFq X G IM,QFq X G IK,QFq X G wb⟩
 refine⟨PySem.W.fnOf "law" "law" (gP mD) (eO mD) (aD mD) .none kV dc pm an cd ct,λs v=>.of_eq rfl,λbase _ _=> ?_⟩
 have Z:Pk l.prog w base:=⟨⟩
 have lO:=O1.cal Z λ_ F _ _ _=>wB F B
 have bO:=O2.cal Z λ_ F _ _ _=>u3 F B
 have iB:=O3.cal Z λ_ F _ _ _=>vH F B bO
 have jm:=O4.cal Z λ_ F _ _ _=>sP F B bO iB
 have jE:=O5.cal Z λ_ F _ _ _=>sN F B
 have et:=O6.cal Z λ_ F _ _ _=>uX F B
 have jq:=O7.cal Z λ_ F _ _ _=>sG F B et fm
 have kF:=O8.cal Z λ_ F _ _ _=>Dl F B et jq c
 have a:=O9.cal Z λ_ F _ _ _=>sy F B
 have bR:=q1.cal Z λ_ F _ _ _=>sS F B c
 have cH:=s4.cal Z λ_ F _ _ _=>yb F B
 have i:=k5.cal Z λ_ F _ _ _=>yh F B cH
 have Q:=s6.cal Z λ_ F _ _ _=>vB F B
 have cc:=j1.cal Z λ_ F _ _ _=>uL F B Q
 have P:=n6.cal Z λ_ F _ _ _=>vh F B Q
 have ff:=s8.cal Z λ_ F _ _ _=>vb F B a i Q P cH cc c
 have fB:=l6.cal Z λ_ F _ _ _=>pA F B g6
 have eW:=l7.cal Z λ_ F b k m=>oJ F B fB b k m 6
 have g:=c5.cal Z λ_ F _ _ _=>wz F B a cH eW c
 have Da:=J.cal Z λ_ F _ _ _=>BG F B ff g
 have cE:=a5.cal Z λ_ F _ _ _=>lN F B cc
 have ft:=h7.cal Z λ_ F _ _ _=>Bi F B a cE
 have wx:=Y.cal Z λ_ F _ _ _=>uT F B g ft
 have Fq:=a0.cal Z λ_ F _ _ _=>Cw F B ft
 have g5:=b0.cal Z λ_ F _ _ _=>yM F B P fm
 have FA:=C.cal Z λ_ F _ _ _=>Df F B i g g5 cc
 have eE:=b6.cal Z λ_ F _ _ _=>zp F B a i
 have c_:=g1.cal Z λ_ F _ _ _=>vQ F B P Q
 have kJ:=k1.cal Z λ_ F _ _ _=>Cg F B P fm
 have B2:=I.cal Z λ_ F _ _ _=>yo F B eE g c_ kJ
 have BD:=a1.cal Z λ_ F _ _ _=>ym F B eE c_ P
 have CD:=y.cal Z λ_ F _ _ _=>AY F B eE c_
 have BZ:=u.cal Z λ_ F _ _ _=>yV F B g cE a
 have dB:=o3.cal Z λ_ F _ _ _=>vS F B Q
 have kG:=g0.cal Z λ_ F _ _ _=>CZ F B i dB
 have B6:=q.cal Z λ_ F _ _ _=>yN F B kG
 have eD:=q8.cal Z λ_ F _ _ _=>sU F B i dB g6
 have BJ:=S.cal Z λ_ F _ _ _=>yu F B eD
 have BN:=o.cal Z λ_ F _ _ _=>yT F B kG eD
 have DY:=n.cal Z λ_ F _ _ _=>BK F B
 have r_:∀x F,rN.lookup x=some F->fG l.prog w K mg base 10 x bJ F:=by
  refine DK λp hp=> ?_
  simp only[rN,Qsq,QXq,or_false] at hp
  rcases hp with rfl|rfl|rfl|rfl|rfl|rfl|rfl|rfl|rfl|rfl|rfl|rfl
  ·exact Da.mono (by decide)
  ·exact wx.mono (by decide)
  ·exact Fq.mono (by decide)
  ·exact FA.mono (by decide)
  ·exact B2.mono (by decide)
  ·exact BD.mono (by decide)
  ·exact CD.mono (by decide)
  ·exact BZ.mono (by decide)
  ·exact B6.mono (by decide)
  ·exact BJ.mono (by decide)
  ·exact BN.mono (by decide)
  ·exact DY.mono (by decide)
 have lK:=j5.cal Z λ_ F _ _ _=>xT F B r_ nU
 have lF:=e0.cal Z λ_ F _ _ _=>vY F B cc kJ bR ff
 have gZ:=c4.cal Z λ_ F _ _ _=>yA F B a g5 bR lF g lK ft c
 have fR:=q4.cal Z λ_ F _ _ _=>w6 F B
 have gu:=m2.cal Z λ_ F _ _ _=>om F B fR
 have gB:=n2.cal Z λ_ F _ _ _=>oo F B a bR c
 have fQ:=n3.cal Z λ_ F _ _ _=>xZ F B gu gB
 have nc:=e9.cal Z λ_ F _ _ _=>Bj F B kF fQ gZ
 have fI:=g3.cal Z λ_ F _ _ _=>y0 F B fQ gZ
 have dD:=q5.cal Z λ_ F b k m=>my F B b k m 10
 have fe:=o1.cal Z λ_ F _ _ _=>uG F B
 have fM:=c3.cal Z λ_ F _ _ _=>m6 F B fR
 have dN:=l4.cal Z λ_ F _ _ _=>BM F B fM a bR c
 have iG:=o4.cal Z λ_ F _ _ _=>rL F B fI dD fe dN
 exact FN (Ii r1 B lO jm bO kF jE nc dD fe dN iG fI) T
end W28
namespace DL
open PySem PySem.Spec L2
def vP{a:dt}{S:aI}{Q:Bool->aI->Prop}(q:Q true S):E e_ a S Q:=⟨_,_,rfl,q⟩
section
variable{S:aI}
def Lu{i j:Int}{Q:D->Prop}(q:Q (.int (i+j))):Op (cJ S (.int i) (.int j)) Q:=⟨_,rfl,q⟩
def cN{i j:List D}{Q:D->Prop}(h:i.length+j.length<=sizeLine)(q:Q (.tup (i++j))):Op (cJ S (.tup i) (.tup j)) Q:=⟨_,by simp only[cJ];rw[Qhq h],q⟩
def CQ{k:Int->Int->D}{i j:Int}{Q:D->Prop}(q:Q (k i j)):Op (intD (λ_ _=>True) k S (.int i) (.int j)) Q:=⟨_,by simp only[intD,if_true],q⟩
def sg{i j:Int}{Q:D->Prop}(h:0<j)(q:Q (.int (i%j))):Op (pF S (.int i) (.int j)) Q:=⟨_,by simp only[pF,intD];rw[Qhq h],q⟩
def CA{i j:Int}{Q:D->Prop}(h:De i j)(q:Q (.int (i/j))):Op (xB S (.int i) (.int j)) Q:=⟨_,by simp only[xB,intD];rw[Qhq h],q⟩
def tY{i j:Int}{Q:D->Prop}(h:FJ i j)(q:Q (.int (i*j))):Op (lM S (.int i) (.int j)) Q:=⟨_,by simp only[lM,intD];rw[Qhq h.ok],q⟩
def ay{ds:List D}{i:Int}{d:D}{Q:D->Prop}(h:kW ds i=some d)(q:Q d):Op (aS S (.tup ds) (.int i)) Q:=⟨_,h,q⟩
def gH{k:Nat}{ds:List D}{i:Int}{d:D}{Q:D->Prop}(a:S[k]?=some (.lst ds))(h:kW ds i=some d)(q:Q d):Op (aS S (.ref k) (.int i)) Q:=⟨_,by simp only[aS,a];exact h,q⟩
def cU{ds:List D}{Q:List D×Tag->Prop}(q:Q (ds,.tu)):Op (m5 S (.tup ds)) Q:=⟨_,rfl,q⟩
def iK{k:Nat}{ds:List D}{Q:List D×Tag->Prop}(a:S[k]?=some (.lst ds))(q:Q (ds,.st k)):Op (m5 S (.ref k)) Q:=⟨_,by simp only[m5,a],q⟩
def Ji{α:Type}{o:Option α}{d:α}{Q:α->Prop}(h:o=some d)(q:Q d):Op o Q:=⟨d,h,q⟩
end
def aW{b:Bool}{p q:Prop}(a:b=true->p)(c:b=false->q):if b=true then p else q:=by
 cases b with
 |true=>exact a rfl
 |false=>exact c rfl
end DL
local macro_rules|`(tactic|symm)=>do
 let mut a:Array (Lean.TSyntax `Lean.Parser.Tactic.tacticSeq):= #[]
 for s in (["cv","gV","rg","La","Gn","LN","DJ","cf","Lg","zw","Lb","K5","Lf","Lx","Ks","Ll","LH","Gi","Iw","JQ","KL","Im","Fh","K2","Kg","gq","IW","Hz","Hj","Di","Lj","vP","bg","LC","Ce","AU","Lu","CQ","cU"]:List String) do a:=a.push (←`(tacticSeq|refine $(Lean.mkIdent (.str (.str .anonymous "DL") s)) ?_))
 `(tactic|repeat(first|(with_reducible first $[| $a]*)|((with_reducible refine DL.cR (d := ?_) ?_ ?_); rotate_left; rfl)|dsimp only))
local macro_rules|`(tactic|apply $e)=>`(tactic|(refine $e;symm))
namespace W28
open PySem PySem.Spec L2 DL
def nY(a b c:Int):O:=.lst [.int a,.int b,.int c]
def Bv{S:aI}{k:Nat}{a b p m:Int}{Q:Res->aI->Prop}(e:S[k]?=some (nY a b p))(i:0<m)(u:m<1000000)
  (h:∀(d r n l:Int),0<=d->d<m->Q (.d (.int d)) (S.set k (nY r n l))):Fn cu [.ref k,.int m] S Q:=by
 have q:k<S.length:=(gQs.mp e).1
 have j:∀(o:O),(S.set k o).take S.length=S.set k o:=λo=>by rw[List.take_of_length_le];simp
 refine bX ?_
 unfold rK
 symm
 refine gH e rfl ?_
 symm
 refine aW (λc=> ?_) (λc=> ?_)
 ·symm
  refine gH e rfl ?_
  symm
  refine sg i ?_
  symm
  refine gH e rfl ?_
  symm
  refine CA ⟨i,by omega⟩ ?_
  symm
  refine⟨_,_,_,_,rfl,rfl,e,rfl,?_⟩
  symm
  refine g8 (tW (by rfl)) (j _) (λ_ z=>by cases z) rfl ?_
  exact h _ _ _ _ (Int.emod_nonneg _ (by omega)) (Int.emod_lt_of_pos _ i)
 ·symm
  refine⟨_,_,_,_,rfl,rfl,e,by decide,rfl,?_⟩
  symm
  refine⟨_,_,_,rfl,e,rfl,?_⟩
  have f:∀o:O,(S.set k o)[k]?=some o:=λo=>by rw[Qyq q]
  symm
  refine gH (f _) rfl ?_
  symm
  refine tY (.inr ⟨by decide,by decide⟩) ?_
  symm
  refine gH (f _) rfl ?_
  refine tY (.inl ⟨by decide,by decide⟩) ?_
  symm
  refine sg (by decide) ?_
  generalize g:(b*69069+9973*_+5)%2305843009213693921=mx
  have t:0<=mx:=by rw[←g];exact Int.emod_nonneg _ (by decide)
  have s:mx<2305843009213693921:=by rw[←g];exact Int.emod_lt_of_pos _ (by decide)
  symm
  refine sg (by decide) ?_
  symm
  refine gH (f _) rfl ?_
  refine tY (.inl ⟨by decide,by decide⟩) ?_
  symm
  refine tY (.inl ⟨by omega,by omega⟩) ?_
  symm
  refine sg (by decide) ?_
  symm
  refine⟨_,_,_,_,rfl,rfl,f _,rfl,?_⟩
  symm
  refine gH (by rw[List.set_set];exact f _) rfl ?_
  symm
  refine CA ⟨by decide,by decide⟩ ?_
  symm
  refine sg i ?_
  symm
  rw[List.set_set]
  refine g8 (tW (by rfl)) (j _) (λ_ z=>by cases z) rfl ?_
  exact h _ _ _ _ (Int.emod_nonneg _ (by omega)) (Int.emod_lt_of_pos _ i)
structure Ex(k:Nat)(S S':aI):Prop where
 len:S.length<=S'.length
 keep:∀(j:Nat) (o:O),j≠k->S[j]?=some o->S'[j]?=some o
 pot:∃a b c,S'[k]?=some (nY a b c)
def Ex.refl{k:Nat}{S:aI}{a b c:Int}(h:S[k]?=some (nY a b c)):Ex k S S:=⟨Qmq _,λ_ _ _ h=>h,_,_,_,h⟩
def Ex.trans{k:Nat}{S a S2:aI}(x:Ex k S a)(y:Ex k a S2):Ex k S S2:=⟨QAq x.len y.len,λj o n h=>y.keep j o n (x.keep j o n h),y.pot⟩
def Ex.set{k:Nat}{S d:aI}{a b c:Int}(x:Ex k S d):Ex k S (d.set k (nY a b c)):=by
 obtain⟨_,_,_,h⟩:=x.pot
 refine⟨by simpa using x.len,λj o n h=> ?_,a,b,c,Qyq (gQs.mp h).1⟩
 rw[QKq (Ne.symm n)]
 exact x.keep j o n h
def Ex.app{k:Nat}{S d G:aI}(x:Ex k S d):Ex k S (d++G):=by
 obtain⟨a,b,c,h⟩:=x.pot
 refine⟨by rw[lQa];have:=x.len;omega,λj o n h=> ?_,a,b,c,?_⟩
 ·have:=x.keep j o n h
  rw[QHq (gQs.mp this).1]
  exact this
 ·rw[QHq (gQs.mp h).1]
  exact h
def Ex.put{k r:Nat}{S d:aI}{o:O}(x:Ex k S d)(g:S.length<=r)(i:k<S.length):Ex k S (d.set r o):=by
 obtain⟨a,b,c,h⟩:=x.pot
 refine⟨by simpa using x.len,λj e n h=> ?_,a,b,c,?_⟩
 ·have f:=(gQs.mp h).1
  rw[QKq (by omega)]
  exact x.keep j e n h
 ·rw[QKq (by omega)]
  exact h
def Ex.lt{k:Nat}{S d:aI}(x:Ex k S d):k<d.length:=by
 obtain⟨a,b,c,h⟩:=x.pot
 exact(gQs.mp h).1
def kf{S G:aI}{j:Nat}{o:O}(h:S[j]?=some o):(S++G)[j]?=some o:=by
 rw[QHq (gQs.mp h).1]
 exact h
def bM{S:aI}{o:O}:(S++ [o])[S.length]?=some o:=by simp
def yp{S:aI}{k j:Nat}{o o':O}(n:j≠k)(h:S[j]?=some o):(S.set k o')[j]?=some o:=by
 rw[QKq (Ne.symm n)]
 exact h
def rA{S:aI}{j:Nat}{o o':O}(h:S[j]?=some o):(S.set j o')[j]?=some o':=Qyq (gQs.mp h).1
def Ex.clean{k:Nat}{S f:aI}(x:Ex k S f)(l:k<S.length):m8 S f/\∃a b c,f.take S.length=S.set k (nY a b c):=by
 obtain⟨a,b,c,h⟩:=x.pot
 have g:∀j,j<S.length->f[j]?=(S.set k (nY a b c))[j]? :=λj d=>by
  by_cases e:j=k
  ·subst e
   rw[h,Qyq d]
  ·rw[QKq (Ne.symm e),x.keep j _ e (gQe d),gQe d]
 refine⟨⟨x.len,λj o d e=> ?_⟩,a,b,c,?_⟩
 ·by_cases i:j=k
  ·subst i
   rw[h] at e
   cases e
   exact .inr rfl
  ·rw[x.keep j _ i (gQe d)] at e
   rw[gQe d]
   exact .inl e
 ·apply List.ext_getElem?
  intro j
  by_cases d:j<S.length
  ·rw[List.getElem?_take_of_lt d]
   exact g j d
  ·rw[List.getElem?_eq_none (by rw[Qxq];omega),List.getElem?_eq_none (by simp;omega)]
def Gp{k:Nat}{S e:aI}{d:D}{Q:Res->aI->Prop}(x:Ex k S e)(h:k<S.length)(hd:∀k,d≠.ref k)(i:cD S.length d=true)(q:∀a b c,Q (.d d) (S.set k (nY a b c))):Op (settle S d e) λp=>Q p.1 p.2:=by
 obtain⟨f,a,b,c,g⟩:=x.clean h
 exact g8 f g hd i (q a b c)
def gM{S g:aI}{k:Nat}{m:Int}{Q:Res->aI->Prop}(x:Ex k g S)(l:0<m)(j:m<1000000)
  (h:∀(d:Nat) (e:aI),(d:Int)<m->Ex k g e->Ex k S e->e.length=S.length->Q (.d (.int d)) e):Fn cu [.ref k,.int m] S Q:=by
 obtain⟨a,b,c,f⟩:=x.pot
 refine Bv f l j λd r q p o i=> ?_
 obtain⟨n,rfl⟩:∃n:Nat,d=n:=⟨d.toNat,by omega⟩
 exact h n _ i x.set (Ex.refl f).set (by simp)
def aZ{α:Type}{xs:List α}{j:Nat}{x:α}(h:xs[j]?=some x):kW xs (j:Int)=some x:=by
 have a:=(gQs.mp h).1
 unfold kW Bx
 rw[Qhq (by omega),Qhq (by omega)]
 simpa using h
def Fm{S n:aI}{k i:Nat}{xs:List D}{Q:Res->aI->Prop}(x:Ex k n S)(hi:i≠k)(m:S[i]?=some (.lst xs))(s:0<xs.length)(u:xs.length<1000)(p:∀d∈xs,(∀k,d≠.ref k)/\cD 0 d=true)
  (e:∀d∈xs,cD S.length d=true)
  (h:∀(d:D) (g:aI),d∈xs->Ex k n g->Ex k S g->g.length=S.length->Q (.d d) g):Fn fP [.ref k,.ref i] S Q:=by
 have y:Ex k S S:=by obtain⟨a,b,c,o⟩:=x.pot;exact Ex.refl o
 refine bX ?_
 unfold lS
 symm
 apply Ds ?_
 apply⟨xs.length,by simp[zH,m5,m],?_⟩
 refine gM y (by show(0:Int)<xs.length;omega) (by show(xs.length:Int)<1000000;omega) λd g q l t r=> ?_
 dsimp only
 have f:d<xs.length:=by have:(d:Int)<(xs.length:Int):=q;omega
 refine gH (l.keep _ _ hi m) (aZ (gQe f)) ?_
 have j:=List.getElem_mem f
 refine Gp l x.lt (p _ j).1 (e _ j) λa b c=> ?_
 exact h _ _ j x.set y.set (by simp)
end W28
namespace DL
open PySem PySem.Spec L2
mutual
theorem qJ{m:Nat}:∀{d:D},cD 0 d=true->cD m d=true
 |.non,_=>rfl
 |.bl _,_=>rfl
 |.int _,_=>rfl
 |.str _,_=>rfl
 |.tup ds,h=>by simp only[cD] at h⊢;exact i4 h
 |.ref k,h=>by simp[cD] at h
 |.fn _,_=>rfl
theorem i4{m:Nat}:∀{ds:List D},bS 0 ds=true->bS m ds=true
 | [],_=>rfl
 | d::ds,h=>by
   simp only[bS,QCq] at h⊢
   exact⟨qJ h.1,i4 h.2⟩
end
theorem mi{m:Nat}:∀{ds:List D},(∀d∈ds,cD m d=true)->bS m ds=true
 | [],_=>rfl
 | d::ds,h=>by
   simp only[bS,QCq]
   exact⟨h d (QBq ..),mi λe a=>h e (Qpq _ a)⟩
def bT{α:Type}{m:Nat}{f:α->D}{l:List α}(h:∀a∈l,cD m (f a)=true):bS m (l.map f)=true:=mi λd c=>by
 obtain⟨a,b,rfl⟩:=Qkq.mp c
 exact h a b
end DL
namespace W28
open PySem PySem.Spec L2 DL
theorem uv{α a:Type}(g:α->a):∀(l:List α) (k:Nat),(l.map g).eraseIdx k=(l.eraseIdx k).map g
 | [],_=>rfl
 |_::_,0=>rfl
 |x::l,k+1=>congrArg (g x::·) (uv g l k)
def JE{n j:Nat}(h:j<n)(a:n<1000):seqIndex? (j:Int) n=some j:=(uE (by unfold Bx;rw[Qhq (by omega),Qhq (by omega)];simp)).1
end W28
namespace DL
open PySem PySem.Spec L2
def I0{a:dt}{S:aI}{f g:fE}{Q:List D->aI->Prop}(h:E f a S λp b=>E g a b λr S2=>(p.2.isM=true/\r.2.isM=true/\p.2.stays S2 p.1/\p.1.length+r.1.length<=sizeLine)/\Q (p.1++r.1) S2):E (FI f g) a S Q:=by
 obtain⟨p,b,c,r,S2,d,l,q⟩:=h
 exact⟨_,S2,by unfold FI;rw[c];simp only[Qbq];rw[d];simp only[Qbq];rw[Qhq l],q⟩
def ij{S:aI}{i j:Int}{Q:D->Prop}(q:Q (.bl (decide (i=j)))):Op (iJ false S (.int i) (.int j)) Q:=⟨_,by simp[iJ,ua,yl],q⟩
def hG{S:aI}{i j:Str}{Q:D->Prop}(q:Q (.bl (decide (i=j)))):Op (iJ false S (.str i) (.str j)) Q:=⟨_,by simp[iJ,ua,yl],q⟩
def eA{a:dt}{S:aI}{n:Nat}{g:pz}{ds:List D}{Q:dt->aI->Prop}(c:ds.length=n)(h:Kr g ds a S Q):Tg (ju (nG n g)) (.tup ds) a S Q:=by
 obtain⟨b,d,e,q⟩:=h
 exact⟨b,d,by show nG n g ds a S=_;unfold nG;rw[Qhq c];exact e,q⟩
def bq{a:dt}{S:aI}{Q:dt->aI->Prop}(q:Q a S):Kr dQ [] a S Q:=⟨_,_,rfl,q⟩
def aB{b:dt}{S:aI}{f:mf}{g:pz}{d:D}{ds:List D}{Q:dt->aI->Prop}(h:Tg f d b S λa e=>Kr g ds a e Q):Kr (aN f g) (d::ds) b S Q:=by
 obtain⟨a,e,i,c,j,k,q⟩:=h
 exact⟨c,j,by show(f d b S).bind _=_;rw[i];exact k,q⟩
end DL
namespace W28
open PySem PySem.Spec L2 DL
def ops:List Str:= ["plus","minus","less","same","both"]
inductive Tr where
 |num (n:Nat)|word (x:Str)|waits (b:Str)|no (t:Tr)|two (o:Str) (a b:Tr)
def Tr.d:Tr->D
 |.num n=>.int n
 |.word x=>.str x
 |.waits b=>.tup [.str "waits",.str b]
 |.no t=>.tup [.str "not",t.d]
 |.two o a b=>.tup [.str o,a.d,b.d]
def Tr.Ok(ws bs:List Str):Tr->Prop
 |.num n=>n<=9
 |.word x=>x∈ws
 |.waits b=>b∈bs
 |.no t=>t.Ok ws bs
 |.two o a b=>o∈ops/\a.Ok ws bs/\b.Ok ws bs
def Tr.dep:Tr->Nat
 |.num _=>1
 |.word _=>1
 |.waits _=>1
 |.no t=>t.dep+1
 |.two _ a b=>max a.dep b.dep+1
theorem Tr.low:∀t:Tr,cD 0 t.d=true
 |.num _=>rfl
 |.word _=>rfl
 |.waits _=>rfl
 |.no t=>by simp only[Tr.d,cD,bS];rw[t.low];rfl
 |.two _ a b=>by simp only[Tr.d,cD,bS];rw[a.low,b.low];rfl
inductive Rw where
 |put (x:Str) (t:Tr)|unl (t:Tr) (n:Nat)|go (n:Nat)|do_ (g:Option Str) (r d:Str) (t:Tr)|wait (b:Str) (t:Tr)|call (b:Str)|all (b:Str)|tell (t:Tr)
 |take (p:Str)|give (p:Str)|pass (p q:Str)|say (t:Tr)
def G5:Option Str->D
 |none=>.non
 |some x=>.str x
def Rw.d:Rw->D
 |.put x t=>.tup [.str "put",.str x,t.d]
 |.unl t n=>.tup [.str "unless",t.d,.int n]
 |.go n=>.tup [.str "go",.int n]
 |.do_ g r d t=>.tup [.str "do",G5 g,.str r,.str d,t.d]
 |.wait b t=>.tup [.str "wait",.str b,t.d]
 |.call b=>.tup [.str "call",.str b]
 |.all b=>.tup [.str "all",.str b]
 |.tell t=>.tup [.str "tell",t.d]
 |.take p=>.tup [.str "take",.str p]
 |.give p=>.tup [.str "give",.str p]
 |.pass p q=>.tup [.str "pass",.str p,.str q]
 |.say t=>.tup [.str "say",t.d]
structure Sc where
 own:Bool
 ws:List Str
 ps:List Str
 bs:List Str
 gs:List (Str×Str)
 ts:List Str
def Ia(a:Sc)(t:Tr):Prop:=t.Ok a.ws a.bs/\t.dep<=4
def Rw.Ok(a:Sc)(n:Nat):Rw->Prop
 |.put x t=>x∈a.ps/\Ia a t
 |.unl t m=>Ia a t/\m<=n
 |.go m=>m<=n
 |.do_ g r d t=>(∀x,g=some x->x∈a.ps)/\(r,d)∈a.gs/\Ia a t
 |.wait b t=>a.own=false/\b∈a.bs/\Ia a t
 |.call b=>a.own=false/\b∈a.bs
 |.all b=>a.own=false/\b∈a.bs
 |.tell t=>a.own=false/\Ia a t
 |.take p=>a.own=true/\p∈a.ts
 |.give p=>a.own=true/\p∈a.ts
 |.pass p q=>a.own=true/\p∈a.ts/\q∈a.ts
 |.say t=>a.own=true/\Ia a t
theorem Rw.low(r:Rw):cD 0 r.d=true:=by
 cases r with
 |do_ g r d t=>cases g <;>simp only[Rw.d,cD,bS,G5,t.low,Bool.and_true,Bool.true_and]
 |_=>simp only[Rw.d,cD,bS,Tr.low,Bool.and_true,Bool.true_and]
def Hv(b:Sc)(a:List Rw):Prop:=∀r∈a,r.Ok b a.length
end W28
namespace DL
open PySem PySem.Spec L2
def Js{b:dt}{S:aI}{f:bA}{g:fE}{Q:D->aI->Prop}(h:E f b S λx c=>∃k a,x=.ref k/\c[k]?=some (.lst a)/\E g b c λp S2=>∃ds,S2[k]?=some (.lst ds)/\(p.2.isM=true/\ds.length+p.1.length<=sizeLine)/\Q .non (S2.set k (.lst (ds++p.1)))):E (C_ f g) b S Q:=by
 obtain⟨x,c,d,k,a,rfl,h1,p,S2,e2,ds,h2,h3,q⟩:=h
 exact⟨_,_,by unfold C_;rw[d];simp only[Qbq,e2,h1,h2];rw[Qhq h3],q⟩
def vN{b:dt}{S:aI}{f g:bA}{Q:D->aI->Prop}(h:E f b S λd a=>∃k,d=.bl k/\if k=true then E g b a Q else Q (.bl false) a):E (xv f g) b S Q:=by
 obtain⟨d,a,c,k,rfl,q⟩:=h
 cases k with
 |true=>obtain⟨j,e,i,q⟩:=(q:E g b a Q);exact⟨j,e,by unfold xv;rw[c];exact i,q⟩
 |false=>exact⟨_,a,by unfold xv;rw[c];rfl,q⟩
end DL
namespace W28
open PySem PySem.Spec L2 DL
def lH:List Str:= ["given"]
end W28
namespace DL
open PySem PySem.Spec L2
def K3{b a:dt}{d:D}(h:b.set 0 none=a.set 0 none):b.set 0 (some d)=a.set 0 (some d):=by
 have:=congrArg (λc:dt=>c.set 0 (some d)) h
 simpa using this
def Ha{g:dt}{S:aI}{js:List (Option Nat)}{f:fE}{e:bA}{Q:List D->aI->Prop}(F:D->D)(h:E f g S λp c=>p.2.stays c p.1/\p.1.length<=1000/\(∀d∈p.1,E e ((m9 js g).set 0 (some d)) c λy S2=>y=F d/\S2=c)/\Q (p.1.map F) c):
  E (dC js (sm f) (cy 0) e_ e) g S Q:=by
 refine q0 (AU (h.mono λp c k=> ?_))
 obtain⟨r,u,s,q⟩:=k
 refine⟨λn a i b=>i=c/\b=(p.1.take n).map F/\a.set 0 none=(m9 js g).set 0 none,⟨rfl,rfl,rfl⟩,λn a i b h=>by rw[h.1];exact r,λn d a i b j h=> ?_,λa i b h=> ?_⟩
 ·obtain⟨rfl,rfl,h3⟩:=h
  refine bg (vP ?_)
  rw[Qhq rfl,K3 h3]
  refine(s d (mQg j)).mono λy S2 o=> ?_
  obtain⟨m,l⟩:=o
  subst m l
  have t:=(gQs.mp j).1
  refine⟨?_,rfl,?_,by simp⟩
  ·rw[lQm,Qxq]
   exact bo (by omega)
  ·rw[QYq,j]
   simp
 ·obtain⟨rfl,rfl,_⟩:=h
  rw[QEq]
  exact q
end DL
namespace W28
open PySem PySem.Spec L2 DL
def vU(p:Str×Nat):D:=.tup [.str p.1,.int p.2]
def Ba(p:Str×Str):D:=.tup [.str p.1,.str p.2]
def zZ(p:Str×List Rw):D:=.tup [.str p.1,.tup (p.2.map Rw.d)]
structure Rm where
 name:Str
 ah:Str
 ao:List (Str×Nat)
 aa:List (Str×Str)
 ae:List (Str×List Rw)
def Rm.d(r:Rm):D:=.tup [.str r.name,.str r.ah,.tup (r.ao.map vU),.tup (r.aa.map Ba),.tup (r.ae.map zZ)]
structure JD(gs:List (Str×Str))(r:Rm):Prop where
 mn:r.ah="at once" \/r.ah="when free"
 tv:∀p∈r.ao,p.2<=9
 l1:r.ao.length<=6
 l2:r.aa.length<=6
 l3:r.ae.length<=6
 bv:∀p∈r.aa,p.2="row" \/p.2="turns"
 pr:∀p∈r.ae,Hv ⟨false,r.ao.map (·.1)++lH,r.ao.map (·.1),r.aa.map (·.1),gs,[]⟩ p.2/\p.2.length<=12
end W28
namespace DL
open PySem PySem.Spec L2
end DL
namespace W28
open PySem PySem.Spec L2 DL
end W28
namespace DL
open PySem PySem.Spec L2
theorem JZ{c:jA}{b:cZ}{Q:Out->Prop}(I:Nat->dt->aI->Prop)(g:∀m a S,I m a S->E c a S λk f=>if k=true then∃e,m=e+1/\T b a f λo=>match o with|.nx d S2=>I e d S2|_=>False else Q (.nx a f)):
  ∀(n m:Nat) (a:dt) (S:aI),m<n->I m a S->T (Ej c b n) a S Q
 |0,_,_,_,h,_=>absurd h (Nat.not_lt_zero _)
 | n+1,m,a,S,h,hi=>by
   obtain⟨k,f,i,q⟩:=g m a S hi
   cases k with
   |false=>exact⟨_,by simp only[Ej];rw[i];rfl,q⟩
   | true=>
     obtain⟨e,rfl,o,e2,q⟩:=(q:∃e,m=e+1/\T b a f _)
     cases o with
     | nx d S2=>
       obtain⟨o,j,q⟩:=JZ I g n e d S2 (by omega) q
       exact⟨o,by simp only[Ej];rw[i];simp only[Qbq,if_true];rw[e2];exact j,q⟩
     |_=>exact q.elim
def Fo{c:dt}{S:aI}{f:fE}{Q:List D->aI->Prop}(h:E f c S λp b=>p.2.isL=true/\∃a,xE p.1=some a/\(p.1.length<=3/\a.Nodup)/\Q (qF a p.1) b):E (vm f) c S Q:=by
 obtain⟨p,b,d,l,a,e,g,q⟩:=h
 exact⟨_,b,by unfold vm;rw[d];simp only[Qbq];rw[Qhq l,e];simp only[Qbq];rw[Qhq g],q⟩
end DL
namespace W28
open PySem PySem.Spec L2 DL
def dY(a:List Rm):List (Str×Str):=a.flatMap λr=>r.ae.map λp=>(r.name,p.1)
def fH(p:List (Str×Nat)×List Rw):D:=.tup [.tup (p.1.map vU),.tup (p.2.map Rw.d)]
structure dj where
 aj:List Rm
 ai:List (Str×Nat)
 ak:List (Str×Nat)
 af:List (List (Str×Nat)×List Rw)
def dj.d(w:dj):D:=.tup [.tup (w.aj.map Rm.d),.tup (w.ai.map vU),.tup (w.ak.map vU),.tup (w.af.map fH)]
structure Gu(gs:List (Str×Str))(ak ai:List Str)(h:List (Str×Nat)×List Rw):Prop where
 tv:∀p∈h.1,p.2<=9
 l1:h.1.length<=6
 l2:h.2.length<=9
 l0:0<h.2.length
 pr:Hv ⟨true,h.1.map (·.1)++ak,h.1.map (·.1)++ak,[],gs,ai⟩ h.2
structure gI(w:dj):Prop where
 nd:(w.aj.map (·.name)).Nodup
 l1:w.aj.length<=3
 l2:w.ai.length<=6
 l3:w.ak.length<=6
 l4:w.af.length<=4
 l0:0<w.af.length
 pv:∀p∈w.ai,p.2<=9
 sv:∀p∈w.ak,p.2<=9
 rm:∀r∈w.aj,JD (dY w.aj) r
 hd:∀h∈w.af,Gu (dY w.aj) (w.ak.map (·.1)) (w.ai.map (·.1)) h
end W28
namespace DL
open PySem PySem.Spec L2
def Ho{l:dt}{S:aI}{js:List (Option Nat)}{f:fE}{g:mf}{i:bA}{Q:List D->aI->Prop}(P:dt->Prop)(F:D->D)(o:P (m9 js l)) (h:E f l S λp e=>p.2.stays e p.1/\p.1.length<=1000∧
   (∀d∈p.1,∀a,P a->Tg g d a e λb S2=>S2=e/\P b/\E i b e λy m=>y=F d/\m=e)/\Q (p.1.map F) e):E (dC js (sm f) g e_ i) l S Q:=by
 refine q0 (AU (h.mono λp e r=> ?_))
 obtain⟨w,A,x,q⟩:=r
 refine⟨λn a j c=>j=e/\c=(p.1.take n).map F/\P a,⟨rfl,rfl,o⟩,λn a j c h=>by rw[h.1];exact w,λn d a j c k h=> ?_,λa j c h=> ?_⟩
 ·obtain⟨rfl,rfl,h3⟩:=h
  obtain⟨b,S2,t,rfl,h4,h5⟩:=x d (mQg k) a h3
  refine⟨b,S2,t,vP ?_⟩
  rw[Qhq rfl]
  refine h5.mono λy m u=> ?_
  obtain⟨s,v⟩:=u
  subst s v
  have z:=(gQs.mp k).1
  refine⟨?_,rfl,?_,h4⟩
  ·rw[lQm,Qxq]
   exact bo (by omega)
  ·rw[QYq,k]
   simp
 ·obtain⟨rfl,rfl,_⟩:=h
  rw[QEq]
  exact q
def lG{α:Type}{o:dt}{S:aI}{js:List (Option Nat)}{f:fE}{g:mf}{k:bA}{Q:List D->aI->Prop}(P:dt->Prop)(enc G:α->D)(t:P (m9 js o)) (h:E f o S λp i=>∃xs:List α,p.1=xs.map enc/\p.2.stays i p.1/\xs.length<=1000∧
   (∀x∈xs,∀a,P a->Tg g (enc x) a i λb S2=>S2=i/\P b/\E k b i λy r=>y=G x/\r=i)/\Q (xs.map G) i):E (dC js (sm f) g e_ k) o S Q:=by
 refine q0 (AU (h.mono λp i u=> ?_))
 obtain⟨xs,s,B,H,C,q⟩:=u
 refine⟨λn a m c=>m=i/\c=(xs.take n).map G/\P a,⟨rfl,rfl,t⟩,λn a m c h=>by rw[h.1];exact B,λn d a m c l h=> ?_,λa m c h=> ?_⟩
 ·obtain⟨rfl,rfl,h3⟩:=h
  have l:p.1[n]?=some d:=l
  rw[s,gQm] at l
  obtain⟨x,j,rfl⟩:=oQm.mp l
  obtain⟨b,S2,w,rfl,h4,h5⟩:=C x (mQg j) a h3
  refine⟨b,S2,w,vP ?_⟩
  rw[Qhq rfl]
  refine h5.mono λy r z=> ?_
  obtain⟨v,A⟩:=z
  subst v A
  have F:=(gQs.mp j).1
  refine⟨?_,rfl,?_,h4⟩
  ·rw[lQm,Qxq]
   exact bo (by omega)
  ·rw[QYq,j]
   simp
 ·obtain⟨rfl,rfl,_⟩:=h
  have e:p.1.length=xs.length:=by rw[s,lQm]
  show Q ((xs.take p.1.length).map G) _
  rw[e,QEq]
  exact q
def bW{S:aI}{d:D}{Q:Res->aI->Prop}(hd:∀k,d≠.ref k)(a:cD 0 d=true)(q:Q (.d d) S):Op (settle S d S) λp=>Q p.1 p.2:=g8 qu (QEq) hd (qJ a) q
def Cz{S:aI}{ds:List D}{Q:Res->aI->Prop}(a:bS 0 ds=true)(q:Q (.l ds) S):Op (fj S ds S) λp=>Q p.1 p.2:=qE qu (QEq) (i4 a) q
end DL
namespace W28
open PySem PySem.Spec L2 DL
structure bV where
 room:Int
 deed:Int
 row:Int
 given:Int
 told:Int
structure dI where
 vals:List Int
 within:Int
 row:List Int
 ag:List Int
 aa:List (List (Int×Int))
structure bc where
 aj:List dI
 ai:List (Int×List Int)
 ak:List Int
 af:List (List Int×List bV)
def cX(l:List Int):D:=.tup (l.map D.int)
def bV.d(f:bV):D:=.tup [.int f.room,.int f.deed,.int f.row,.int f.given,.int f.told]
def pairD(p:Int×Int):D:=.tup [.int p.1,.int p.2]
def bZ(l:List (Int×Int)):D:=.tup (l.map pairD)
def dI.d(r:dI):D:=.tup [cX r.vals,.int r.within,cX r.row,cX r.ag,.tup (r.aa.map bZ)]
def yt(p:Int×List Int):D:=.tup [.int p.1,cX p.2]
def BA(h:List Int×List bV):D:=.tup [cX h.1,.tup (h.2.map bV.d)]
def bc.d(s:bc):D:=.tup [.tup (s.aj.map dI.d),.tup (s.ai.map yt),cX s.ak,.tup (s.af.map BA)]
def j9(l:List Int):cD 0 (cX l)=true:=by simp only[cX,cD];exact bT λ_ _=>rfl
def kq(l:List (Int×Int)):cD 0 (bZ l)=true:=by simp only[bZ,cD];exact bT λ_ _=>rfl
def dI.low(r:dI):cD 0 r.d=true:=by
 simp only[dI.d,cD,bS,j9,Bool.and_true,Bool.true_and]
 exact bT λl _=>kq l
def zo(p:Int×List Int):cD 0 (yt p)=true:=by simp only[yt,cD,bS,j9,Bool.and_true]
def yW(h:List Int×List bV):cD 0 (BA h)=true:=by
 simp only[BA,cD,bS,j9,Bool.and_true,Bool.true_and]
 exact bT λ_ _=>rfl
def bc.low(s:bc):cD 0 s.d=true:=by
 simp only[bc.d,cD,bS,j9,Bool.and_true,Bool.true_and,QCq]
 exact⟨bT λr _=>r.low,bT λp _=>zo p,bT λh _=>yW h⟩
def eR(ts:List (Str×Nat)):List Int:=ts.map λp=>(p.2:Int)
def eC(r:Rm):dI:=⟨eR r.ao,-1,[],[],r.aa.map λ_=> []⟩
def iR:bV:=⟨-1,-1,0,0,0⟩
def dr(w:dj):bc:=⟨w.aj.map eC,w.ai.map λp=>((p.2:Int),[]),eR w.ak,w.af.map λh=>(eR h.1,[iR])⟩
section
variable{S:aI}{Q:Res->aI->Prop}
def jv{ts:List (Str×Nat)}(l:ts.length<=1000)(h:Q (.d (cX (eR ts))) S):Fn fL [.tup (ts.map vU)] S Q:=by
 refine bX ?_
 unfold qO
 symm
 apply Ho (λc=>∃a b,c= [a,b]) (λd=>match d with|.tup [_,v]=>v|d=>d) ⟨none,none,rfl⟩ ?_
 refine⟨trivial,by simpa using l,λd g c f=> ?_,?_⟩
 ·obtain⟨p,_,rfl⟩:=Qkq.mp g
  obtain⟨a,b,rfl⟩:=f
  refine eA rfl (aB (bg (aB (bg (bq ?_)))))
  apply⟨rfl,⟨_,_,rfl⟩,?_⟩
  exact⟨rfl,rfl⟩
 ·have e:(ts.map vU).map (λd=>match d with|.tup [_,v]=>v|d=>d)=(eR ts).map D.int:=by
   simp only[eR,QPq]
   rfl
  rw[e]
  exact bW (d:=cX (eR ts)) (λk z=>(nomatch z)) (j9 _) h
def sL{r:Rm}(a:r.ao.length<=6)(b:r.aa.length<=6)(h:Q (.d (eC r).d) S):Fn iw [r.d] S Q:=by
 refine bX ?_
 unfold oV
 symm
 apply eA rfl (aB (bg (aB (bg (aB (bg (aB (bg (aB (bg (bq ?_)))))))))))
 apply jv (by omega) ?_
 apply⟨by decide,?_⟩
 apply⟨by decide,?_⟩
 apply Ha (λ_=>.tup []) ?_
 refine⟨trivial,by simp;omega,λd c=> ?_,?_⟩
 ·symm
  exact⟨by decide,rfl,rfl⟩
 ·symm
  refine⟨by show 5<=_;decide,?_⟩
  have e:D.tup ((r.aa.map Ba).map λ_=>D.tup [])=D.tup ((eC r).aa.map bZ):=by
   simp only[eC,QPq]
   rfl
  rw[e]
  exact bW (d:=(eC r).d) (λk z=>(nomatch z)) (dI.low _) h
def yg{w:dj}(o:gI w)(h:Q (.d (dr w).d) S):Fn qx [w.d] S Q:=by
 refine bX ?_
 unfold Cv
 symm
 apply eA rfl (aB (bg (aB (bg (aB (bg (aB (bg (bq ?_)))))))))
 apply⟨by decide,?_⟩
 have q:=o.l1
 have l:=o.l2
 have n:=o.l3
 have m:=o.l4
 apply lG (α:=Rm) (λc=>∃a,c= [a]) Rm.d (λr=>(eC r).d) ⟨none,rfl⟩ ?_
 refine⟨w.aj,rfl,trivial,by omega,λr f c e=> ?_,?_⟩
 ·obtain⟨a,rfl⟩:=e
  apply bg ⟨rfl,⟨_,rfl⟩,?_⟩
  exact sL (o.rm r f).l1 (o.rm r f).l2 ⟨rfl,rfl⟩
 symm
 apply lG (α:=Str×Nat) (λc=>∃a b,c= [a,b]) vU (λp=>yt ((p.2:Int),[])) ⟨none,none,rfl⟩ ?_
 refine⟨w.ai,rfl,trivial,by omega,λr f c e=> ?_,?_⟩
 ·obtain⟨a,b,rfl⟩:=e
  refine eA rfl (aB (bg (aB (bg (bq ?_)))))
  apply⟨rfl,⟨_,_,rfl⟩,?_⟩
  apply⟨by decide,?_⟩
  exact⟨by show 2<=_;decide,rfl,rfl⟩
 symm
 apply jv (by omega) ?_
 apply lG (α:=List (Str×Nat)×List Rw) (λc=>∃a b,c= [a,b,some iR.d]) fH (λh=>BA (eR h.1,[iR])) ⟨none,none,rfl⟩ ?_
 refine⟨w.af,rfl,trivial,by omega,λr f c e=> ?_,?_⟩
 ·obtain⟨a,b,rfl⟩:=e
  refine eA rfl (aB (bg (aB (bg (bq ?_)))))
  apply⟨rfl,⟨_,_,rfl⟩,?_⟩
  refine jv (by have:=(o.hd r f).l1;omega) ?_
  symm
  refine⟨by show 1<=_;decide,?_⟩
  symm
  exact⟨by show 2<=_;decide,rfl,rfl⟩
 symm
 refine⟨by show 4<=_;decide,?_⟩
 have i:w.aj.map (λr=>(eC r).d)=(dr w).aj.map dI.d:=by simp only[dr,QPq];rfl
 have g:w.ai.map (λp=>yt ((p.2:Int),[]))=(dr w).ai.map yt:=by simp only[dr,QPq];rfl
 have j:w.af.map (λh=>BA (eR h.1,[iR]))=(dr w).af.map BA:=by simp only[dr,QPq];rfl
 rw[i,g,j]
 exact bW (d:=(dr w).d) (λk z=>(nomatch z)) (bc.low _) h
end
end W28
namespace DL
open PySem PySem.Spec L2
section
variable{Γ:dt}{S:aI}
def qh{f:bA}{Q:D->aI->Prop}(h:E f Γ S λd a=>∃i,d=.int i/\Q (.int (-i)) a):E (sT f) Γ S Q:=by
 obtain⟨d,a,b,i,rfl,q⟩:=h
 exact⟨_,a,by unfold sT;rw[b];rfl,q⟩
def cg{Q:Option Int->aI->Prop}(q:Q none S):E pU Γ S Q:=⟨_,_,rfl,q⟩
def cp{f:bA}{Q:Option Int->aI->Prop}(h:E f Γ S λd a=>∃i,d=.int i/\Q (some i) a):E (pM f) Γ S Q:=by
 obtain⟨d,a,b,i,rfl,q⟩:=h
 exact⟨_,a,by unfold pM;rw[b];rfl,q⟩
def il{f:bA}{lo hi:Ip}{Q:D->aI->Prop}(h:E f Γ S λd b=>E lo Γ b λl S2=>E hi Γ S2 λu a=>∃ds,d=.tup ds/\Q (.tup (je ds l u)) a):E (pD f lo hi) Γ S Q:=by
 obtain⟨d,b,c,l,S2,g,u,a,e,ds,rfl,q⟩:=h
 exact⟨_,a,by unfold pD;rw[c];simp only[Qbq];rw[g];simp only[Qbq];rw[e];rfl,q⟩
def Jg{i j:Nat}{f:gW}{Q:Out->Prop}(h:E f Γ S λds c=>∃a b,ds= [a,b]/\Q (.nx ((Γ.set i (some a)).set j (some b)) c)):T (FK i j f) Γ S Q:=by
 obtain⟨ds,c,d,a,b,rfl,q⟩:=h
 exact⟨_,by unfold FK;rw[d];rfl,q⟩
end
def Cu{α:Type}{xs:List α}{i:Nat}(h:i<=xs.length):je xs none (some (i:Int))=xs.take i:=by
 unfold je
 rw[HT.qR,HT.Ao,Nat.min_eq_left h]
 simp
def hZ{α:Type}{xs:List α}{i:Nat}(h:i<=xs.length):je xs (some (i:Int)) none=xs.drop i:=by
 unfold je
 rw[HT.qR,HT.Ao,Nat.min_eq_left h]
 rw[List.take_of_length_le]
 simp
def x8{α:Type}{xs:List α}(h:0<xs.length):je xs none (some (-1))=xs.dropLast:=by
 unfold je
 rw[HT.qR]
 show(xs.drop 0).take (HT.eU xs.length xs.length (some (-1))-0)=_
 rw[show HT.eU xs.length xs.length (some (-1))=xs.length-1 by simp only[HT.eU];rw[Qhq (by omega)];omega]
 simp[List.dropLast_eq_take]
def wM{α:Type}{xs:List α}{x:α}(h:xs.getLast? =some x):kW xs (-1)=some x:=by
 have c:0<xs.length:=by
  cases xs with
  |nil=>cases h
  |cons a b=>simp
 unfold kW Bx
 rw[Quq (by omega),Qhq (by omega)]
 rw[List.getLast?_eq_getElem?] at h
 simp only[Qbq]
 rw[show((-1:Int)+(xs.length:Int)).toNat=xs.length-1 by omega]
 exact h
end DL
namespace W28
open PySem PySem.Spec L2 DL
section
variable{S:aI}{Q:Res->aI->Prop}
def bL{s:bc}{h:Nat}{vs:List Int}{fs:List bV}{f:bV}(a:s.af[h]?=some (vs,fs))(b:fs.getLast? =some f)(q:Q (.d f.d) S):Fn cA [s.d,.int h] S Q:=by
 refine bX ?_
 unfold oY
 symm
 apply ay rfl ?_
 refine ay (d:=BA (vs,fs)) (aZ (by rw[gQm,a];rfl)) ?_
 symm
 refine ay rfl ?_
 apply qh ?_
 refine⟨1,rfl,?_⟩
 refine ay (d:=f.d) (wM (by rw[QfQ,b];rfl)) ?_
 exact bW (λk z=>(nomatch z)) rfl q
def progOf(w:dj)(h:Nat)(f:bV):Option (List Rw):=
 if f.room= -1 then(w.af[h]?).map (·.2) else if 0<=f.room/\0<=f.deed then(w.aj[f.room.toNat]?).bind λr=>(r.ae[f.deed.toNat]?).map (·.2) else none
def kE{α:Type}{xs:List α}{i:Int}{x:α}(a:0<=i)(h:xs[i.toNat]?=some x):kW xs i=some x:=by
 obtain⟨n,rfl⟩:∃n:Nat,i=n:=⟨i.toNat,by omega⟩
 exact aZ (by simpa using h)
def xp(a:List Rw):cD 0 (.tup (a.map Rw.d))=true:=by simp only[cD];exact bT λr _=>r.low
def eJ{w:dj}{h:Nat}{f:bV}{pr:List Rw}(a:progOf w h f=some pr)(q:Q (.d (.tup (pr.map Rw.d))) S):Fn eg [w.d,.int h,f.d] S Q:=by
 refine bX ?_
 unfold oU
 apply cv (Jg ?_)
 apply ay rfl ?_
 apply ay rfl ?_
 apply⟨_,_,rfl,?_⟩
 refine ij ?_
 dsimp only
 unfold progOf at a
 by_cases c:f.room= -1
 ·rw[Qhq c] at a
  obtain⟨g,b,rfl⟩:=oQm.mp a
  rw[Qeq c,Qhq rfl]
  symm
  apply ay rfl ?_
  refine ay (d:=fH g) (aZ (by rw[gQm,b];rfl)) ?_
  symm
  refine ay rfl ?_
  exact bW (λk z=>(nomatch z)) (xp _) q
 ·rw[Quq c] at a
  split at a
  ·rename_i e
   obtain⟨r,b,a⟩:=ar a
   obtain⟨j,i,rfl⟩:=oQm.mp a
   rw[Qdq c,Quq (by decide)]
   symm
   apply ay rfl ?_
   refine ay (d:=r.d) (kE e.1 (by rw[gQm,b];rfl)) ?_
   symm
   apply ay rfl ?_
   refine ay (d:=zZ j) (kE e.2 (by rw[gQm,i];rfl)) ?_
   symm
   refine ay rfl ?_
   exact bW (λk z=>(nomatch z)) (xp _) q
  ·cases a
def dH{xs:List D}{i:Nat}{d:D}(hi:i<xs.length)(m:xs.length<=900)(g:bS 0 xs=true)(j:cD 0 d=true)(q:Q (.d (.tup (xs.set i d))) S):Fn dk [.tup xs,.int i,d] S Q:=by
 refine bX ?_
 unfold rY
 symm
 apply il ?_
 apply cg (cp ?_)
 apply⟨_,rfl,_,rfl,?_⟩
 refine⟨by show 1<=_;decide,?_⟩
 rw[Cu (by omega)]
 refine cN (by simp only[Qxq,Qnq,QGq];exact nQl (bo (by omega))) ?_
 apply il ?_
 apply cp ?_
 refine⟨_,rfl,cg ⟨_,rfl,?_⟩⟩
 rw[show((i:Int)+1)=((i+1:Nat):Int) by omega,hZ (by omega)]
 refine cN (by simp only[lQa,Qxq,List.length_drop,Qnq,QGq];exact nQl (bo (by omega))) ?_
 have e:xs.take i++ [d]++xs.drop (i+1)=xs.set i d:=by
  rw[List.set_eq_take_append_cons_drop,Qhq hi]
  simp
 rw[e]
 refine bW (λk z=>(nomatch z)) ?_ q
 simp only[cD]
 refine mi λz b=> ?_
 rcases QTq b with b|rfl
 ·have c:∀l:List D,bS 0 l=true->∀z∈l,cD 0 z=true:=by
   intro l
   induction l with
   |nil=>intro _ z b;cases b
   | cons a l f=>
     intro h z b
     simp only[bS,QCq] at h
     rcases Qsq.mp b with rfl|b
     · exact h.1
     · exact f h.2 z b
  exact c xs g z b
 ·exact j
end
section
variable{S:aI}{Q:Res->aI->Prop}
def map_set{α b:Type}(f:α->b)(l:List α)(i:Nat)(a:α):(l.set i a).map f=(l.map f).set i (f a):=by
 rw[List.map_set]
def aU(s:bc):∀k,s.d≠.ref k:=λk z=>(nomatch z)
def di{s:bc}{i:Nat}{r:dI}(hi:i<s.aj.length)(a:s.aj.length<=900)(q:Q (.d ({s with aj:=s.aj.set i r}:bc).d) S):Fn cT [s.d,.int i,r.d] S Q:=by
 refine bX ?_
 unfold rP
 symm
 apply ay rfl ?_
 apply dH (by simpa using hi) (by simpa using a) (bT λr _=>r.low) r.low ?_
 refine⟨by show 1<=_;decide,?_⟩
 apply il ?_
 apply cp ?_
 refine⟨_,rfl,cg ⟨_,rfl,?_⟩⟩
 refine cN (by show 4<=_;decide) ?_
 refine bW (d:=({s with aj:=s.aj.set i r}:bc).d) (aU _) (bc.low _) q|>λz=> ?_
 rw[←map_set]
 exact z
def gR{s:bc}{i:Nat}{p:Int×List Int}(hi:i<s.ai.length)(a:s.ai.length<=900)(q:Q (.d ({s with ai:=s.ai.set i p}:bc).d) S):Fn eT [s.d,.int i,yt p] S Q:=by
 refine bX ?_
 unfold qp
 symm
 apply ay rfl ?_
 apply ay rfl ?_
 apply dH (by simpa using hi) (by simpa using a) (bT λr _=>zo r) (zo p) ?_
 refine⟨by show 2<=_;decide,?_⟩
 apply il ?_
 apply cp ?_
 refine⟨_,rfl,cg ⟨_,rfl,?_⟩⟩
 refine cN (by show 4<=_;decide) ?_
 refine bW (d:=({s with ai:=s.ai.set i p}:bc).d) (aU _) (bc.low _) q|>λz=> ?_
 rw[←map_set]
 exact z
def gU{s:bc}{i:Nat}{vs:List Int}{fs:List bV}(hi:i<s.af.length)(a:s.af.length<=900)(q:Q (.d ({s with af:=s.af.set i (vs,fs)}:bc).d) S):Fn eV [s.d,.int i,cX vs,.tup (fs.map bV.d)] S Q:=by
 refine bX ?_
 unfold r9
 apply rg (zw (il ?_))
 apply cg (cp ?_)
 apply⟨_,rfl,_,rfl,?_⟩
 apply ay rfl ?_
 refine⟨by show 2<=_;decide,?_⟩
 symm
 apply dH (d:=BA (vs,fs)) (by simpa using hi) (by simpa using a) (bT λr _=>yW r) (yW (vs,fs)) ?_
 refine⟨by show 1<=_;decide,?_⟩
 refine cN (by show 4<=_;decide) ?_
 refine bW (d:=({s with af:=s.af.set i (vs,fs)}:bc).d) (aU _) (bc.low _) q|>λz=> ?_
 rw[←map_set]
 exact z
def ie{s:bc}{h:Nat}{vs:List Int}{fs:List bV}{f:bV}(a:s.af[h]?=some (vs,fs))(b:0<fs.length)(g:fs.length<=900)(c:s.af.length<=900)(q:Q (.d ({s with af:=s.af.set h (vs,fs.dropLast++ [f])}:bc).d) S):Fn dA [s.d,.int h,f.d] S Q:=by
 refine bX ?_
 unfold iO
 symm
 apply ay rfl ?_
 refine ay (d:=BA (vs,fs)) (aZ (by rw[gQm,a];rfl)) ?_
 apply eA rfl (aB (bg (aB (bg (bq ?_)))))
 apply il ?_
 apply cg (cp (qh ?_))
 apply⟨1,rfl,_,rfl,_,rfl,?_⟩
 refine⟨by show 1<=_;decide,?_⟩
 rw[x8 (by simpa using b)]
 refine cN (by simp only[List.length_dropLast,lQm,Qnq,QGq];exact nQl (bo (by omega))) ?_
 symm
 have e:(fs.map bV.d).dropLast++ [f.d]=(fs.dropLast++ [f]).map bV.d:=by rw[Qzq,List.map_dropLast];rfl
 rw[e]
 refine gU (gQs.mp a).1 c ?_
 exact bW (aU _) (bc.low _) q
def ow{s:bc}{h:Nat}{vs:List Int}{fs:List bV}{f:bV}{n:Int}(c:s.af[h]?=some (vs,fs))(e:fs.getLast? =some f)(g:fs.length<=900)(j:s.af.length<=900)(q:Q (.d ({s with af:=s.af.set h (vs,fs.dropLast++ [{f with row:=n}])}:bc).d) S):Fn jl [s.d,.int h,.int n] S Q:=by
 refine bX ?_
 unfold Ah
 symm
 apply bL c e ?_
 apply il ?_
 apply cg (cp ?_)
 apply⟨_,rfl,_,rfl,?_⟩
 refine⟨by show 1<=_;decide,?_⟩
 refine cN (by show 3<=_;decide) ?_
 apply il ?_
 apply cp ?_
 refine⟨_,rfl,cg ⟨_,rfl,?_⟩⟩
 refine cN (by show 5<=_;decide) ?_
 symm
 have i:0<fs.length:=by
  cases fs with
  |nil=>cases e
  |cons a b=>simp
 refine ie (f:={f with row:=n}) c i g j ?_
 exact bW (aU _) (bc.low _) q
def fq(r:dI)(h:Int):dI:=if r.within= -1 then{r with within:=h} else{r with row:=r.row++ [h]}
def c7(r:dI):dI:=match r.ag,r.row with
 |a::l,_=>{r with within:=a,ag:=l}
 | [],a::l=>{r with within:=a,row:=l}
 | [],[]=>{r with within:= -1}
def rJ{s:bc}{i:Nat}{h:Int}{r:dI}(a:s.aj[i]?=some r)(f:s.aj.length<=900)(lr:r.row.length<=900)(q:Q (.d ({s with aj:=s.aj.set i (fq r h)}:bc).d) S):Fn jZ [s.d,.int i,.int h] S Q:=by
 have b:=(gQs.mp a).1
 refine bX ?_
 unfold xP
 symm
 apply ay rfl ?_
 refine ay (d:=r.d) (aZ (by rw[gQm,a];rfl)) ?_
 apply eA rfl (aB (bg (aB (bg (aB (bg (aB (bg (aB (bg (bq ?_)))))))))))
 refine ij ?_
 dsimp only
 unfold fq at q
 by_cases c:r.within= -1
 ·rw[Qhq c] at q
  rw[Qeq c,Qhq rfl]
  symm
  refine⟨by show 5<=_;decide,?_⟩
  symm
  refine di (r:={r with within:=h}) b f ?_
  exact bW (aU _) (bc.low _) q
 ·rw[Quq c] at q
  rw[Qdq c,Quq (by decide)]
  symm
  refine⟨by show 1<=_;decide,?_⟩
  refine cN (by simp only[lQm,Qnq,QGq];exact nQl (bo (by omega))) ?_
  symm
  refine⟨by show 5<=_;decide,?_⟩
  symm
  have e:D.tup (r.row.map D.int++ [D.int h])=cX (r.row++ [h]):=by simp[cX]
  rw[e]
  refine di (r:={r with row:=r.row++ [h]}) b f ?_
  exact bW (aU _) (bc.low _) q
end
section
variable{S:aI}{Q:Res->aI->Prop}
def yf{α:Type}{a:α}{l:List α}:kW (a::l) 0=some a:=aZ (j:=0) rfl
def uQ{S:aI}{ds:List D}{Q:Bool->Prop}(q:Q (!ds.isEmpty)):Op (yE S (.tup ds)) Q:=⟨_,rfl,q⟩
def wO{s:bc}{i:Nat}{r:dI}(m:s.aj[i]?=some r)(k:s.aj.length<=900)(q:Q (.d ({s with aj:=s.aj.set i (c7 r)}:bc).d) S):Fn oq [s.d,.int i] S Q:=by
 have h:=(gQs.mp m).1
 refine bX ?_
 unfold D9
 symm
 apply ay rfl ?_
 refine ay (d:=r.d) (aZ (by rw[gQm,m];rfl)) ?_
 refine eA rfl (aB (bg (aB (bg (aB (bg (aB (bg (aB (bg (bq ?_)))))))))))
 obtain⟨b,g,f,n,j⟩:=r
 symm
 refine uQ ?_
 cases n with
 | cons a l=>
   apply aW (λ_=> ?_) (λc=>by cases c)
   apply ay (d:=.int a) yf ?_
   apply il ?_
   apply cp ?_
   apply⟨_,rfl,cg ⟨_,rfl,?_⟩⟩
   refine⟨by show 5<=_;decide,?_⟩
   symm
   have e:D.tup (je ((a::l).map D.int) (some 1) none)=cX l:=by
     rw[show(some (1:Int))=some ((1:Nat):Int) from rfl,hZ (by simp)]
     rfl
   rw[e]
   refine di (r:=⟨b,a,f,l,j⟩) h k ?_
   exact bW (aU _) (bc.low _) q
 | nil=>
   refine aW (λc=>by cases c) (λ_=> ?_)
   apply cf ?_
   refine uQ ?_
   cases f with
   | cons a l=>
     apply aW (λ_=> ?_) (λc=>by cases c)
     apply ay (d:=.int a) yf ?_
     apply il ?_
     apply cp ?_
     apply⟨_,rfl,cg ⟨_,rfl,?_⟩⟩
     refine⟨by show 5<=_;decide,?_⟩
     symm
     have e:D.tup (je ((a::l).map D.int) (some 1) none)=cX l:=by
       rw[show(some (1:Int))=some ((1:Nat):Int) from rfl,hZ (by simp)]
       rfl
     rw[e]
     refine di (r:=⟨b,a,l,[],j⟩) h k ?_
     exact bW (aU _) (bc.low _) q
   | nil=>
     refine aW (λc=>by cases c) (λ_=> ?_)
     apply cf ?_
     refine⟨by show 5<=_;decide,?_⟩
     symm
     refine di (r:=⟨b,-1,[],[],j⟩) h k ?_
     exact bW (aU _) (bc.low _) q
def fg{α:Type}{enc:α->D}{nm:α->Str}{xs:List α}(he:∀a,∃r,enc a=.tup (.str (nm a)::r))(d:xs.length<=1000)(q:Q (.l ((xs.map nm).map D.str)) S):Fn dW [.tup (xs.map enc)] S Q:=by
 refine bX ?_
 unfold ue
 symm
 apply lG (α:=α) (λb=>∃a,b= [a]) enc (λa=>.str (nm a)) ⟨none,rfl⟩ ?_
 refine⟨xs,rfl,trivial,d,λr f b c=> ?_,?_⟩
 ·obtain⟨a,rfl⟩:=c
  refine bg ⟨rfl,⟨_,rfl⟩,?_⟩
  obtain⟨g,e⟩:=he r
  rw[e]
  symm
  exact ay yf ⟨rfl,rfl⟩
 ·have e:xs.map (λa=>D.str (nm a))=(xs.map nm).map D.str:=by rw[QPq];rfl
  rw[e]
  exact Cz (bT λ_ _=>rfl) q
theorem jx:∀a:List Str,m3 (a.map D.str)=some (a.map V.str)
 | []=>rfl
 |s::a=>by simp only[QDq,m3,ua,Qbq];rw[jx a];rfl
theorem uR{x:Str}:∀{ns:List Str},x∈ns->∃j,kS (.str x) (ns.map V.str)=some j/\ns[j]?=some x
 | [],h=>by cases h
 | n::ns,h=>by
   by_cases c:n=x
   · subst c
     exact⟨0,by simp[kS,nh],rfl⟩
   · obtain⟨j,a,b⟩:=uR (ns:=ns) ((Qsq.mp h).resolve_left (Ne.symm c))
     exact⟨j+1,by simp only[QDq,kS];rw[a];simp[nh,c],by simpa using b⟩
end
end W28
namespace DL
open PySem PySem.Spec L2
section
variable{Γ:dt}{S:aI}
def wW{T:String}{f:bA}{Q:D->aI->Prop}(h:E f Γ S λd a=>Op (EV a T d) λk=>Q (.bl k) a):E (oz T f) Γ S Q:=by
 obtain⟨d,a,b,k,c,q⟩:=h
 exact⟨_,a,by unfold oz;rw[b];simp only[Qbq];rw[c];rfl,q⟩
def nH{b:Bool}{Q:Bool->Prop}(q:Q b):Op (yE S (.bl b)) Q:=⟨_,rfl,q⟩
def J8{f g:bA}{Q:D->aI->Prop}(h:E f Γ S λx a=>E g Γ a λy S2=>∃k kvs z v,x=.ref k/\y=.str z/\S2[k]?=some (.dct kvs)/\qM kvs (.inr z)=some v/\Q v S2):E (J4 f g) Γ S Q:=by
 obtain⟨x,a,b,y,S2,c,k,kvs,z,v,rfl,rfl,h1,h2,q⟩:=h
 exact⟨v,S2,by unfold J4;rw[b];simp only[Qbq];rw[c];simp only[Qbq,h1,sA,h2],q⟩
def lz{i j:Int}{Q:D->Prop}(q:Q (.bl (!decide (i=j)))):Op (iJ true S (.int i) (.int j)) Q:=⟨_,by simp[iJ,ua,yl],q⟩
def CI{i j:Int}{Q:D->Prop}(q:Q (.int (if j<i then j else i))):Op (minD [.int i,.int j]) Q:=⟨_,rfl,q⟩
def Gk{i j:Int}{Q:D->Prop}(q:Q (.int (if j>i then j else i))):Op (maxD [.int i,.int j]) Q:=⟨_,rfl,q⟩
end
end DL
namespace W28
open PySem PySem.Spec L2 DL
def Io(o:Str)(a b:Int):Int:=
 if o="plus" then(if 9<a+b then 9 else a+b) else if o="minus" then(if 0>a-b then 0 else a-b) else if o="less" then(if a<b then 1 else 0)
 else if o="same" then(if a=b then 1 else 0) else(if a≠0/\b≠0 then 1 else 0)
def vV(th wt:Str->Int):Tr->Int
 |.num n=>n
 |.word x=>th x
 |.waits b=>if 0<wt b then 1 else 0
 |.no t=>if vV th wt t=0 then 1 else 0
 |.two o a b=>Io o (vV th wt a) (vV th wt b)
def AX{o:Str}{a b:Int}(d:0<=a/\a<=9)(c:0<=b/\b<=9):0<=Io o a b/\Io o a b<=9:=by
 unfold Io
 repeat' split
 all_goals omega
theorem kL{th wt:Str->Int}{ws bs:List Str}(h:∀x∈ws,0<=th x/\th x<=9):∀{t:Tr},t.Ok ws bs->0<=vV th wt t/\vV th wt t<=9
 |.num n,ho=>by have:n<=9:=ho;simp only[vV];omega
 |.word x,ho=>h x ho
 |.waits b,_=>by simp only[vV];split <;>omega
 |.no t,_=>by simp only[vV];split <;>omega
 |.two o a b,ho=>AX (kL h ho.2.1) (kL h ho.2.2)
section
variable{S:aI}{Q:Res->aI->Prop}
def du{S:aI}{i:Int}{Q:Res->aI->Prop}(q:Q (.d (.int i)) S):Op (settle S (.int i) S) λp=>Q p.1 p.2:=bW (λk z=>(nomatch z)) rfl q
def pq{o:Str}{a b:Int}(q:Q (.d (.int (Io o a b))) S):Fn fW [.str o,.int a,.int b] S Q:=by
 refine bX ?_
 unfold lA
 unfold Io at q
 symm
 refine hG ?_
 dsimp only
 by_cases i:o="plus"
 ·rw[Qhq i] at q
  rw[Qeq i,Qhq rfl]
  symm
  refine CI ?_
  exact du q
 rw[Quq i] at q
 rw[Qdq i,Quq (by decide)]
 apply cf ?_
 refine hG ?_
 dsimp only
 by_cases g:o="minus"
 ·rw[Qhq g] at q
  rw[Qeq g,Qhq rfl]
  symm
  refine Gk ?_
  exact du q
 rw[Quq g] at q
 rw[Qdq g,Quq (by decide)]
 apply cf ?_
 refine hG ?_
 dsimp only
 by_cases j:o="less"
 ·rw[Qhq j] at q
  rw[Qeq j,Qhq rfl]
  symm
  by_cases c:a<b
  ·rw[Qhq c] at q
   rw[Qeq c,Qhq rfl]
   symm
   exact du q
  ·rw[Quq c] at q
   rw[Qdq c,Quq (by decide)]
   symm
   exact du q
 rw[Quq j] at q
 rw[Qdq j,Quq (by decide)]
 apply cf ?_
 refine hG ?_
 dsimp only
 by_cases f:o="same"
 ·rw[Qhq f] at q
  rw[Qeq f,Qhq rfl]
  symm
  refine ij ?_
  dsimp only
  by_cases c:a=b
  ·rw[Qhq c] at q
   rw[Qeq c,Qhq rfl]
   symm
   exact du q
  ·rw[Quq c] at q
   rw[Qdq c,Quq (by decide)]
   symm
   exact du q
 rw[Quq f] at q
 rw[Qdq f,Quq (by decide)]
 apply cf ?_
 refine lz ?_
 dsimp only
 by_cases h:a=0
 ·rw[Quq (λz=>z.1 h)] at q
  rw[Qeq h]
  show if (false=true) then _ else _
  rw[Quq (by decide)]
  show if (false=true) then _ else _
  rw[Quq (by decide)]
  symm
  exact du q
 ·rw[Qdq h]
  show if (true=true) then _ else _
  rw[Qhq rfl]
  symm
  refine lz ?_
  dsimp only
  by_cases e:b=0
  ·rw[Quq (λz=>z.2 e)] at q
   rw[Qeq e]
   show if (false=true) then _ else _
   rw[Quq (by decide)]
   symm
   exact du q
  ·rw[Qhq ⟨h,e⟩] at q
   rw[Qdq e]
   show if (true=true) then _ else _
   rw[Qhq rfl]
   symm
   exact du q
end
def dF{a:dt}{S:aI}{T:String}{f:bA}{d:D}{b:Bool}{Q:Bool->aI->Prop}(h:E f a S λx c=>x=d/\c=S)(hd:EV S T d=some b)(q:Q b S):E (kU (oz T f)) a S Q:=by
 refine IW (wW (h.mono λx c e=> ?_))
 obtain⟨g,i⟩:=e
 subst g i
 exact⟨b,hd,nH q⟩
def EH{o:Str}(h:o∈ops):o≠"waits" /\o≠"not":=by
 simp only[ops,Qsq,QXq,or_false] at h
 rcases h with rfl|rfl|rfl|rfl|rfl <;>exact⟨by decide +kernel,by decide +kernel⟩
theorem gf{th wt:Str->Int}{ws bs:List Str}{i j:Nat}{kvs kws:List (Key×D)}{S:aI}(hi:S[i]?=some (.dct kvs))(g:S[j]?=some (.dct kws))(f:∀x∈ws,qM kvs (.inr x)=some (.int (th x)))(e:∀b∈bs,qM kws (.inr b)=some (.int (wt b))):
  ∀(n:Nat) (t:Tr) {Q:Res->aI->Prop},t.Ok ws bs->t.dep<=n->Q (.d (.int (vV th wt t))) S->Fn (fO n) [t.d,.ref i,.ref j] S Q
 |0,t,Q,_,hd,_=>by cases t <;>simp[Tr.dep] at hd
 | n+1,t,Q,ho,hd,q=>by
   refine bX ?_
   unfold ug
   cases t with
   | num v=>
     refine cv (gV (dF (d:=.int v) (cR rfl ⟨rfl,rfl⟩) rfl ?_))
     apply aW (λ_=> ?_) (λc=>by cases c)
     exact du q
   | word x=>
     refine cv (gV (dF (d:=.str x) (cR rfl ⟨rfl,rfl⟩) rfl ?_))
     refine aW (λc=>by cases c) (λ_=>cf ?_)
     refine cv (gV (dF (d:=.str x) (cR rfl ⟨rfl,rfl⟩) rfl ?_))
     refine aW (λ_=> ?_) (λc=>by cases c)
     apply rg (J8 ?_)
     refine⟨_,_,_,_,rfl,rfl,hi,f x ho,?_⟩
     exact du q
   | waits b=>
     refine cv (gV (dF (d:=.tup [.str "waits",.str b]) (cR rfl ⟨rfl,rfl⟩) rfl ?_))
     refine aW (λc=>by cases c) (λ_=>cf ?_)
     refine cv (gV (dF (d:=.tup [.str "waits",.str b]) (cR rfl ⟨rfl,rfl⟩) rfl ?_))
     apply aW (λc=>by cases c) (λ_=>cf ?_)
     apply ay rfl ?_
     refine hG ?_
     dsimp only
     rw[Qeq rfl,Qhq rfl]
     symm
     apply J8 ?_
     refine ay rfl ?_
     apply⟨_,_,_,_,rfl,rfl,g,e b ho,?_⟩
     simp only[vV] at q
     by_cases c:0<wt b
     · rw[Qhq c] at q
       rw[Qeq c,Qhq rfl]
       symm
       exact du q
     · rw[Quq c] at q
       rw[Qdq c,Quq (by decide)]
       symm
       exact du q
   | no t=>
     have k:t.dep<=n:=by simp only[Tr.dep] at hd;omega
     refine cv (gV (dF (d:=.tup [.str "not",t.d]) (cR rfl ⟨rfl,rfl⟩) rfl ?_))
     refine aW (λc=>by cases c) (λ_=>cf ?_)
     refine cv (gV (dF (d:=.tup [.str "not",t.d]) (cR rfl ⟨rfl,rfl⟩) rfl ?_))
     apply aW (λc=>by cases c) (λ_=>cf ?_)
     apply ay rfl ?_
     refine hG ?_
     dsimp only
     rw[Qdq (show¬(("not":Str)="waits") by decide +kernel),Quq (by decide)]
     apply cf ?_
     apply ay rfl ?_
     apply gf hi g f e n t ho k ?_
     apply ay rfl ?_
     refine hG ?_
     dsimp only
     rw[Qeq rfl,Qhq rfl]
     symm
     refine ij ?_
     dsimp only
     simp only[vV] at q
     by_cases c:vV th wt t=0
     · rw[Qhq c] at q
       rw[Qeq c,Qhq rfl]
       symm
       exact du q
     · rw[Quq c] at q
       rw[Qdq c,Quq (by decide)]
       symm
       exact du q
   | two o a b=>
     have h:a.dep<=n:=by simp only[Tr.dep] at hd;omega
     have l:b.dep<=n:=by simp only[Tr.dep] at hd;omega
     obtain⟨m,p⟩:=EH ho.1
     refine cv (gV (dF (d:=.tup [.str o,a.d,b.d]) (cR rfl ⟨rfl,rfl⟩) rfl ?_))
     refine aW (λc=>by cases c) (λ_=>cf ?_)
     refine cv (gV (dF (d:=.tup [.str o,a.d,b.d]) (cR rfl ⟨rfl,rfl⟩) rfl ?_))
     apply aW (λc=>by cases c) (λ_=>cf ?_)
     apply ay rfl ?_
     refine hG ?_
     dsimp only
     rw[Qdq m,Quq (by decide)]
     apply cf ?_
     apply ay rfl ?_
     apply gf hi g f e n a ho.2.1 h ?_
     apply ay rfl ?_
     refine hG ?_
     dsimp only
     rw[Qdq p,Quq (by decide)]
     apply cf ?_
     apply ay rfl ?_
     apply ay rfl ?_
     apply gf hi g f e n b ho.2.2 l ?_
     refine pq ?_
     exact du q
end W28
namespace DL
open PySem PySem.Spec L2
def tZ{l:List (Key×D)}{k:Key}(h:k∈l.map (·.1)):∃d,qM l k=some d/\(k,d)∈l:=by
 unfold qM
 cases e:l.find? λg=>decide (g.1=k) with
 | none=>
   obtain⟨p,a,rfl⟩:=Qkq.mp h
   have:=List.find?_eq_none.mp e p a
   simp at this
 | some p=>
   have b:=List.find?_some e
   have f:=List.mem_of_find?_eq_some e
   have c:p.1=k:=by simpa using b
   exact⟨p.2,rfl,by rw[←c];exact f⟩
def xF{l:List (Key×D)}{k:Key}{v:D}{p:Key×D}(h:p∈putD l k v):p∈l\/p=(k,v):=by
 unfold putD at h
 split at h
 ·obtain⟨q,a,e⟩:=Qkq.mp h
  split at e
  ·rename_i c
   rw[←e,c]
   exact .inr rfl
  ·rw[←e]
   exact .inl a
 ·rcases mQa.mp h with h|h
  ·exact .inl h
  ·exact .inr (Qfq.mp h)
def kM{l:List (Key×D)}{k x:Key}{v:D}(h:x=k\/x∈l.map (·.1)):x∈(putD l k v).map (·.1):=by
 unfold putD
 split
 ·rename_i c
  have a:∀p∈l,(if p.1=k then(p.1,v) else p).1=p.1:=λp _=>by split <;>rfl
  have e:(l.map λp=>if p.1=k then(p.1,v) else p).map (·.1)=l.map (·.1):=by
   rw[QPq]
   exact List.map_congr_left a
  rw[e]
  rcases h with rfl|h
  ·obtain⟨p,b,d⟩:=List.any_eq_true.mp c
   exact Qkq.mpr ⟨p,b,by simpa using d⟩
  ·exact h
 ·rw[Qzq]
  rcases h with rfl|h
  ·exact Qoq _ (by simp)
  ·exact List.mem_append_left _ h
theorem lL:∀{more l:List (Key×D)} {p:Key×D},p∈cW l more->p∈l\/p∈more
 | [],l,p,h=>.inl h
 | q::more,l,p,h=>by
   rcases lL (more:=more) (l:=putD l q.1 q.2) h with h|h
   · rcases xF h with h|rfl
     · exact .inl h
     · exact .inr (QBq ..)
   · exact .inr (Qpq _ h)
theorem gh:∀{more l:List (Key×D)} {x:Key},x∈l.map (·.1)\/x∈more.map (·.1)->x∈(cW l more).map (·.1)
 | [],l,x,h=>h.elim id λz=>by cases z
 | q::more,l,x,h=>by
   refine gh (more:=more) (l:=putD l q.1 q.2) ?_
   rcases h with h|h
   · exact .inl (kM (.inr h))
   · rcases Qsq.mp h with rfl|h
     · exact .inl (kM (.inl rfl))
     · exact .inr h
theorem qI:∀a:List Str,xJ (a.map D.str)=some (a.map Sum.inr)
 | []=>rfl
 |s::a=>by simp only[QDq,xJ,sA,Qbq];rw[qI a];rfl
section
variable{Γ:dt}{S:aI}
def K0{Q:D->aI->Prop}(q:Q (.ref S.length) (S++ [.dct []])):E K1 Γ S Q:=⟨_,_,rfl,q⟩
def GT{f g:fE}{Q:D->aI->Prop}(h:E f Γ S λp b=>E g Γ b λr S2=>∃a:List Str,p.1=a.map D.str/\(p.2.stays S2 p.1/\p.1.length=r.1.length)/\Q (.ref S2.length) (S2++ [.dct (cW [] ((a.map Sum.inr).zip r.1))])):E (Ik f g) Γ S Q:=by
 obtain⟨p,b,c,r,S2,i,a,d,e,q⟩:=h
 refine⟨_,_,?_,q⟩
 unfold Ik
 rw[c]
 simp only[Qbq]
 rw[i]
 simp only[Qbq]
 rw[Qhq e,d,qI]
 rfl
def IC{f g:bA}{Q:D->aI->Prop}(h:E f Γ S λx a=>E g Γ a λy S2=>∃k j b l m,x=.ref k/\y=.ref j/\k≠j/\a[k]?=some (.dct b)/\S2[k]?=some (.dct l)/\S2[j]?=some (.dct m)/\l.length+m.length<=sizeLine/\Q .non (S2.set k (.dct (cW l m)))):E (FE f g) Γ S Q:=by
 obtain⟨x,a,c,y,S2,d,k,j,b,l,m,rfl,rfl,hn,h0,h1,h2,h3,q⟩:=h
 exact⟨_,_,by unfold FE;rw[c];simp only[Qbq];rw[d];simp only[Qbq];rw[Qhq hn];simp only[h0,h1,h2];rw[Qhq h3],q⟩
def KN{f g h:bA}{Q:Out->Prop}(w:E h Γ S λd b=>E f Γ b λx S2=>E g Γ S2 λy a=>∃k l z,x=.ref k/\y=.str z/\a[k]?=some (.dct l)/\l.length<sizeLine/\Q (.nx Γ (a.set k (.dct (putD l (.inr z) d))))):T (Kk f g h) Γ S Q:=by
 obtain⟨d,b,c,x,S2,i,y,a,e,k,l,z,rfl,rfl,h1,h2,q⟩:=w
 exact⟨_,by unfold Kk;rw[c];simp only[Qbq];rw[i];simp only[Qbq];rw[e];simp only[Qbq,h1,sA];rw[Qhq h2],q⟩
def KZ{α:Type}{n:Nat}{js:List (Option Nat)}{i:vT}{g:mf}{w t:bA}{Q:Out->Prop}(P:dt->Prop)(enc:α->D)(j:α->Str)(e:α->D)(F:P (m9 js Γ)) (h:E i Γ S λp d=>∃xs:List α,p.1=xs.map enc/\p.2 d/\xs.length<=1000∧
   (∀x∈xs,∀c,P c->Tg g (enc x) c d λf S2=>S2=d/\P f/\E w f d λy C=>y=.str (j x)/\C=d/\E t f d λz B=>z=e x/\B=d)∧
   Q (.nx (Γ.set n (some (.ref d.length))) (d++ [.dct (cW [] (xs.map λx=>(Sum.inr (j x),e x)))]))):T (Ko n (qU js i g e_ w t)) Γ S Q:=by
 obtain⟨⟨R,W⟩,d,H,xs,rfl,hW,hl,hs,q⟩:=h
 have I:∀(l:List (Key×D)) (k:Key) (v:D),(putD l k v).length<=l.length+1:=λl k v=>by
  unfold putD
  split <;>simp
 have J:∀(m:List α) (c:dt) (b:List (Key×D)),(∀y∈m,y∈xs)->P c->b.length+m.length<=1000->∃r,iI g e_ w t W (m.map enc) c d b=some (r,d)/\r=cW b (m.map λx=>(Sum.inr (j x),e x)):=by
  intro m
  induction m with
  |nil=>intro c b _ _ _;exact⟨b,by simp only[List.map_nil,iI];rw[Qhq hW],rfl⟩
  | cons a m M=>
    intro c b A G o
    obtain⟨f,S2,s,rfl,hp1,y,C,e3,rfl,rfl,z,B,e4,rfl,rfl⟩:=hs a (A a (QBq ..)) c G
    have u:=I b (Sum.inr (j a)) (e a)
    simp only[Qnq] at o
    obtain⟨r,N,K⟩:=M f (putD b (Sum.inr (j a)) (e a)) (λy L=>A y (Qpq _ L)) hp1 (by omega)
    refine⟨r,?_,K⟩
    simp only[QDq,iI]
    rw[Qhq hW,s]
    simp only[Qbq,e_,if_true]
    rw[e3]
    simp only[Qbq]
    rw[e4]
    simp only[Qbq,sA]
    rw[Qhq (bo (by omega))]
    exact N
 obtain⟨r,s,rfl⟩:=J xs _ [] (λ_ h=>h) F (by simpa using hl)
 exact⟨_,by unfold Ko qU;rw[H];simp only[Qbq];rw[s];rfl,q⟩
end
def qN{a:dt}{S:aI}{f g:fE}{Q:(List D×(aI->Prop))->aI->Prop}(h:E f a S λp b=>E g a b λr S2=>(p.2.stays S2 p.1/\p.1.length<=r.1.length)/\Q (sM p.1 r.1,λS=>p.2.stays S p.1/\r.2.stays S r.1) S2):E (xH f g) a S Q:=by
 obtain⟨p,b,c,r,S2,e,d,q⟩:=h
 exact⟨_,S2,by unfold xH;rw[c];simp only[Qbq];rw[e];simp only[Qbq];rw[Qhq d],q⟩
def j7(l:List (Key×D)):Prop:=∀p∈l,∃v:Int,p.2=.int v/\0<=v/\v<=9
def j7.merge{l m:List (Key×D)}(b:j7 l)(c:j7 m):j7 (cW l m):=λp a=>(lL a).elim (b p) (c p)
def j7.put{l:List (Key×D)}{k:Key}{v:Int}(h:j7 l)(b:0<=v)(c:v<=9):j7 (putD l k (.int v)):=λp a=>by
 rcases xF a with a|rfl
 ·exact h p a
 ·exact⟨v,rfl,b,c⟩
def numAt(l:List (Key×D))(x:Str):Int:=match qM l (.inr x) with|some (.int v)=>v|_=>0
def mq{l:List (Key×D)}(h:j7 l){x:Str}(i:(Sum.inr x:Key)∈l.map (·.1)):qM l (.inr x)=some (.int (numAt l x))/\0<=numAt l x/\numAt l x<=9:=by
 obtain⟨d,b,g⟩:=tZ i
 obtain⟨v,a,f,c⟩:=h _ g
 have a:d=.int v:=a
 subst a
 have e:numAt l x=v:=by unfold numAt;rw[b]
 rw[e]
 exact⟨b,f,c⟩
def DW{b:List Str}{vs:List Int}(h:∀v∈vs,0<=v/\v<=9):j7 ((b.map (Sum.inr:Str->Key)).zip (vs.map D.int)):=λp a=>by
 have d:p.2∈vs.map D.int:=(QeQ (show(p.1,p.2)∈_ from a)).2
 obtain⟨v,c,e⟩:=Qkq.mp d
 exact⟨v,e.symm,h v c⟩
def Cy{a:List Str}{ds:List D}(h:a.length=ds.length):((a.map (Sum.inr:Str->Key)).zip ds).map (·.1)=a.map Sum.inr:=by
 rw[List.map_fst_zip]
 simpa using Nat.le_of_eq h
end DL
namespace W28
open PySem PySem.Spec L2 DL
def dP(ts:List (Str×Nat))(vs:List Int):List (Key×D):=cW [] (((ts.map (·.1)).map Sum.inr).zip (vs.map D.int))
def yD(w:dj)(s:bc)(ts:List (Str×Nat))(vs:List Int):List (Key×D):=cW (dP w.ak s.ak) (dP ts vs)
def qT(r:Rm)(b:dI)(a:Int):List (Key×D):=putD (dP r.ao b.vals) (.inr "given") (.int a)
def AF(r:Rm)(a:dI):List (Key×D):=cW [] ((r.aa.zip a.aa).map λp=>(Sum.inr p.1.1,D.int (p.2.length:Nat)))
def g7{ts:List (Str×Nat)}{vs:List Int}(h:∀v∈vs,0<=v/\v<=9):j7 (dP ts vs):=j7.merge (λp a=>by cases a) (DW h)
def gY{ts:List (Str×Nat)}{vs:List Int}(a:ts.length=vs.length){x:Str}(h:x∈ts.map (·.1)):(Sum.inr x:Key)∈(dP ts vs).map (·.1):=by
 refine gh (.inr ?_)
 rw[Cy (by simpa using a)]
 exact Qkq.mpr ⟨x,h,rfl⟩
structure pk(S S':aI):Prop where
 len:S.length<=S'.length
 eq:∀j,j<S.length->S'[j]?=S[j]?
def pk.refl{S:aI}:pk S S:=⟨Qmq _,λ_ _=>rfl⟩
def pk.app{S a G:aI}(x:pk S a):pk S (a++G):=⟨by rw[lQa];have:=x.len;omega,λj b=>by rw[QHq (by have:=x.len;omega)];exact x.eq j b⟩
def pk.put{S a:aI}{r:Nat}{o:O}(x:pk S a)(c:S.length<=r):pk S (a.set r o):=⟨by simpa using x.len,λj b=>by rw[QKq (by omega)];exact x.eq j b⟩
def ui{S b:aI}{d:D}{Q:Res->aI->Prop}(x:pk S b)(hd:∀k,d≠.ref k)(f:cD 0 d=true)(q:Q (.d d) S):Op (settle S d b) λp=>Q p.1 p.2:=by
 refine g8 ⟨x.len,λk o c e=>.inl (by rw[←x.eq k c];exact e)⟩ ?_ hd (qJ f) q
 apply List.ext_getElem?
 intro j
 by_cases a:j<S.length
 ·rw[List.getElem?_take_of_lt a]
  exact x.eq j a
 ·rw[List.getElem?_eq_none (by rw[Qxq];omega),List.getElem?_eq_none (by omega)]
def gX:∀a:Str×Nat,∃r,vU a=.tup (.str a.1::r):=λa=>⟨_,rfl⟩
def AB:∀a:Str×Str,∃r,Ba a=.tup (.str a.1::r):=λa=>⟨_,rfl⟩
section
variable{S:aI}{Q:Res->aI->Prop}
theorem se:∀{m l:List (Key×D)},(cW l m).length<=l.length+m.length
 | [],l=>Qmq _
 | q::m,l=>by
   have a:(cW (putD l q.1 q.2) m).length<=(putD l q.1 q.2).length+m.length:=se
   have b:(putD l q.1 q.2).length<=l.length+1:=by unfold putD;split <;>simp
   show(cW (putD l q.1 q.2) m).length<=_
   simp only[Qnq]
   omega
def qd{ts:List (Str×Nat)}{vs:List Int}:(dP ts vs).length<=ts.length:=by
 refine QAq se ?_
 simp only[QGq,List.length_zip,lQm]
 omega
def uO{w:dj}{s:bc}{h:Nat}{ts:List (Str×Nat)}{pr:List Rw}{vs:List Int}{fs:List bV}{f:bV}{t:Tr}(B:w.af[h]?=some (ts,pr))(p:s.af[h]?=some (vs,fs))(y:fs.getLast? =some f)(C:f.room= -1)
  (r:w.ak.length=s.ak.length) (o:ts.length=vs.length) (J:w.ak.length<=100) (K:ts.length<=100) (I:∀v∈s.ak,0<=v/\v<=9) (A:∀v∈vs,0<=v/\v<=9)
  (G:t.Ok (ts.map (·.1)++w.ak.map (·.1)) []) (hd:t.dep<=6) (q:Q (.d (.int (vV (numAt (yD w s ts vs)) (λ_=>0) t))) S):Fn dz [w.d,s.d,.int h,t.d] S Q:=by
 have a:j7 (yD w s ts vs):=j7.merge (g7 I) (g7 A)
 refine bX ?_
 unfold nO
 symm
 apply bL p y ?_
 apply ay (d:=.int f.room) rfl ?_
 refine ij ?_
 dsimp only
 rw[Qeq C,Qhq rfl]
 symm
 apply GT ?_
 apply ay rfl ?_
 apply fg (enc:=vU) (nm:=(·.1)) gX (by omega) ?_
 refine ay rfl ?_
 refine cU (ds:=s.ak.map D.int) ?_
 refine⟨_,rfl,⟨trivial,by simp only[lQm];exact r⟩,?_⟩
 dsimp only
 rw[show cW [] (((w.ak.map (·.1)).map (Sum.inr:Str->Key)).zip (s.ak.map D.int))=dP w.ak s.ak from rfl]
 apply cv (DJ (IC ?_))
 apply GT ?_
 apply ay rfl ?_
 refine ay (d:=fH (ts,pr)) (aZ (by rw[gQm,B];rfl)) ?_
 symm
 apply ay rfl ?_
 apply fg (enc:=vU) (nm:=(·.1)) gX (by omega) ?_
 apply ay rfl ?_
 refine ay (d:=BA (vs,fs)) (aZ (by rw[gQm,p];rfl)) ?_
 symm
 refine ay rfl ?_
 refine cU (ds:=vs.map D.int) ?_
 refine⟨_,rfl,⟨trivial,by simp only[lQm];exact o⟩,?_⟩
 dsimp only
 rw[show cW [] (((ts.map (·.1)).map (Sum.inr:Str->Key)).zip (vs.map D.int))=dP ts vs from rfl]
 have e:(S++ [O.dct (dP w.ak s.ak)])[S.length]?=some (.dct (dP w.ak s.ak)):=bM
 have i:(S++ [O.dct (dP w.ak s.ak)]).length=S.length+1:=by simp
 have u:pk S (S++ [O.dct (dP w.ak s.ak)]):=pk.refl.app
 show∃k j H l m,D.ref S.length=.ref k/\D.ref (S++ [O.dct (dP w.ak s.ak)]).length=.ref j/\k≠j/\(S++ [O.dct (dP w.ak s.ak)])[k]?=some (.dct H)/\(S++ [O.dct (dP w.ak s.ak)]++ [O.dct (dP ts vs)])[k]?=some (.dct l)/\(S++ [O.dct (dP w.ak s.ak)]++ [O.dct (dP ts vs)])[j]?=some (.dct m)/\_
 refine⟨_,_,_,_,_,rfl,rfl,by omega,e,kf e,bM,?_,?_⟩
 ·have M:=qd (ts:=w.ak) (vs:=s.ak)
  have L:=qd (ts:=ts) (vs:=vs)
  exact nQl (bo (by omega))
 have n:((S++ [O.dct (dP w.ak s.ak)]++ [O.dct (dP ts vs)]).set S.length (.dct (cW (dP w.ak s.ak) (dP ts vs))))[S.length]?=some (.dct (yD w s ts vs)):=rA (kf e)
 have g:pk S ((S++ [O.dct (dP w.ak s.ak)]++ [O.dct (dP ts vs)]).set S.length (.dct (cW (dP w.ak s.ak) (dP ts vs)))):=u.app.put (Qmq _)
 generalize ((S++ [O.dct (dP w.ak s.ak)]++ [O.dct (dP ts vs)]).set S.length (.dct (cW (dP w.ak s.ak) (dP ts vs))))=S2 at n g⊢
 symm
 apply K0 ?_
 refine gf (th:=numAt (yD w s ts vs)) (wt:=λ_=>0) (ws:=ts.map (·.1)++w.ak.map (·.1)) (bs:= []) (kf n) bM (λx c=> ?_) (λb F=>by cases F) 6 t G hd ?_
 ·refine(mq a ?_).1
  refine gh ?_
  rcases mQa.mp c with c|c
  ·exact .inr (gY o c)
  ·exact .inl (gY r c)
 ·exact ui g.app (λk z=>(nomatch z)) rfl q
end
section
variable{S:aI}{Q:Res->aI->Prop}
theorem vX:∀(bs:List (Str×Str)) (ls:List (List (Int×Int))),sM ((bs.map (·.1)).map D.str) (ls.map bZ)=(bs.zip ls).map λp=>D.tup [.str p.1.1,bZ p.2]
 | [],_=>rfl
 |_::_,[]=>rfl
 | b::bs,l::ls=>by
   have:=vX bs ls
   simp only[sM,QDq,List.zipWith_cons_cons,List.zip_cons_cons] at this⊢
   rw[this]
def tP(r:Rm)(a:dI)(x:Str):Int:=numAt (AF r a) x
def DI{r:Rm}{a:dI}(l:r.aa.length=a.aa.length){x:Str}(h:x∈r.aa.map (·.1)):qM (AF r a) (.inr x)=some (.int (tP r a x)):=by
 have k:(Sum.inr x:Key)∈(AF r a).map (·.1):=by
  refine gh (.inr ?_)
  rw[QPq]
  obtain⟨b,g,rfl⟩:=Qkq.mp h
  obtain⟨i,f,e⟩:=QbQ g
  refine Qkq.mpr ⟨(b,a.aa[i]'(by omega)),?_,rfl⟩
  rw[←e]
  have:(r.aa.zip a.aa)[i]?=some (r.aa[i],a.aa[i]'(by omega)):=by
   rw[List.getElem?_zip_eq_some]
   exact⟨gQe f,gQe (by omega)⟩
  exact mQg this
 obtain⟨d,j,c⟩:=tZ k
 have f:∃v:Int,d=.int v:=by
  rcases lL c with c|c
  ·cases c
  ·obtain⟨p,_,e⟩:=Qkq.mp c
   exact⟨_,(congrArg (·.2) e).symm⟩
 obtain⟨v,rfl⟩:=f
 unfold tP DL.numAt
 rw[j]
def sQ{w:dj}{s:bc}{h i:Nat}{vs:List Int}{fs:List bV}{f:bV}{r:Rm}{c:dI}{t:Tr}(J:s.af[h]?=some (vs,fs))(C:fs.getLast? =some f)(G:f.room=i)(o:w.aj[i]?=some r)(g:s.aj[i]?=some c)
  (A:r.ao.length=c.vals.length) (I:r.aa.length=c.aa.length) (M:r.ao.length<=100) (N:r.aa.length<=100) (K:∀v∈c.vals,0<=v/\v<=9) (n:0<=f.given/\f.given<=9)
  (H:t.Ok (r.ao.map (·.1)++lH) (r.aa.map (·.1))) (hd:t.dep<=6) (q:Q (.d (.int (vV (numAt (qT r c f.given)) (tP r c) t))) S):Fn dz [w.d,s.d,.int h,t.d] S Q:=by
 have e:j7 (qT r c f.given):=(g7 K).put n.1 n.2
 refine bX ?_
 unfold nO
 symm
 apply bL J C ?_
 apply ay (d:=.int f.room) rfl ?_
 refine ij ?_
 dsimp only
 rw[Qdq (show¬f.room= -1 by omega),Quq (by decide),G]
 apply cf ?_
 apply GT ?_
 apply ay rfl ?_
 refine ay (d:=r.d) (aZ (by rw[gQm,o];rfl)) ?_
 symm
 apply ay rfl ?_
 apply fg (enc:=vU) (nm:=(·.1)) gX (by omega) ?_
 apply ay rfl ?_
 refine ay (d:=c.d) (aZ (by rw[gQm,g];rfl)) ?_
 symm
 refine ay rfl ?_
 refine cU (ds:=c.vals.map D.int) ?_
 refine⟨_,rfl,⟨trivial,by simp only[lQm];exact A⟩,?_⟩
 dsimp only
 rw[show cW [] (((r.ao.map (·.1)).map (Sum.inr:Str->Key)).zip (c.vals.map D.int))=dP r.ao c.vals from rfl]
 have B:pk S (S++ [O.dct (dP r.ao c.vals)]):=pk.refl.app
 apply cv (KN ?_)
 apply ay (d:=.int f.given) rfl ?_
 refine⟨_,_,_,rfl,rfl,bM,bo (by have:=qd (ts:=r.ao) (vs:=c.vals);omega),?_⟩
 have y:((S++ [O.dct (dP r.ao c.vals)]).set S.length (.dct (putD (dP r.ao c.vals) (.inr "given") (.int f.given))))[S.length]?=some (.dct (qT r c f.given)):=rA bM
 have u:pk S ((S++ [O.dct (dP r.ao c.vals)]).set S.length (.dct (putD (dP r.ao c.vals) (.inr "given") (.int f.given)))):=B.put (Qmq _)
 generalize ((S++ [O.dct (dP r.ao c.vals)]).set S.length (.dct (putD (dP r.ao c.vals) (.inr "given") (.int f.given))))=S2 at y u⊢
 apply cv (KZ (α:=(Str×Str)×List (Int×Int)) (λl=>∃a b,l= [a,b]) (λp=>D.tup [.str p.1.1,bZ p.2]) (λp=>p.1.1) (λp=>.int (p.2.length:Nat)) ⟨none,none,rfl⟩ (qN ?_))
 apply ay rfl ?_
 refine ay (d:=r.d) (aZ (by rw[gQm,o];rfl)) ?_
 symm
 apply ay rfl ?_
 apply fg (enc:=Ba) (nm:=(·.1)) AB (by omega) ?_
 apply ay rfl ?_
 refine ay (d:=c.d) (aZ (by rw[gQm,g];rfl)) ?_
 symm
 refine ay rfl ?_
 refine cU (ds:=c.aa.map bZ) ?_
 refine⟨⟨trivial,by simp only[lQm];omega⟩,r.aa.zip c.aa,vX _ _,⟨trivial,trivial⟩,by rw[List.length_zip];omega,λp L l m=> ?_,?_⟩
 ·obtain⟨a,b,rfl⟩:=m
  refine eA rfl (aB (bg (aB (bg (bq ?_)))))
  apply⟨rfl,⟨_,_,rfl⟩,?_⟩
  apply⟨rfl,rfl,?_⟩
  refine cU (ds:=p.2.map pairD) ?_
  exact⟨by simp,rfl⟩
 symm
 refine gf (th:=numAt (qT r c f.given)) (wt:=tP r c) (ws:=r.ao.map (·.1)++lH) (bs:=r.aa.map (·.1)) (kws:=AF r c) (kf y) bM (λx j=> ?_) (λb F=>DI I F) 6 t H hd ?_
 ·refine(mq e ?_).1
  refine kM ?_
  rcases mQa.mp j with j|j
  ·exact .inr (gY A j)
  ·left
   rw[Qfq.mp j]
 ·exact ui u.app (λk z=>(nomatch z)) rfl q
end
end W28
namespace DL
open PySem PySem.Spec L2
def wI{b:dt}{S:aI}{a:Bool}{f:bA}{g:fE}{Q:D->aI->Prop}(h:E f b S λx c=>E g b c λp S2=>∃v vs,ua x=some v/\m3 p.1=some vs/\Q (.bl (if a then !Dt v vs else Dt v vs)) S2):E (B4 a f g) b S Q:=by
 obtain⟨x,c,d,p,S2,j,v,vs,e,i,q⟩:=h
 exact⟨_,S2,by unfold B4;rw[d];simp only[Qbq];rw[j];simp only[Qbq];rw[e,i];rfl,q⟩
def Ew{x:Str}{b:List Str}:Dt (.str x) (b.map V.str)=decide (x∈b):=by
 induction b with
 |nil=>rfl
 | cons a b d=>
   show(nh (.str a) (.str x)||Dt (.str x) (b.map V.str))=_
   rw[d]
   simp only[nh,Qsq]
   by_cases c:a=x
   · subst c;simp
   · have e:¬x=a:=λz=>c z.symm
     simp[c,e]
end DL
namespace W28
open PySem PySem.Spec L2 DL
section
variable{S:aI}{Q:Res->aI->Prop}
def dZ(ns:List Str)(vs:List Int)(x:Str)(v:Int):List Int:=vs.set ((kS (.str x) (ns.map V.str)).getD 0) v
def mB{α:Type}{enc:α->D}{nm:α->Str}{xs:List α}{x:Str}(he:∀a,∃r,enc a=.tup (.str (nm a)::r))(g:xs.length<=1000)(i:x∈xs.map nm)(q:((kS (.str x) ((xs.map nm).map V.str)).getD 0)<xs.length->Q (.d (.int ((kS (.str x) ((xs.map nm).map V.str)).getD 0:Nat))) S):Fn c9 [.tup (xs.map enc),.str x] S Q:=by
 refine bX ?_
 unfold tf
 obtain⟨j,e,h⟩:=uR i
 have l:j<xs.length:=by have:=(gQs.mp h).1;simpa using this
 rw[e] at q
 refine rg ?_
 have c:E (ni (fA dW (au (av 0) aA))) ([D.tup (xs.map enc),D.str x].map some++List.replicate (2- [D.tup (xs.map enc),D.str x].length) none) S λp b=>p=((xs.map nm).map D.str,.fr)/\b=S:=by
  symm
  exact fg he g ⟨rfl,rfl⟩
 obtain⟨p,b,f,rfl,rfl⟩:=c
 refine⟨.int j,b,?_,bW (λk z=>(nomatch z)) rfl (q l)⟩
 unfold A2
 rw[f]
 simp only[Qbq]
 rw[Qhq (show Tag.fr.isL=true from rfl)]
 show((av 1 _ b).bind _)=_
 rw[show av 1 ([D.tup (xs.map enc),D.str x].map some++List.replicate (2- [D.tup (xs.map enc),D.str x].length) none) b=some (.str x,b) from rfl]
 simp only[Qbq]
 rw[Qhq (show Tag.stays b _ .fr from trivial)]
 show(ua (.str x)).bind _=_
 simp only[ua,Qbq]
 rw[jx]
 simp only[Qbq]
 rw[e]
 rfl
def Du{w:dj}{s:bc}{h i:Nat}{vs:List Int}{fs:List bV}{f:bV}{r:Rm}{a:dI}{x:Str}{v:Int}(l:s.af[h]?=some (vs,fs))(c:fs.getLast? =some f)(k:f.room=i)(g:w.aj[i]?=some r)(b:s.aj[i]?=some a)
  (p:r.ao.length=a.vals.length) (m:r.ao.length<=100) (n:s.aj.length<=100) (j:x∈r.ao.map (·.1))
  (q:Q (.d ({s with aj:=s.aj.set i {a with vals:=dZ (r.ao.map (·.1)) a.vals x v}}:bc).d) S):Fn eZ [w.d,s.d,.int h,.str x,.int v] S Q:=by
 refine bX ?_
 unfold l_
 symm
 apply bL l c ?_
 apply ay (d:=.int f.room) rfl ?_
 refine lz ?_
 dsimp only
 rw[Qdq (show¬f.room= -1 by omega),k]
 show if (true=true) then _ else _
 rw[Qhq rfl]
 symm
 apply ay rfl ?_
 refine ay (d:=r.d) (aZ (by rw[gQm,g];rfl)) ?_
 symm
 apply ay rfl ?_
 apply mB (enc:=vU) (nm:=(·.1)) gX (by omega) j λo=> ?_
 apply ay rfl ?_
 refine ay (d:=a.d) (aZ (by rw[gQm,b];rfl)) ?_
 symm
 apply ay rfl ?_
 refine dH (xs:=a.vals.map D.int) (by rw[lQm];omega) (by rw[lQm];omega) (bT λ_ _=>rfl) rfl ?_
 symm
 refine⟨by show 1<=_;decide,?_⟩
 apply il ?_
 apply ay rfl ?_
 refine ay (d:=a.d) (aZ (by rw[gQm,b];rfl)) ?_
 apply cp ?_
 refine⟨_,rfl,cg ⟨_,rfl,?_⟩⟩
 refine cN (by show 5<=_;decide) ?_
 symm
 have e:({a with vals:=dZ (r.ao.map (·.1)) a.vals x v}:dI).d=.tup ([.tup ((a.vals.map D.int).set ((kS (.str x) ((r.ao.map (·.1)).map V.str)).getD 0) (.int v))]++je [cX a.vals,.int a.within,cX a.row,cX a.ag,.tup (a.aa.map bZ)] (some 1) none):=by
  show D.tup [cX (dZ _ _ _ _),_,_,_,_]=_
  unfold dZ cX
  rw[map_set]
  rfl
 rw[←e]
 refine di (gQs.mp b).1 (by omega) ?_
 exact bW (aU _) (bc.low _) q
end
section
variable{S:aI}{Q:Res->aI->Prop}
def sf(w:dj)(s:bc)(h:Nat)(ts:List (Str×Nat))(vs:List Int)(fs:List bV)(x:Str)(v:Int):bc:=
 if x∈w.ak.map (·.1) then{s with ak:=dZ (w.ak.map (·.1)) s.ak x v} else{s with af:=s.af.set h (dZ (ts.map (·.1)) vs x v,fs)}
def FC{w:dj}{s:bc}{h:Nat}{ts:List (Str×Nat)}{pr:List Rw}{vs:List Int}{fs:List bV}{f:bV}{x:Str}{v:Int}(j:w.af[h]?=some (ts,pr))(b:s.af[h]?=some (vs,fs))(g:fs.getLast? =some f)(m:f.room= -1)
  (y:w.ak.length=s.ak.length) (t:ts.length=vs.length) (o:w.ak.length<=100) (r:ts.length<=100) (u:s.af.length<=100) (k:x∈ts.map (·.1)++w.ak.map (·.1))
  (q:Q (.d (sf w s h ts vs fs x v).d) S):Fn eZ [w.d,s.d,.int h,.str x,.int v] S Q:=by
 refine bX ?_
 unfold l_
 symm
 apply bL b g ?_
 apply ay (d:=.int f.room) rfl ?_
 refine lz ?_
 dsimp only
 rw[Qeq m]
 refine aW (λc=>by cases c) (λ_=>cf ?_)
 apply cv (gV (gq (wI ?_)))
 apply ay rfl ?_
 apply fg (enc:=vU) (nm:=(·.1)) gX (by omega) ?_
 refine⟨_,_,rfl,jx _,?_⟩
 unfold sf at q
 show if Dt (.str x) ((w.ak.map (·.1)).map V.str)=true then _ else _
 rw[Ew]
 by_cases c:x∈w.ak.map (·.1)
 ·rw[Qhq c] at q
  rw[Qeq c,Qhq rfl]
  symm
  apply ay rfl ?_
  apply ay rfl ?_
  apply mB (enc:=vU) (nm:=(·.1)) gX (by omega) c λn=> ?_
  refine dH (xs:=s.ak.map D.int) (by rw[lQm];omega) (by rw[lQm];omega) (bT λ_ _=>rfl) rfl ?_
  symm
  apply ay rfl ?_
  apply ay rfl ?_
  apply ay rfl ?_
  refine⟨by show 4<=_;decide,?_⟩
  rw[←map_set]
  exact bW (d:=({s with ak:=dZ (w.ak.map (·.1)) s.ak x v}:bc).d) (aU _) (bc.low _) q
 ·rw[Quq c] at q
  rw[Qdq c,Quq (by decide)]
  refine cf ?_
  have a:x∈ts.map (·.1):=(mQa.mp k).resolve_right c
  symm
  apply ay rfl ?_
  refine ay (d:=BA (vs,fs)) (aZ (by rw[gQm,b];rfl)) ?_
  apply eA rfl (aB (bg (aB (bg (bq ?_)))))
  apply ay rfl ?_
  refine ay (d:=fH (ts,pr)) (aZ (by rw[gQm,j];rfl)) ?_
  symm
  apply ay rfl ?_
  apply mB (enc:=vU) (nm:=(·.1)) gX (by omega) a λn=> ?_
  refine dH (xs:=vs.map D.int) (by rw[lQm];omega) (by rw[lQm];omega) (bT λ_ _=>rfl) rfl ?_
  symm
  rw[←map_set]
  rw[show D.tup ((vs.set ((kS (.str x) ((ts.map (·.1)).map V.str)).getD 0) v).map D.int)=cX (dZ (ts.map (·.1)) vs x v) from rfl]
  generalize dZ (ts.map (·.1)) vs x v=nv at q⊢
  have e:h<s.af.length:=(gQs.mp b).1
  have l:s.af.length<=900:=by omega
  have i:Op (settle S ({s with af:=s.af.set h (nv,fs)}:bc).d S) λp=>Q p.1 p.2:=bW (aU _) (bc.low _) q
  exact gU e l i
end
section
variable{S:aI}{Q:Res->aI->Prop}
def df(ns:List Str)(x:Str):Nat:=(kS (.str x) (ns.map V.str)).getD 0
def lC{ns:List Str}{x:Str}(h:x∈ns):df ns x<ns.length/\ns[df ns x]?=some x:=by
 obtain⟨j,b,a⟩:=uR h
 unfold df
 rw[b]
 exact⟨(gQs.mp a).1,a⟩
def i7{α:Type}{enc:α->D}{nm:α->Str}{xs:List α}{x:Str}(he:∀a,∃r,enc a=.tup (.str (nm a)::r))(b:xs.length<=1000)(c:x∈xs.map nm)(q:Q (.d (.int (df (xs.map nm) x:Nat))) S):Fn c9 [.tup (xs.map enc),.str x] S Q:=mB he b c λ_=>q
def lW{w:dj}{s:bc}{h i:Nat}{vs:List Int}{fs:List bV}{f:bV}{r:Rm}{x:Str}(c:s.af[h]?=some (vs,fs))(e:fs.getLast? =some f)(a:f.room=i)(b:w.aj[i]?=some r)(j:r.aa.length<=100)(g:x∈r.aa.map (·.1))
  (q:Q (.d (.tup [.int i,.int (df (r.aa.map (·.1)) x:Nat)])) S):Fn jd [w.d,s.d,.int h,.str x] S Q:=by
 refine bX ?_
 unfold xR
 symm
 apply bL c e ?_
 refine ay (d:=.int f.room) rfl ?_
 rw[a]
 symm
 apply ay rfl ?_
 refine ay (d:=r.d) (aZ (by rw[gQm,b];rfl)) ?_
 symm
 apply ay rfl ?_
 apply i7 (enc:=Ba) (nm:=(·.1)) AB (by omega) g ?_
 refine⟨by show 2<=_;decide,?_⟩
 exact bW (λk z=>(nomatch z)) rfl q
def ji{s:bc}{i b:Nat}{a:dI}{l:List (Int×Int)}(c:s.aj[i]?=some a)(n:b<a.aa.length)(k:a.aa.length<=100)(m:s.aj.length<=100)
  (q:Q (.d ({s with aj:=s.aj.set i {a with aa:=a.aa.set b l}}:bc).d) S):Fn eS [s.d,.int i,.int b,bZ l] S Q:=by
 refine bX ?_
 unfold rj
 symm
 apply ay rfl ?_
 refine ay (d:=a.d) (aZ (by rw[gQm,c];rfl)) ?_
 symm
 apply il ?_
 apply cg (cp ?_)
 apply⟨_,rfl,_,rfl,?_⟩
 apply ay rfl ?_
 refine dH (xs:=a.aa.map bZ) (by rw[lQm];omega) (by rw[lQm];omega) (bT λl _=>kq l) (kq l) ?_
 symm
 refine⟨by show 1<=_;decide,?_⟩
 refine cN (by show 5<=_;decide) ?_
 symm
 rw[←map_set]
 generalize h:a.aa.set b l=nb at q⊢
 have e:({a with aa:=nb}:dI).d=.tup (je [cX a.vals,.int a.within,cX a.row,cX a.ag,.tup (a.aa.map bZ)] none (some 4)++ [.tup (nb.map bZ)]):=rfl
 rw[←e]
 have f:i<s.aj.length:=(gQs.mp c).1
 have j:s.aj.length<=900:=by omega
 have g:Op (settle S ({s with aj:=s.aj.set i {a with aa:=nb}}:bc).d S) λp=>Q p.1 p.2:=bW (aU _) (bc.low _) q
 exact di f j g
def iS(p:Int×List Int)(h:Int):Int×List Int:=if 0<p.1 then(p.1-1,p.2) else(p.1,p.2++ [h])
def gd(p:Int×List Int):Int×List Int:=match p.2 with
 |_::l=>(p.1,l)
 | []=>(if 9<p.1+1 then 9 else p.1+1,[])
def wq{w:dj}{s:bc}{h:Int}{x:Str}{p:Int×List Int}(i:x∈w.ai.map (·.1))(b:s.ai[df (w.ai.map (·.1)) x]?=some p)(m:w.ai.length<=100)(k:s.ai.length<=100)(l:p.2.length<=900)
  (q:Q (.d ({s with ai:=s.ai.set (df (w.ai.map (·.1)) x) (iS p h)}:bc).d) S):Fn qY [w.d,s.d,.int h,.str x] S Q:=by
 refine bX ?_
 unfold Dq
 symm
 apply ay rfl ?_
 refine i7 (enc:=vU) (nm:=(·.1)) gX (by omega) i ?_
 generalize df (w.ai.map (·.1)) x=j at b q⊢
 have f:j<s.ai.length:=(gQs.mp b).1
 have g:s.ai.length<=900:=by omega
 symm
 apply ay rfl ?_
 refine ay (d:=yt p) (aZ (by rw[gQm,b];rfl)) ?_
 refine eA rfl (aB (bg (aB (bg (bq ?_)))))
 have a:Op (settle S ({s with ai:=s.ai.set j (iS p h)}:bc).d S) λp=>Q p.1 p.2:=bW (aU _) (bc.low _) q
 unfold iS at a
 symm
 by_cases c:0<p.1
 ·rw[Qhq c] at a
  rw[Qeq c,Qhq rfl]
  symm
  refine⟨by show 2<=_;decide,?_⟩
  symm
  exact gR (p:=(p.1-1,p.2)) f g a
 ·rw[Quq c] at a
  rw[Qdq c,Quq (by decide)]
  apply cf ?_
  refine⟨by show 1<=_;decide,?_⟩
  refine cN (by simp only[lQm,Qnq,QGq];exact nQl (bo (by omega))) ?_
  symm
  refine⟨by show 2<=_;decide,?_⟩
  symm
  have e:D.tup [.int p.1,.tup (p.2.map D.int++ [.int h])]=yt (p.1,p.2++ [h]):=by simp[yt,cX]
  rw[e]
  exact gR f g a
end
section
variable{S:aI}{Q:Res->aI->Prop}
def kZ{w:dj}{s:bc}{x:Str}{p:Int×List Int}(k:x∈w.ai.map (·.1))(f:s.ai[df (w.ai.map (·.1)) x]?=some p)(m:w.ai.length<=100)(n:s.ai.length<=100)
  (q:Q (.d ({s with ai:=s.ai.set (df (w.ai.map (·.1)) x) (gd p)}:bc).d) S):Fn gk [w.d,s.d,.str x] S Q:=by
 refine bX ?_
 unfold o8
 symm
 apply ay rfl ?_
 refine i7 (enc:=vU) (nm:=(·.1)) gX (by omega) k ?_
 generalize df (w.ai.map (·.1)) x=j at f q⊢
 have i:j<s.ai.length:=(gQs.mp f).1
 have h:s.ai.length<=900:=by omega
 symm
 apply ay rfl ?_
 refine ay (d:=yt p) (aZ (by rw[gQm,f];rfl)) ?_
 refine eA rfl (aB (bg (aB (bg (bq ?_)))))
 have g:Op (settle S ({s with ai:=s.ai.set j (gd p)}:bc).d S) λp=>Q p.1 p.2:=bW (aU _) (bc.low _) q
 obtain⟨v,b⟩:=p
 symm
 refine uQ ?_
 cases b with
 | cons a l=>
   apply aW (λ_=> ?_) (λc=>by cases c)
   apply il ?_
   apply cp ?_
   apply⟨_,rfl,cg ⟨_,rfl,?_⟩⟩
   refine⟨by show 2<=_;decide,?_⟩
   symm
   have e:D.tup (je ((a::l).map D.int) (some 1) none)=cX l:=by
     rw[show(some (1:Int))=some ((1:Nat):Int) from rfl,hZ (by simp)]
     rfl
   rw[e]
   exact gR (p:=(v,l)) i h g
 | nil=>
   apply aW (λc=>by cases c) (λ_=>cf ?_)
   apply CI ?_
   refine⟨by show 2<=_;decide,?_⟩
   symm
   exact gR (p:=(if 9<v+1 then 9 else v+1,[])) i h g
def BP{b sd hd a:D}{s:bc}(q:Q (.d s.d) S):Fn pT [b,s.d,hd,a] S Q:=by
 refine bX ?_
 unfold AO
 symm
 exact bW (aU _) (bc.low _) q
def D0{i:D}{s:bc}{h n:Nat}{vs:List Int}{fs:List bV}{f:bV}(b:s.af[h]?=some (vs,fs))(e:fs.getLast? =some f)(a:fs.length<=900)(c:s.af.length<=900)(q:Q (.d ({s with af:=s.af.set h (vs,fs.dropLast++ [{f with row:=n}])}:bc).d) S):Fn uC [i,s.d,.int h,(Rw.go n).d] S Q:=by
 refine bX ?_
 unfold C9
 symm
 apply ay (d:=.int n) rfl ?_
 have g:Op (settle S ({s with af:=s.af.set h (vs,fs.dropLast++ [{f with row:=n}])}:bc).d S) λp=>Q p.1 p.2:=bW (aU _) (bc.low _) q
 exact ow b e a c g
end
section
variable{S:aI}{Q:Res->aI->Prop}
def y2{w:dj}{s:bc}{h:Int}{x:Str}{p:Int×List Int}(g:x∈w.ai.map (·.1))(a:s.ai[df (w.ai.map (·.1)) x]?=some p)(e:w.ai.length<=100)(b:s.ai.length<=100)(c:p.2.length<=900)
  (q:Q (.d ({s with ai:=s.ai.set (df (w.ai.map (·.1)) x) (iS p h)}:bc).d) S):Fn mv [w.d,s.d,.int h,(Rw.take x).d] S Q:=by
 refine bX ?_
 unfold xC
 symm
 apply ay (d:=.str x) rfl ?_
 have f:Op (settle S ({s with ai:=s.ai.set (df (w.ai.map (·.1)) x) (iS p h)}:bc).d S) λp=>Q p.1 p.2:=bW (aU _) (bc.low _) q
 exact wq g a e b c f
def yS{w:dj}{s:bc}{hd:D}{x:Str}{p:Int×List Int}(f:x∈w.ai.map (·.1))(a:s.ai[df (w.ai.map (·.1)) x]?=some p)(c:w.ai.length<=100)(b:s.ai.length<=100)
  (q:Q (.d ({s with ai:=s.ai.set (df (w.ai.map (·.1)) x) (gd p)}:bc).d) S):Fn mz [w.d,s.d,hd,(Rw.give x).d] S Q:=by
 refine bX ?_
 unfold wY
 symm
 apply ay (d:=.str x) rfl ?_
 have e:Op (settle S ({s with ai:=s.ai.set (df (w.ai.map (·.1)) x) (gd p)}:bc).d S) λp=>Q p.1 p.2:=bW (aU _) (bc.low _) q
 exact kZ f a c b e
end
section
variable{S:aI}{Q:Res->aI->Prop}
def yC(w:dj)(s:bc)(h:Nat)(t:Tr)(v:Int):Prop:=∀(S:aI) (Q:Res->aI->Prop),Q (.d (.int v)) S->Fn dz [w.d,s.d,.int h,t.d] S Q
def Puts(w:dj)(s:bc)(h:Nat)(x:Str)(v:Int)(s':bc):Prop:=∀(S:aI) (Q:Res->aI->Prop),Q (.d s'.d) S->Fn eZ [w.d,s.d,.int h,.str x,.int v] S Q
def yx{w:dj}{s:bc}{h:Int}{x y:Str}{p a:Int×List Int}(k:x∈w.ai.map (·.1))(i:y∈w.ai.map (·.1))(f:s.ai[df (w.ai.map (·.1)) x]?=some p)(e:w.ai.length<=100)(c:s.ai.length<=100)(g:a.2.length<=900)
  (b:(s.ai.set (df (w.ai.map (·.1)) x) (gd p))[df (w.ai.map (·.1)) y]?=some a)
  (q:Q (.d ({s with ai:=(s.ai.set (df (w.ai.map (·.1)) x) (gd p)).set (df (w.ai.map (·.1)) y) (iS a h)}:bc).d) S):Fn mX [w.d,s.d,.int h,(Rw.pass x y).d] S Q:=by
 refine bX ?_
 unfold xo
 symm
 apply ay (d:=.str x) rfl ?_
 apply kZ k f e c ?_
 apply ay (d:=.str y) rfl ?_
 have j:Op (settle S ({s with ai:=(s.ai.set (df (w.ai.map (·.1)) x) (gd p)).set (df (w.ai.map (·.1)) y) (iS a h)}:bc).d S) λp=>Q p.1 p.2:=bW (aU _) (bc.low _) q
 exact wq (s:={s with ai:=s.ai.set (df (w.ai.map (·.1)) x) (gd p)}) i b e (by simpa using c) g j
def AW{w:dj}{s s':bc}{h:Nat}{x:Str}{t:Tr}{v:Int}(b:yC w s h t v)(a:Puts w s h x v s')(q:Q (.d s'.d) S):Fn pY [w.d,s.d,.int h,(Rw.put x t).d] S Q:=by
 refine bX ?_
 unfold Ac
 symm
 apply ay (d:=.str x) rfl ?_
 apply ay (d:=t.d) rfl ?_
 apply b _ _ ?_
 refine a _ _ ?_
 exact bW (aU _) (bc.low _) q
def uY{w:dj}{s:bc}{h n:Nat}{t:Tr}{v:Int}{vs:List Int}{fs:List bV}{f:bV}(j:yC w s h t v)(i:s.af[h]?=some (vs,fs))(g:fs.getLast? =some f)(a:fs.length<=900)(e:s.af.length<=900)
  (q:Q (.d (if v=0 then({s with af:=s.af.set h (vs,fs.dropLast++ [{f with row:=n}])}:bc) else s).d) S):Fn jy [w.d,s.d,.int h,(Rw.unl t n).d] S Q:=by
 refine bX ?_
 unfold rO
 symm
 apply ay (d:=t.d) rfl ?_
 apply j _ _ ?_
 refine ij ?_
 dsimp only
 by_cases c:v=0
 ·rw[Qhq c] at q
  rw[Qeq c,Qhq rfl]
  symm
  apply ay (d:=.int n) rfl ?_
  have b:Op (settle S ({s with af:=s.af.set h (vs,fs.dropLast++ [{f with row:=n}])}:bc).d S) λp=>Q p.1 p.2:=bW (aU _) (bc.low _) q
  exact ow i g a e b
 ·rw[Quq c] at q
  rw[Qdq c,Quq (by decide)]
  apply cf ?_
  exact bW (aU _) (bc.low _) q
end
section
variable{S:aI}{Q:Res->aI->Prop}
def zA{w:dj}{s:bc}{h:Nat}{t:Tr}{v:Int}{vs:List Int}{fs:List bV}{f:bV}(l:yC w s h t v)(e:s.af[h]?=some (vs,fs))(c:fs.getLast? =some f)(i:fs.length<=900)(k:s.af.length<=900)
  (q:Q (.d ({s with af:=s.af.set h (vs,fs.dropLast++ [{f with told:=v}])}:bc).d) S):Fn mU [w.d,s.d,.int h,(Rw.tell t).d] S Q:=by
 refine bX ?_
 unfold xf
 symm
 apply ay (d:=t.d) rfl ?_
 apply l _ _ ?_
 apply il ?_
 refine bL e c ?_
 apply cg (cp ?_)
 apply⟨_,rfl,_,rfl,?_⟩
 refine⟨by show 1<=_;decide,?_⟩
 refine cN (by show 5<=_;decide) ?_
 symm
 have g:0<fs.length:=by
  cases fs with
  |nil=>cases c
  |cons a b=>simp
 have j:Op (settle S ({s with af:=s.af.set h (vs,fs.dropLast++ [{f with told:=v}])}:bc).d S) λp=>Q p.1 p.2:=bW (aU _) (bc.low _) q
 exact ie (f:={f with told:=v}) e g i k j
def Bd{w:dj}{s:bc}{h i:Nat}{vs:List Int}{fs:List bV}{f:bV}{r:Rm}{a:dI}{x:Str}(u:s.af[h]?=some (vs,fs))(j:fs.getLast? =some f)(o:f.room=i)(n:w.aj[i]?=some r)(c:s.aj[i]?=some a)(m:r.aa.length<=100)(v:r.aa.length=a.aa.length)(t:s.aj.length<=100)(g:x∈r.aa.map (·.1))
  (q:Q (.d ({s with aj:=s.aj.set i {a with aa:=a.aa.set (df (r.aa.map (·.1)) x) []}}:bc).d) S):Fn p5 [w.d,s.d,.int h,(Rw.all x).d] S Q:=by
 have e:=(lC g).1
 rw[lQm] at e
 refine bX ?_
 unfold An
 symm
 apply ay (d:=.str x) rfl ?_
 refine lW u j o n m g ?_
 refine eA rfl (aB (bg (aB (bg (bq ?_)))))
 generalize df (r.aa.map (·.1)) x=b at e q⊢
 symm
 apply⟨by decide,?_⟩
 have k:Op (settle S ({s with aj:=s.aj.set i {a with aa:=a.aa.set b []}}:bc).d S) λp=>Q p.1 p.2:=bW (aU _) (bc.low _) q
 exact ji (l:= []) c (by omega) (by omega) t k
end
section
variable{S:aI}{Q:Res->aI->Prop}
def HX:∀a:Rm,∃r,a.d=.tup (.str a.name::r):=λa=>⟨_,rfl⟩
def DR:∀a:Str×List Rw,∃r,zZ a=.tup (.str a.1::r):=λa=>⟨_,rfl⟩
def C2{w:dj}{s:bc}{h:Nat}{g:Option Str}{a c:Str}{t:Tr}{v:Int}{vs:List Int}{fs:List bV}{r:Rm}{f:dI}(x:yC w s h t v)(m:s.af[h]?=some (vs,fs))(k:a∈w.aj.map (·.name))(l:w.aj[df (w.aj.map (·.name)) a]?=some r)(b:s.aj[df (w.aj.map (·.name)) a]?=some f)(j:c∈r.ae.map (·.1))
  (z:w.aj.length<=100) (B:r.ae.length<=100) (C:s.aj.length<=100) (u:f.row.length<=900) (F:fs.length<=900) (A:s.af.length<=100)
  (q:Q (.d ({s with af:=s.af.set h (vs,fs++ [⟨(df (w.aj.map (·.name)) a:Nat),(df (r.ae.map (·.1)) c:Nat),0,v,0⟩]),aj:=s.aj.set (df (w.aj.map (·.name)) a) (fq f h)}:bc).d) S):Fn vJ [w.d,s.d,.int h,(Rw.do_ g a c t).d] S Q:=by
 refine bX ?_
 unfold Dw
 symm
 apply ay rfl ?_
 apply ay (d:=.str a) rfl ?_
 refine i7 (enc:=Rm.d) (nm:=(·.name)) HX (by omega) k ?_
 generalize df (w.aj.map (·.name)) a=i at l b q⊢
 symm
 apply ay rfl ?_
 refine ay (d:=r.d) (aZ (by rw[gQm,l];rfl)) ?_
 symm
 apply ay rfl ?_
 apply ay (d:=.str c) rfl ?_
 refine i7 (enc:=zZ) (nm:=(·.1)) DR (by omega) j ?_
 generalize df (r.ae.map (·.1)) c=dd at q⊢
 symm
 apply ay (d:=t.d) rfl ?_
 apply x _ _ ?_
 refine⟨by show 5<=_;decide,?_⟩
 symm
 apply ay rfl ?_
 refine ay (d:=BA (vs,fs)) (aZ (by rw[gQm,m];rfl)) ?_
 apply eA rfl (aB (bg (aB (bg (bq ?_)))))
 refine⟨by show 1<=_;decide,?_⟩
 refine cN (by simp only[lQm,Qnq,QGq];exact nQl (bo (by omega))) ?_
 symm
 have e:fs.map bV.d++ [D.tup [.int i,.int dd,.int 0,.int v,.int 0]]=(fs++ [(⟨i,dd,0,v,0⟩:bV)]).map bV.d:=by rw[Qzq];rfl
 rw[e]
 generalize y:fs++ [(⟨i,dd,0,v,0⟩:bV)]=nf at q⊢
 have n:h<s.af.length:=(gQs.mp m).1
 apply gU (vs:=vs) (fs:=nf) n (by omega) ?_
 have o:Op (settle S ({s with af:=s.af.set h (vs,nf),aj:=s.aj.set i (fq f h)}:bc).d S) λp=>Q p.1 p.2:=bW (aU _) (bc.low _) q
 exact rJ (s:={s with af:=s.af.set h (vs,nf)}) b (by show s.aj.length<=900;omega) u o
end
section
variable{S:aI}{Q:Res->aI->Prop}
def ik(free:Bool)(a:dI)(b:Nat)(h:Int):dI:=match a.aa[b]? with
 |some (p::l)=>if free then{a with aa:=a.aa.set b l} else{a with aa:=a.aa.set b l,within:=p.2,ag:=a.ag++ [h]}
 |_=>a
def yz{w:dj}{s:bc}{h i:Nat}{vs:List Int}{fs:List bV}{f:bV}{r:Rm}{a:dI}{x:Str}(K:s.af[h]?=some (vs,fs))(A:fs.getLast? =some f)(H:f.room=i)(v:w.aj[i]?=some r)(m:s.aj[i]?=some a)(F:r.aa.length<=100)(M:r.aa.length=a.aa.length)(I:s.aj.length<=100)(L:a.ag.length<=900)(y:x∈r.aa.map (·.1))
  (q:Q (.d ({s with aj:=s.aj.set i (ik (decide (r.ah="when free")) a (df (r.aa.map (·.1)) x) h)}:bc).d) S):Fn mF [w.d,s.d,.int h,(Rw.call x).d] S Q:=by
 have u:=(lC y).1
 rw[lQm] at u
 have t:i<s.aj.length:=(gQs.mp m).1
 refine bX ?_
 unfold wJ
 symm
 apply ay (d:=.str x) rfl ?_
 refine lW K A H v F y ?_
 refine eA rfl (aB (bg (aB (bg (bq ?_)))))
 generalize df (r.aa.map (·.1)) x=b at u q⊢
 have z:b<a.aa.length:=by omega
 obtain⟨n,k⟩:∃l,a.aa[b]?=some l:=⟨_,gQe z⟩
 have g:Op (settle S ({s with aj:=s.aj.set i (ik (decide (r.ah="when free")) a b h)}:bc).d S) λp=>Q p.1 p.2:=bW (aU _) (bc.low _) q
 unfold ik at g
 rw[k] at g
 symm
 apply ay rfl ?_
 refine ay (d:=a.d) (aZ (by rw[gQm,m];rfl)) ?_
 symm
 apply ay rfl ?_
 refine ay (d:=bZ n) (aZ (by rw[gQm,k];rfl)) ?_
 symm
 refine uQ ?_
 cases n with
 | nil=>
   apply aW (λ_=> ?_) (λc=>by cases c)
   have e:s.aj.set i a=s.aj:=by
     apply List.ext_getElem?
     intro j
     rw[List.getElem?_set]
     split
     · rename_i c
       subst c
       rw[m]
       first|done|simp[t]
     · rfl
   have B:({s with aj:=s.aj.set i a}:bc)=s:=by rw[e]
   have o:Op (settle S ({s with aj:=s.aj.set i a}:bc).d S) λp=>Q p.1 p.2:=g
   rw[B] at o
   exact o
 | cons p l=>
   apply aW (λc=>by cases c) (λ_=>cf ?_)
   apply il ?_
   apply cp ?_
   apply⟨_,rfl,cg ⟨_,rfl,?_⟩⟩
   have e:D.tup (je ((p::l).map pairD) (some 1) none)=bZ l:=by
     rw[show(some (1:Int))=some ((1:Nat):Int) from rfl,hZ (by simp)]
     rfl
   rw[e]
   refine ji m z (by omega) I ?_
   dsimp only at g
   generalize C:a.aa.set b l=nb at g⊢
   symm
   apply ay rfl ?_
   refine ay (d:=r.d) (aZ (by rw[gQm,v];rfl)) ?_
   symm
   apply ay (d:=.str r.ah) rfl ?_
   refine hG ?_
   dsimp only
   by_cases c:r.ah="when free"
   · rw[Qeq c] at g⊢
     rw[Qhq rfl] at g
     rw[Qhq rfl]
     symm
     exact g
   · rw[Qdq c] at g⊢
     rw[Quq (by decide)] at g
     rw[Quq (by decide)]
     apply cf ?_
     refine ay rfl ?_
     have G:((s.aj.set i {a with aa:=nb}).map dI.d)[i]?=some ({a with aa:=nb}:dI).d:=by rw[gQm,Qyq t];rfl
     symm
     refine ay (d:=({a with aa:=nb}:dI).d) (aZ G) ?_
     apply eA rfl (aB (bg (aB (bg (aB (bg (aB (bg (aB (bg (bq ?_)))))))))))
     apply ay (d:=pairD p) yf ?_
     apply ay (d:=.int p.2) rfl ?_
     refine⟨by show 1<=_;decide,?_⟩
     refine cN (by simp only[lQm,Qnq,QGq];exact nQl (bo (by omega))) ?_
     symm
     refine⟨by show 5<=_;decide,?_⟩
     symm
     have J:D.tup [cX a.vals,.int p.2,cX a.row,.tup (a.ag.map D.int++ [.int h]),.tup (nb.map bZ)]=({a with aa:=nb,within:=p.2,ag:=a.ag++ [(h:Int)]}:dI).d:=by simp[dI.d,cX]
     rw[J]
     have o:Op (settle S ({s with aj:=(s.aj.set i {a with aa:=nb}).set i {a with aa:=nb,within:=p.2,ag:=a.ag++ [(h:Int)]}}:bc).d S) λp=>Q p.1 p.2:=by rw[List.set_set];exact g
     exact di (s:={s with aj:=s.aj.set i {a with aa:=nb}}) (by simpa using t) (by simp;omega) o
end
end W28
namespace DL
open PySem PySem.Spec L2
def kD{α:Type}{u:dt}{S:aI}{js:List (Option Nat)}{i:vT}{g:mf}{t:jA}{o:bA}{Q:List D->aI->Prop}(P:dt->Prop)(enc G:α->D)(c:α->Bool)(C:P (m9 js u)) (h:E i u S λp f=>∃xs:List α,p.1=xs.map enc/\p.2 f/\xs.length<=1000∧
   (∀x∈xs,∀a,P a->Tg g (enc x) a f λb S2=>S2=f/\P b/\E t b f λk z=>z=f/\k=c x/\(c x=true->E o b f λy w=>y=G x/\w=f))/\Q ((xs.filter c).map G) f):E (dC js i g t o) u S Q:=by
 refine q0 (h.mono λp f F=> ?_)
 obtain⟨xs,A,M,W,N,q⟩:=F
 refine⟨λn a s j=>s=f/\j=((xs.take n).filter c).map G/\P a,⟨rfl,rfl,C⟩,λn a s j h=>by rw[h.1];exact M,λn d a s j r h=> ?_,λa s j h=> ?_⟩
 ·obtain⟨rfl,rfl,h3⟩:=h
  have r:p.1[n]?=some d:=r
  rw[A,gQm] at r
  obtain⟨x,m,rfl⟩:=oQm.mp r
  obtain⟨b,S2,I,rfl,h4,h5⟩:=N x (mQg m) a h3
  refine⟨b,S2,I,?_⟩
  refine h5.mono λk z v=> ?_
  obtain⟨H,L,J⟩:=v
  subst H L
  have U:=(gQs.mp m).1
  have B:((xs.take (n+1)).filter c).map G=((xs.take n).filter c).map G++if c x=true then [G x] else []:=by
   rw[QYq,m]
   cases l:c x <;>simp[l]
  by_cases l:c x=true
  ·rw[Qhq l]
   refine(J l).mono λy w v=> ?_
   obtain⟨K,R⟩:=v
   subst K R
   refine⟨?_,rfl,?_,h4⟩
   ·rw[lQm]
    have:=List.length_filter_le c (xs.take n)
    rw[Qxq] at this
    exact bo (by omega)
   ·rw[B,Qhq l]
  ·rw[Quq l]
   refine⟨rfl,?_,h4⟩
   rw[B,Quq l,List.append_nil]
 ·obtain⟨rfl,rfl,_⟩:=h
  have e:p.1.length=xs.length:=by rw[A,lQm]
  show Q (((xs.take p.1.length).filter c).map G) _
  rw[e,QEq]
  exact q
end DL
namespace W28
open PySem PySem.Spec L2 DL
section
variable{S:aI}{Q:Res->aI->Prop}
def iD(l:List (Int×Int))(t h:Int):List (Int×Int):=l.take (l.filter λp=>decide (p.1<=t)).length++ [(t,h)]++l.drop (l.filter λp=>decide (p.1<=t)).length
def yP{w:dj}{s:bc}{h i:Nat}{vs:List Int}{fs:List bV}{f:bV}{r:Rm}{j:dI}{x u:Str}{t:Tr}{v:Int}{line:List (Int×Int)}(hs:s.af[h]?=some (vs,fs))(P:fs.getLast? =some f)(X:f.room=i)(K:w.aj[i]?=some r)(m:s.aj[i]?=some j)(R:r.aa.length<=100)(l2:r.aa.length=j.aa.length)(Z:s.aj.length<=100)(L:x∈r.aa.map (·.1))
  (y:r.aa[df (r.aa.map (·.1)) x]?=some (x,u)) (k:j.aa[df (r.aa.map (·.1)) x]?=some line) (b4:line.length<=900) (G:yC w s h t v)
  (q:Q (.d ({s with aj:=s.aj.set i (c7 {j with aa:=j.aa.set (df (r.aa.map (·.1)) x) (iD line (if u="turns" then v else 0) h)})}:bc).d) S):Fn ml [w.d,s.d,.int h,(Rw.wait x t).d] S Q:=by
 have C:=(lC L).1
 rw[lQm] at C
 have N:i<s.aj.length:=(gQs.mp m).1
 refine bX ?_
 unfold xN
 symm
 apply ay (d:=.str x) rfl ?_
 refine lW hs P X K R L ?_
 refine eA rfl (aB (bg (aB (bg (bq ?_)))))
 generalize df (r.aa.map (·.1)) x=b at C q y k⊢
 have W:b<j.aa.length:=by omega
 symm
 apply ay rfl ?_
 refine ay (d:=r.d) (aZ (by rw[gQm,K];rfl)) ?_
 symm
 apply ay rfl ?_
 refine ay (d:=Ba (x,u)) (aZ (by rw[gQm,y];rfl)) ?_
 symm
 apply ay (d:=.str u) rfl ?_
 refine hG ?_
 dsimp only
 have z:∀g:Int,g=(if u="turns" then v else 0)->T (aK (bu 7 (aG aS (aG aS (aG aS (aG aS (av 1) (cF (.int 0))) (av 4)) (cF (.int 4))) (av 5)))
   (aK (bu 8 (kT (ni (dC [none,none,some 6] (sm (cq (av 7))) (ju (nG 2 (aN (cy 0) (aN (cy 1) dQ)))) (aV (aG Kp (av 0) (av 2))) (av 0)))))
   (aK (bu 9 (aF eS (au (av 1) (au (av 4) (au (av 5) (au (aG cJ (aG cJ (pD (av 7) pU (pM (av 8))) (aX (au (aX (au (av 6) (au (av 2) aA))) aA))) (pD (av 7) (pM (av 8)) pU)) aA))))))
   (cK (aF oq (au (av 9) (au (av 4) aA)))))))
   [some w.d,some s.d,some (.int h),some (Rw.wait x t).d,some (.int i),some (.int b),some (.int g),none,none,none] S (λo=>match o with
   |.nx _ A=>Op (settle S .non A) λp=>Q p.1 p.2|.rt d A=>Op (settle S d A) λp=>Q p.1 p.2|.rl l A=>Op (fj S l A) λp=>Q p.1 p.2|_=>False):=by
  intro g I
  rw[←I] at q
  symm
  apply ay rfl ?_
  refine ay (d:=j.d) (aZ (by rw[gQm,m];rfl)) ?_
  symm
  apply ay rfl ?_
  refine ay (d:=bZ line) (aZ (by rw[gQm,k];rfl)) ?_
  symm
  apply kD (α:=Int×Int) (λB=>∃a b,B= [a,b,some (.int g)]) pairD (λp=>.int p.1) (λp=>decide (p.1<=g)) ⟨none,none,rfl⟩ ?_
  refine cU (ds:=line.map pairD) ?_
  refine⟨line,rfl,trivial,by omega,λp C B F=> ?_,?_⟩
  ·obtain⟨a,b,rfl⟩:=F
   refine eA rfl (aB (bg (aB (bg (bq ?_)))))
   apply⟨rfl,⟨_,_,rfl⟩,?_⟩
   apply⟨rfl,rfl,λ_=> ?_⟩
   exact⟨rfl,rfl⟩
  have Y:((line.filter λp=>decide (p.1<=g)).map λp=>D.int p.1).length=(line.filter λp=>decide (p.1<=g)).length:=lQm ..
  have H:=List.length_filter_le (λp=>decide (p.1<=g)) line
  unfold iD at q
  symm
  rw[Y]
  generalize (line.filter λp=>decide (p.1<=g)).length=n at q H⊢
  apply il ?_
  apply cg (cp ?_)
  refine⟨_,rfl,line.map pairD,rfl,?_⟩
  rw[Cu (by rw[lQm];exact H)]
  symm
  refine⟨by show 2<=_;decide,?_⟩
  symm
  refine⟨by show 1<=_;decide,?_⟩
  refine cN (by simp only[lQm,Qxq,Qnq,QGq];exact nQl (bo (by omega))) ?_
  apply il ?_
  apply cp ?_
  refine⟨_,rfl,cg ⟨line.map pairD,rfl,?_⟩⟩
  rw[hZ (by rw[lQm];exact H)]
  refine cN (by simp only[lQa,lQm,Qxq,List.length_drop,Qnq,QGq];exact nQl (bo (by omega))) ?_
  symm
  have e:D.tup ((line.map pairD).take n++ [D.tup [.int g,.int h]]++(line.map pairD).drop n)=bZ (line.take n++ [(g,(h:Int))]++line.drop n):=by
   simp only[bZ,Qzq,List.map_take,List.map_drop]
   rfl
  rw[e]
  generalize line.take n++ [(g,(h:Int))]++line.drop n=nl at q⊢
  apply ji m W (by omega) Z ?_
  have J:Op (settle S ({s with aj:=s.aj.set i (c7 {j with aa:=j.aa.set b nl})}:bc).d S) λp=>Q p.1 p.2:=bW (aU _) (bc.low _) q
  generalize M:({j with aa:=j.aa.set b nl}:dI)=nr at J⊢
  have U:Op (settle S ({s with aj:=(s.aj.set i nr).set i (c7 nr)}:bc).d S) λp=>Q p.1 p.2:=by rw[List.set_set];exact J
  exact wO (s:={s with aj:=s.aj.set i nr}) (Qyq N) (by simp;omega) U
 by_cases c:u="turns"
 ·rw[Qeq c,Qhq rfl]
  symm
  apply ay (d:=t.d) rfl ?_
  refine G _ _ ?_
  exact z v (by rw[Qhq c])
 ·rw[Qdq c,Quq (by decide)]
  refine cf ?_
  exact z 0 (by rw[Quq c])
end
end W28
namespace DL
open PySem PySem.Spec L2
section
variable{Γ:dt}{S:aI}
def KW{a:List (Str×Str)}{g:bA}{Q:D->aI->Prop}(h:E g Γ S λy b=>∃x nm,y=.str x/\a.lookup x=some nm/\Q (.fn nm) b):E (Kc a g) Γ S Q:=by
 obtain⟨y,b,c,x,nm,rfl,e2,q⟩:=h
 exact⟨_,b,by unfold Kc;rw[c];simp only[Qbq];rw[e2];rfl,q⟩
def FV{i:Nat}{T:List (Str×dE)}{g:gW}{x:Str}{F:dE}{Q:D->aI->Prop}(b:Γ[i]?=some (some (.fn x)))(c:T.lookup x=some F)(h:E (aF F g) Γ S Q):E (rf i T g) Γ S Q:=by
 obtain⟨y,d,a,q⟩:=h
 exact⟨_,d,by unfold rf;rw[b];show(T.lookup x).bind _=_;rw[c];exact a,q⟩
def G_{f:bA}{Q:D->aI->Prop}(h:E f Γ S λd a=>∃k,d=.bl k/\Q (.bl (!k)) a):E (FD f) Γ S Q:=by
 obtain⟨d,a,b,k,rfl,q⟩:=h
 exact⟨_,a,by unfold FD;rw[b];rfl,q⟩
def wc{a:Bool}{x:D}{Q:D->Prop}(q:Q (.bl (if a then !isNone x else isNone x))):Op (sJ a S x .non) Q:=⟨_,rfl,q⟩
end
def tw{α:Type}{xs:List α}{a b:α}:kW (xs++ [a,b]) (-2)=some a:=by
 unfold kW Bx
 rw[Quq (by omega),Qhq (by simp;omega)]
 simp only[Qbq]
 rw[show((-2:Int)+((xs++ [a,b]).length:Int)).toNat=xs.length by simp;omega]
 simp
end DL
namespace W28
open PySem PySem.Spec L2 DL
section
variable{S:aI}{Q:Res->aI->Prop}
def Lo:Rw->dE
 |.put _ _=>pY
 |.unl _ _=>jy
 |.go _=>uC
 |.do_ _ _ _ _=>vJ
 |.wait _ _=>ml
 |.call _=>mF
 |.all _=>p5
 |.tell _=>mU
 |.take _=>mv
 |.give _=>mz
 |.pass _ _=>mX
 |.say _=>pT
def Rw.kind:Rw->Str
 |.put _ _=>"put"
 |.unl _ _=>"unless"
 |.go _=>"go"
 |.do_ _ _ _ _=>"do"
 |.wait _ _=>"wait"
 |.call _=>"call"
 |.all _=>"all"
 |.tell _=>"tell"
 |.take _=>"take"
 |.give _=>"give"
 |.pass _ _=>"pass"
 |.say _=>"say"
def Rw.d_kind(r:Rw):∃l,r.d=.tup (.str r.kind::l):=by cases r <;>exact⟨_,rfl⟩
def FT(r:Rw):∃nm,kN.lookup r.kind=some nm/\rN.lookup nm=some (Lo r):=by
 cases r
 ·exact⟨"by_put",rfl,rfl⟩
 ·exact⟨"by_unless",rfl,rfl⟩
 ·exact⟨"by_go",rfl,rfl⟩
 ·exact⟨"by_do",rfl,rfl⟩
 ·exact⟨"by_wait",rfl,rfl⟩
 ·exact⟨"by_call",rfl,rfl⟩
 ·exact⟨"by_all",rfl,rfl⟩
 ·exact⟨"by_tell",rfl,rfl⟩
 ·exact⟨"by_take",rfl,rfl⟩
 ·exact⟨"by_give",rfl,rfl⟩
 ·exact⟨"by_pass",rfl,rfl⟩
 ·exact⟨"by_say",rfl,rfl⟩
def Gv(w:dj)(s:bc)(h:Nat)(r:Rw)(s':bc):Prop:=∀(S:aI) (Q:Res->aI->Prop),Q (.d s'.d) S->Fn (Lo r) [w.d,s.d,.int h,r.d] S Q
def w4{w:dj}{s s':bc}{h:Nat}{r:Rw}(hd:Gv w s h r s')(q:Q (.d s'.d) S):Fn iX [w.d,s.d,.int h,r.d] S Q:=by
 obtain⟨b,e,c⟩:=FT r
 obtain⟨l,a⟩:=r.d_kind
 refine bX ?_
 unfold t7
 apply cv (Gn (KW ?_))
 rw[a]
 refine ay (d:=.str r.kind) yf ?_
 rw[←a]
 refine⟨_,b,rfl,e,?_⟩
 apply rg (FV (x:=b) rfl c ?_)
 refine hd _ _ ?_
 exact bW (aU _) (bc.low _) q
def o9{w:dj}{s s':bc}{h i:Nat}{vs:List Int}{e:List bV}{b f:bV}{l:dI}{pr:List Rw}{g:Option Str}{p u:Str}{t:Tr}(r:s.af[h]?=some (vs,e++ [b,f]))(A:f.room=i)(n:s.aj[i]?=some l)(B:s.aj.length<=900)(z:s.af.length<=900)
  (v:progOf w h b=some pr) (C:1<=b.row) (k:pr[(b.row-1).toNat]?=some (.do_ g p u t))
  (j:∀a:bc,a={s with aj:=s.aj.set i (c7 l),af:=s.af.set h (vs,e++ [b])}->match g with|none=>s'=a|some x=>Puts w a h x f.told s')
  (q:Q (.d s'.d) S):Fn iT [w.d,s.d,.int h] S Q:=by
 have y:h<s.af.length:=(gQs.mp r).1
 refine bX ?_
 unfold t5
 symm
 apply ay rfl ?_
 refine ay (d:=BA (vs,e++ [b,f])) (aZ (by rw[gQm,r];rfl)) ?_
 refine eA rfl (aB (bg (aB (bg (bq ?_)))))
 have m:(e++ [b,f]).map bV.d=e.map bV.d++ [b.d,f.d]:=by simp
 dsimp only
 rw[m]
 symm
 apply qh ?_
 refine⟨1,rfl,?_⟩
 refine ay (d:=f.d) (wM (by simp)) ?_
 refine eA rfl (aB (bg (aB (bg (aB (bg (aB (bg (aB (bg (bq ?_)))))))))))
 rw[A]
 symm
 apply wO n B ?_
 apply il ?_
 apply cg (cp (qh ?_))
 refine⟨1,rfl,_,rfl,_,rfl,?_⟩
 rw[x8 (by simp)]
 have o:D.tup ((e.map bV.d++ [b.d,f.d]).dropLast)=.tup ((e++ [b]).map bV.d):=by
  rw[show e.map bV.d++ [b.d,f.d]=(e.map bV.d++ [b.d])++ [f.d] by simp,List.dropLast_concat]
  simp
 rw[o]
 symm
 refine gU (s:={s with aj:=s.aj.set i (c7 l)}) y z ?_
 have j:=j _ rfl
 dsimp only at j⊢
 generalize ({s with aj:=s.aj.set i (c7 l),af:=s.af.set h (vs,e++ [b])}:bc)=a at j⊢
 symm
 apply qh ?_
 refine⟨2,rfl,?_⟩
 apply ay (d:=b.d) tw ?_
 apply eJ v ?_
 apply qh ?_
 refine⟨2,rfl,?_⟩
 apply ay (d:=b.d) tw ?_
 apply ay (d:=.int b.row) rfl ?_
 refine ay (d:=(Rw.do_ g p u t).d) (kE (by omega) (by rw[gQm,k];rfl)) ?_
 symm
 apply ay (d:=G5 g) rfl ?_
 refine wc ?_
 cases g with
 | none=>
   dsimp only at j
   subst j
   apply aW (λ_=> ?_) (λc=>by cases c)
   exact bW (aU _) (bc.low _) q
 | some x=>
   apply aW (λc=>by cases c) (λ_=>cf ?_)
   apply ay (d:=.str x) rfl ?_
   refine j _ _ ?_
   exact bW (aU _) (bc.low _) q
end
section
variable{S:aI}{Q:Res->aI->Prop}
def Ka(h:Nat):Option Int->D
 |none=>.non
 |some v=>.tup [.int h,.int v]
def EY(h:Nat)(e:Option Int):cD 0 (Ka h e)=true:=by cases e <;>rfl
def Ib(s:bc)(h:Nat)(e:Option Int):D:=.tup [s.d,Ka h e]
def pV(s:bc)(h:Nat)(e:Option Int):cD 0 (Ib s h e)=true:=by
 simp only[Ib,cD,bS,EY,bc.low,Bool.and_true]
def rZ(w:dj)(s:bc)(h:Nat)(s':bc)(e:Option Int):Prop:=∀(S:aI) (Q:Res->aI->Prop),Q (.d (Ib s' h e)) S->Fn j0 [w.d,s.d,.int h] S Q
def Bp{w:dj}{s:bc}{h i:Nat}{vs:List Int}{fs:List bV}{f:bV}{a:dI}(m:s.af[h]?=some (vs,fs))(c:fs.getLast? =some f)(j:f.room=i)(b:s.aj[i]?=some a)(e:a.within≠h)(l:s.aj.length<=900)(g:a.row.length<=900):
  rZ w s h {s with aj:=s.aj.set i (fq a h)} none:=by
 intro S Q q
 refine bX ?_
 unfold mj
 symm
 apply bL m c ?_
 apply ay (d:=.int f.room) rfl ?_
 refine lz ?_
 dsimp only
 rw[Qdq (show¬f.room= -1 by omega),j]
 show if (true=true) then _ else _
 rw[Qhq rfl]
 symm
 apply ay rfl ?_
 refine ay (d:=a.d) (aZ (by rw[gQm,b];rfl)) ?_
 symm
 apply ay (d:=.int a.within) rfl ?_
 refine lz ?_
 dsimp only
 rw[Qdq e]
 show if (true=true) then _ else _
 rw[Qhq rfl]
 symm
 apply rJ b l g ?_
 refine⟨by show 2<=_;decide,?_⟩
 exact bW (d:=Ib _ h none) (λk z=>(nomatch z)) (pV _ _ _) q
def Here(s:bc)(h:Nat)(f:bV):Prop:=f.room= -1\/∃(i:Nat) (a:dI),f.room=i/\s.aj[i]?=some a/\a.within=h
def tU{w:dj}{s:bc}{h:Nat}{f:bV}{a b c d:Option D}{Q:Bool->aI->Prop}(k:Here s h f)(q:Q false S):E (xw (aV (aG (iJ true) (av 4) (cF (.int (-1))))) (aV (aG (iJ true) (aG aS (aG aS (aG aS (av 1) (cF (.int 0))) (av 4)) (cF (.int 1))) (av 2)))) [some w.d,some s.d,some (.int h),some f.d,some (.int f.room),a,b,c] S Q:=by
 rcases k with e|⟨i,j,e,g,l⟩
 ·symm
  refine lz ?_
  dsimp only
  rw[Qeq e]
  show if (false=true) then _ else _
  rw[Quq (by decide)]
  exact q
 ·symm
  refine lz ?_
  dsimp only
  rw[Qdq (show¬f.room= -1 by omega),e]
  show if (true=true) then _ else _
  rw[Qhq rfl]
  symm
  apply ay rfl ?_
  refine ay (d:=j.d) (aZ (by rw[gQm,g];rfl)) ?_
  symm
  apply ay (d:=.int j.within) rfl ?_
  refine lz ?_
  dsimp only
  rw[Qeq l]
  exact q
def wU{w:dj}{s s':bc}{h:Nat}{vs:List Int}{fs:List bV}{f:bV}{pr:List Rw}(i:s.af[h]?=some (vs,fs))(g:fs.getLast? =some f)(e:Here s h f)(b:progOf w h f=some pr)(a:f.row=pr.length)
  (he:∀(S:aI) (Q:Res->aI->Prop),Q (.d s'.d) S->Fn iT [w.d,s.d,.int h] S Q):rZ w s h s' none:=by
 intro S Q q
 refine bX ?_
 unfold mj
 symm
 apply bL i g ?_
 refine ay (d:=.int f.room) rfl ?_
 refine cv (gV (tU (d:=none) e ?_))
 apply aW (λc=>by cases c) (λ_=>cf ?_)
 apply eJ b ?_
 apply ay (d:=.int f.row) rfl ?_
 refine ij ?_
 dsimp only
 rw[lQm,Qeq a,Qhq rfl]
 symm
 apply he _ _ ?_
 refine⟨by show 2<=_;decide,?_⟩
 exact bW (d:=Ib _ h none) (λk z=>(nomatch z)) (pV _ _ _) q
def Hs(w:dj)(s:bc)(h:Nat)(r:Rw)(e:Option Int):Prop:=match r with
 |.say t=>∃v,e=some v/\yC w s h t v
 |_=>e=none
def wH{w:dj}{s s':bc}{h:Nat}{vs:List Int}{fs:List bV}{f:bV}{pr:List Rw}{r:Rw}{e:Option Int}(m:s.af[h]?=some (vs,fs))(j:fs.getLast? =some f)(x:Here s h f)(n:progOf w h f=some pr)(u:0<=f.row)(b:pr[f.row.toNat]?=some r)(y:fs.length<=900)(A:s.af.length<=900)
  (a:Hs w s h r e) (hd:Gv w {s with af:=s.af.set h (vs,fs.dropLast++ [{f with row:=f.row+1}])} h r s'):rZ w s h s' e:=by
 intro S Q q
 have B:=(gQs.mp b).1
 refine bX ?_
 unfold mj
 symm
 apply bL m j ?_
 refine ay (d:=.int f.room) rfl ?_
 refine cv (gV (tU (d:=none) x ?_))
 apply aW (λc=>by cases c) (λ_=>cf ?_)
 apply eJ n ?_
 apply ay (d:=.int f.row) rfl ?_
 refine ij ?_
 dsimp only
 rw[lQm,Qdq (show¬f.row=(pr.length:Int) by omega),Quq (by decide)]
 apply cf ?_
 refine ay (d:=.int f.row) rfl ?_
 refine ay (d:=r.d) (kE u (by rw[gQm,b];rfl)) ?_
 symm
 obtain⟨l,C⟩:=r.d_kind
 have g:T (cK (aX (au (aF iX (au (av 0) (au (aF jl (au (av 1) (au (av 2) (au (aG cJ (aG aS (av 3) (cF (.int 2))) (cF (.int 1))) aA)))) (au (av 2) (au (av 6) aA))))) (au (av 7) aA))))
   [some w.d,some s.d,some (.int h),some f.d,some (.int f.room),some (.tup (pr.map Rw.d)),some r.d,some (Ka h e)] S (λo=>match o with
   |.nx _ i=>Op (settle S .non i) λp=>Q p.1 p.2|.rt d i=>Op (settle S d i) λp=>Q p.1 p.2|.rl l i=>Op (fj S l i) λp=>Q p.1 p.2|_=>False):=by
  symm
  apply ay (d:=.int f.row) rfl ?_
  apply ow m j y A ?_
  apply w4 hd ?_
  refine⟨by show 2<=_;decide,?_⟩
  exact bW (d:=Ib _ h e) (λk z=>(nomatch z)) (pV _ _ _) q
 cases r with
 | say t=>
   obtain⟨v,rfl,hv⟩:=a
   apply ay (d:=.str "say") rfl ?_
   refine hG ?_
   dsimp only
   rw[Qeq rfl,Qhq rfl]
   symm
   apply ay (d:=t.d) rfl ?_
   apply hv _ _ ?_
   refine⟨by show 2<=_;decide,?_⟩
   exact g
 | _=>
   have a:e=none:=a
   subst a
   apply ay rfl ?_
   refine hG ?_
   dsimp only
   refine aW (λc=>absurd (QZq c) (by decide +kernel)) (λ_=>cf ?_)
   exact g
end
end W28
namespace DL
open PySem PySem.Spec L2
section
variable{Γ:dt}{S:aI}
def Ec{f:bA}{g:fE}{Q:D->aI->Prop}(h:E f Γ S λx b=>∃k a,x=.ref k/\b[k]?=some (.lst a)/\E g Γ b λp S2=>∃ds,S2[k]?=some (.lst ds)/\(p.2.isL=false/\ds.length+p.1.length<=sizeLine)/\Q .non (S2.set k (.lst (ds++p.1)))):E (uj f g) Γ S Q:=by
 obtain⟨x,b,c,k,a,rfl,h1,p,S2,e2,ds,h2,h3,q⟩:=h
 exact⟨_,_,by unfold uj;rw[c];simp only[Qbq,e2,h1,h2];rw[Qhq h3],q⟩
end
def yX{S a:aI}{k:Nat}{ds:List D}{Q:Res×aI->Prop}(b:m8 S a)(e:S.length<=k)(c:a[k]?=some (.lst ds))(d:bS S.length ds=true)(q:Q (.l ds,a.take S.length)):Op (settle S (.ref k) a) Q:=by
 refine⟨_,?_,q⟩
 unfold settle
 rw[Qhq b]
 show(if k<S.length then _ else _)=_
 rw[Quq (by omega),c]
 show(if bS S.length ds=true then _ else _)=_
 rw[Qhq d]
def vK{n:Nat}(h:n<=100000):n<=sizeLine:=QAq h (by decide)
theorem ef:∀a:List Int,m3 (a.map D.int)=some (a.map V.int)
 | []=>rfl
 |s::a=>by simp only[QDq,m3,ua,Qbq];rw[ef a];rfl
def jB{x:Int}{b:List Int}:Dt (.int x) (b.map V.int)=decide (x∈b):=by
 induction b with
 |nil=>rfl
 | cons a b d=>
   show(nh (.int a) (.int x)||Dt (.int x) (b.map V.int))=_
   rw[d]
   simp only[nh,Qsq]
   by_cases c:a=x
   · subst c;simp
   · have e:¬x=a:=λz=>c z.symm
     simp[c,e]
end DL
namespace W28
open PySem PySem.Spec L2 DL
section
variable{S:aI}{Q:Res->aI->Prop}
def xW{S b:aI}(x:pk S b):b.take S.length=S:=by
 apply List.ext_getElem?
 intro j
 by_cases a:j<S.length
 ·rw[List.getElem?_take_of_lt a]
  exact x.eq j a
 ·rw[List.getElem?_eq_none (by rw[Qxq];omega),List.getElem?_eq_none (by omega)]
def Hk{S a:aI}{ds:List D}{Q:Res->aI->Prop}(x:pk S a)(c:bS 0 ds=true)(q:Q (.l ds) S):Op (fj S ds a) λp=>Q p.1 p.2:=
 qE ⟨x.len,λk o b e=>.inl (by rw[←x.eq k b];exact e)⟩ (xW x) (i4 c) q
def Gy{S b:aI}{k:Nat}{ds:List D}{Q:Res->aI->Prop}(x:pk S b)(a:S.length<=k)(c:b[k]?=some (.lst ds))(d:bS 0 ds=true)(q:Q (.l ds) S):Op (settle S (.ref k) b) λp=>Q p.1 p.2:=
 yX ⟨x.len,λk o a e=>.inl (by rw[←x.eq k a];exact e)⟩ a c (i4 d) (by rw[xW x];exact q)
def oP{l:List (Int×Int)}(f:l.length<=1000)(q:Q (.l ((l.map (·.2)).map D.int)) S):Fn jf [bZ l] S Q:=by
 refine bX ?_
 unfold tO
 symm
 apply lG (α:=Int×Int) (λc=>∃a b,c= [a,b]) pairD (λp=>.int p.2) ⟨none,none,rfl⟩ ?_
 refine cU (ds:=l.map pairD) ?_
 refine⟨l,rfl,trivial,f,λp g c d=> ?_,?_⟩
 ·obtain⟨a,b,rfl⟩:=d
  refine eA rfl (aB (bg (aB (bg (bq ?_)))))
  apply⟨rfl,⟨_,_,rfl⟩,?_⟩
  exact⟨rfl,rfl⟩
 ·have e:l.map (λp=>D.int p.2)=(l.map (·.2)).map D.int:=by rw[QPq];rfl
  rw[e]
  exact Cz (bT λ_ _=>rfl) q
def cB(r:dI):List Int:=r.row++r.ag++r.aa.flatMap λl=>l.map (·.2)
def held(s:bc):List Int:=s.ai.flatMap (·.2)++s.aj.flatMap cB
theorem kb{α d:Type}{f:α->List d}{n:Nat}:∀{l:List α},(∀a∈l,(f a).length<=n)->(l.flatMap f).length<=n*l.length
 | [],_=>by simp
 | a::l,h=>by
   have e:=h a (QBq ..)
   have g:=kb (f:=f) (l:=l) λb c=>h b (Qpq _ c)
   rw[QSq,lQa,Qnq,Nat.mul_add]
   omega
def fJ{α b:Type}{f:α->List b}{l:List α}{n:Nat}{a:α}(h:l[n]?=some a):(l.take (n+1)).flatMap f=(l.take n).flatMap f++f a:=by
 rw[QYq,h]
 simp
def nZ{s:bc}{n:Nat}(P:n<=100)(b1:s.ai.length<=100)(b2:s.aj.length<=20)(N:∀p∈s.ai,p.2.length<=n)(L:∀r∈s.aj,r.row.length<=n/\r.ag.length<=n/\r.aa.length<=10/\∀l∈r.aa,l.length<=n)
  (q:Q (.l ((held s).map D.int)) S):Fn ed [s.d] S Q:=by
 have Y:∀o:List D,pk S (S++ [.lst o]):=λo=>pk.refl.app
 have G:∀r∈s.aj,∀j:Nat,((r.aa.take j).flatMap λl=>l.map (·.2)).length<=1000:=λr G j=>by
  obtain⟨_,_,U,R⟩:=L r G
  have F:=kb (f:=λl:List (Int×Int)=>l.map (·.2)) (n:=n) (l:=r.aa.take j) λl u=>by rw[lQm];exact R l (List.mem_of_mem_take u)
  have C:(r.aa.take j).length<=10:=by rw[Qxq];omega
  have X:n*(r.aa.take j).length<=100*10:=Nat.mul_le_mul P C
  omega
 have K:∀r∈s.aj,(cB r).length<=1200:=λr h=>by
  have J:=G r h r.aa.length
  obtain⟨h2,U,_⟩:=L r h
  rw[QEq] at J
  simp only[cB,lQa]
  omega
 have y:∀j:Nat,((s.ai.take j).flatMap (·.2)).length<=10000:=λj=>by
  have F:=kb (f:=λp:Int×List Int=>p.2) (n:=n) (l:=s.ai.take j) λl u=>N l (List.mem_of_mem_take u)
  have C:(s.ai.take j).length<=100:=by rw[Qxq];omega
  have X:n*(s.ai.take j).length<=100*100:=Nat.mul_le_mul P C
  omega
 have I:∀j:Nat,((s.aj.take j).flatMap cB).length<=24000:=λj=>by
  have F:=kb (f:=cB) (n:=1200) (l:=s.aj.take j) λl u=>K l (List.mem_of_mem_take u)
  have C:(s.aj.take j).length<=20:=by rw[Qxq];omega
  omega
 refine bX ?_
 unfold jY
 symm
 refine⟨by decide,?_⟩
 apply cv (mT (AU ?_))
 refine ay rfl ?_
 refine cU (ds:=s.ai.map yt) ?_
 refine⟨λj k v=>(∃a b c d e f g,k= [some s.d,some (.ref S.length),a,b,c,d,e,f,g])/\v=S++ [.lst (((s.ai.take j).flatMap (·.2)).map D.int)],⟨⟨_,_,_,_,_,_,_,rfl⟩,rfl⟩,λ_ _ _ _=>trivial,?_,?_⟩
 ·rintro j d k v t ⟨⟨a,b,c,H,e,f,g,rfl⟩,rfl⟩
  have t:(s.ai.map yt)[j]?=some d:=t
  rw[gQm] at t
  obtain⟨p,M,rfl⟩:=oQm.mp t
  refine eA rfl (aB (bg (aB (bg (bq ?_)))))
  apply DJ (Ec ?_)
  apply⟨_,_,rfl,bM,?_⟩
  refine cU (ds:=p.2.map D.int) ?_
  refine⟨_,bM,⟨rfl,?_⟩,⟨_,_,_,_,_,_,_,rfl⟩,?_⟩
  ·have:=y j
   have:=N p (mQg M)
   simp only[lQm]
   exact vK (by omega)
  ·rw[fJ M,Qzq]
   simp
 rintro k v ⟨⟨a,b,c,H,e,f,g,rfl⟩,rfl⟩
 have u:(s.ai.map yt).length=s.ai.length:=lQm ..
 rw[u,QEq]
 apply cv (mT (AU ?_))
 refine ay rfl ?_
 refine cU (ds:=s.aj.map dI.d) ?_
 refine⟨λj k v=>(∃a b c d e f g,k= [some s.d,some (.ref S.length),a,b,c,d,e,f,g])/\v=S++ [.lst ((s.ai.flatMap (·.2)++(s.aj.take j).flatMap cB).map D.int)],⟨⟨_,_,_,_,_,_,_,rfl⟩,by simp⟩,λ_ _ _ _=>trivial,?_,?_⟩
 ·rintro j d k v t ⟨⟨a,b,c,H,e,f,g,rfl⟩,rfl⟩
  have t:(s.aj.map dI.d)[j]?=some d:=t
  rw[gQm] at t
  obtain⟨r,z,rfl⟩:=oQm.mp t
  have w:=mQg z
  obtain⟨h2,U,R,F⟩:=L r w
  have A:(s.ai.flatMap (·.2)++(s.aj.take j).flatMap cB).length<=34000:=by
   have:=y s.ai.length
   rw[QEq] at this
   have:=I j
   rw[lQa]
   omega
  generalize x:s.ai.flatMap (·.2)++(s.aj.take j).flatMap cB=o at A⊢
  refine eA rfl (aB (bg (aB (bg (aB (bg (aB (bg (aB (bg (bq ?_)))))))))))
  apply cv (DJ (Ec ?_))
  apply⟨_,_,rfl,bM,?_⟩
  refine cN (i:=r.row.map D.int) (j:=r.ag.map D.int) (by simp only[lQm];exact vK (by omega)) ?_
  refine cU ?_
  refine⟨_,bM,⟨rfl,?_⟩,?_⟩
  ·simp only[lQa,lQm]
   exact vK (by omega)
  dsimp only
  have Z:(S++ [O.lst (o.map D.int)]).set S.length (.lst (o.map D.int++(r.row.map D.int++r.ag.map D.int)))=S++ [.lst ((o++(r.row++r.ag)).map D.int)]:=by simp
  rw[Z]
  apply mT (AU ?_)
  refine⟨λj k v=>(∃a b c d e f g,k= [some s.d,some (.ref S.length),a,b,c,d,e,f,g])/\v=S++ [.lst ((o++(r.row++r.ag)++(r.aa.take j).flatMap λl=>l.map (·.2)).map D.int)],⟨⟨_,_,_,_,_,_,_,rfl⟩,by simp⟩,λ_ _ _ _=>trivial,?_,?_⟩
  ·rintro m d k v t ⟨⟨a,b,c,H,e,f,g,rfl⟩,rfl⟩
   have t:(r.aa.map bZ)[m]?=some d:=t
   rw[gQm] at t
   obtain⟨l,B,rfl⟩:=oQm.mp t
   have W:=F l (mQg B)
   refine bg ?_
   apply DJ (Js ?_)
   apply⟨_,_,rfl,bM,?_⟩
   apply oP (by omega) ?_
   refine⟨_,bM,⟨rfl,?_⟩,⟨_,_,_,_,_,_,_,rfl⟩,?_⟩
   ·have:=G r w m
    simp only[lQa,lQm]
    exact vK (by omega)
   ·rw[fJ B,←Qvq,Qzq]
    simp
  ·rintro k v ⟨J,rfl⟩
   refine⟨J,?_⟩
   have u:(r.aa.map bZ).length=r.aa.length:=lQm ..
   rw[u,QEq,fJ z]
   subst x
   simp only[cB,Qvq]
 ·rintro k v ⟨⟨a,b,c,H,e,f,g,rfl⟩,rfl⟩
  have u:(s.aj.map dI.d).length=s.aj.length:=lQm ..
  rw[u,QEq]
  symm
  exact Gy (Y _) (Qmq _) bM (bT λ_ _=>rfl) q
end
section
variable{S:aI}{Q:Res->aI->Prop}
def xb(s:bc)(h:Nat):Option bV:=(s.af[h]?).bind λp=>p.2.getLast?
def sh(w:dj)(s:bc)(h:Nat):Bool:=match xb s h with
 |some f=>decide (f.room= -1)&&decide (f.row=(((progOf w h f).getD []).length:Int))
 |none=>false
def nP{w:dj}{s:bc}{h:Nat}{vs:List Int}{fs:List bV}{f:bV}{pr:List Rw}(b:s.af[h]?=some (vs,fs))(e:fs.getLast? =some f)(a:progOf w h f=some pr)(q:Q (.d (.bl (sh w s h))) S):Fn fu [w.d,s.d,.int h] S Q:=by
 have g:sh w s h=(decide (f.room= -1)&&decide (f.row=(pr.length:Int))):=by
  unfold sh xb
  rw[b]
  show(match fs.getLast? with|some f=>_|none=>_)=_
  rw[e]
  simp only[a,Option.getD_some]
 rw[g] at q
 refine bX ?_
 unfold kA
 symm
 apply bL b e ?_
 apply vN ?_
 apply ay (d:=.int f.room) rfl ?_
 refine ij ?_
 refine⟨_,rfl,?_⟩
 by_cases c:f.room= -1
 ·rw[Qeq c] at q⊢
  rw[Qhq rfl]
  symm
  apply ay (d:=.int f.row) rfl ?_
  apply eJ a ?_
  refine ij ?_
  rw[lQm]
  exact bW (λk z=>(nomatch z)) rfl q
 ·rw[Qdq c] at q⊢
  rw[Quq (by decide)]
  exact bW (λk z=>(nomatch z)) rfl q
def jR(w:dj)(s:bc):List Nat:=(List.range s.af.length).filter λh=> !decide ((h:Int)∈held s)&& !sh w s h
def c8(h:Nat):D:=.int h
def Ef(w:dj)(s:bc):Prop:=∀(S:aI) (Q:Res->aI->Prop),Q (.l ((jR w s).map c8)) S->Fn i8 [w.d,s.d] S Q
def wL{w:dj}{s:bc}(j:∀(S:aI) (Q:Res->aI->Prop),Q (.l ((held s).map D.int)) S->Fn ed [s.d] S Q)(g:∀h<s.af.length,∃vs fs f pr,s.af[h]?=some (vs,fs)/\fs.getLast? =some f/\progOf w h f=some pr)(p:s.af.length<=100):Ef w s:=by
 intro S Q q
 refine bX ?_
 unfold um
 symm
 apply j _ _ ?_
 apply kD (α:=Nat) (λb=>∃a,b= [a,some w.d,some s.d,some (.ref S.length)]) (λ(i:Nat)=>D.int (0+(i:Int))) c8 (λh=> !decide ((h:Int)∈held s)&& !sh w s h) ⟨none,rfl⟩ ?_
 apply ay rfl ?_
 refine⟨_,rfl,?_,?_⟩
 ·simp only[lQm]
  omega
 refine⟨List.range s.af.length,?_,trivial,by simp;omega,λh o b e=> ?_,?_⟩
 ·simp only[q_,lQm]
  rfl
 ·obtain⟨a,rfl⟩:=e
  obtain⟨vs,fs,f,pr,m,k,n⟩:=g h (List.mem_range.mp o)
  refine bg ⟨rfl,⟨_,rfl⟩,?_⟩
  rw[Int.zero_add]
  apply Hj (gq (wI ?_))
  refine iK (ds:=(held s).map D.int) bM ?_
  refine⟨_,_,rfl,ef _,?_⟩
  rw[jB]
  by_cases c:(h:Int)∈held s
  ·rw[Qeq c]
   refine aW (λc=>by cases c) (λ_=> ?_)
   exact⟨rfl,rfl,λc=>by cases c⟩
  ·rw[Qdq c]
   apply aW (λ_=> ?_) (λc=>by cases c)
   refine nP m k n ?_
   dsimp only
   refine nH ?_
   apply⟨rfl,rfl,λ_=> ?_⟩
   exact⟨rfl,rfl⟩
 ·refine Hk (pk.refl.app) (bT λ_ _=>rfl) q
def jk{w:dj}{s s':bc}{h:Nat}{e:Option Int}(g:Ef w s)(f:h∈jR w s)(a:rZ w s h s' e)(q:Q (.d (Ib s' h e)) S):Fn iW [w.d,s.d,.int h] S Q:=by
 refine bX ?_
 unfold wj
 apply cv (gV (gq (wI ?_)))
 refine g _ _ ?_
 dsimp only
 have b:(jR w s).map c8=((jR w s).map λh:Nat=>(h:Int)).map D.int:=by rw[QPq];rfl
 refine⟨_,_,rfl,by rw[b];exact ef _,?_⟩
 rw[jB,Qeq (Qkq.mpr ⟨h,f,rfl⟩)]
 apply aW (λc=>by cases c) (λ_=>cf ?_)
 refine a _ _ ?_
 exact bW (λk z=>(nomatch z)) (pV _ _ _) q
end
structure i9(n:Nat)(r:Rm)(rs:dI):Prop where
 lv:r.ao.length=rs.vals.length
 lb:r.aa.length=rs.aa.length
 vv:∀v∈rs.vals,0<=v/\v<=9
 br:rs.row.length<=n
 bl:rs.ag.length<=n
 bb:∀l∈rs.aa,l.length<=n
structure Cp(w:dj)(h:Nat)(f:bV):Prop where
 pr:∃pr,progOf w h f=some pr/\0<=f.row/\f.row<=pr.length
 gv:0<=f.given/\f.given<=9
 tv:0<=f.told/\f.told<=9
def Kx(w:dj)(h:Nat)(f:bV):Prop:=∃a g c b t,progOf w h f=some a/\1<=f.row/\a[(f.row-1).toNat]?=some (.do_ g c b t)
def iZ:List bV->Prop
 | []=>False
 |f0::tl=>f0.room= -1/\∀f∈tl,f.room≠-1
structure iV(w:dj)(n h:Nat)(ts:List (Str×Nat))(vs:List Int)(fs:List bV):Prop where
 lv:ts.length=vs.length
 vv:∀v∈vs,0<=v/\v<=9
 lf:fs.length<=n
 fr:∀f∈fs,Cp w h f
 hd:iZ fs
 ch:∀f∈fs.dropLast,Kx w h f
structure cI(w:dj)(n:Nat)(s:bc):Prop where
 lr:w.aj.length=s.aj.length
 rm:∀(i:Nat) (r:Rm) (rs:dI),w.aj[i]?=some r->s.aj[i]?=some rs->i9 n r rs
 lp:w.ai.length=s.ai.length
 ps:∀p∈s.ai,p.2.length<=n
 ls:w.ak.length=s.ak.length
 sv:∀v∈s.ak,0<=v/\v<=9
 lh:w.af.length=s.af.length
 hd:∀(h:Nat) (ts:List (Str×Nat)) (pr:List Rw) (vs:List Int) (fs:List bV),w.af[h]?=some (ts,pr)->s.af[h]?=some (vs,fs)->iV w n h ts vs fs
def i9.mono{n m:Nat}{r:Rm}{a:dI}(h:i9 n r a)(l:n<=m):i9 m r a:=⟨h.lv,h.lb,h.vv,QAq h.br l,QAq h.bl l,λx b=>QAq (h.bb x b) l⟩
def iV.mono{w:dj}{n m h:Nat}{ts:List (Str×Nat)}{vs:List Int}{fs:List bV}(x:iV w n h ts vs fs)(l:n<=m):iV w m h ts vs fs:=⟨x.lv,x.vv,QAq x.lf l,x.fr,x.hd,x.ch⟩
def cI.mono{w:dj}{n m:Nat}{s:bc}(x:cI w n s)(l:n<=m):cI w m s:=⟨x.lr,λi r e a b=>(x.rm i r e a b).mono l,x.lp,λp c=>QAq (x.ps p c) l,x.ls,x.sv,x.lh,λh g f d j a b=>(x.hd h g f d j a b).mono l⟩
def get_set{α:Type}{l:List α}{i j:Nat}{a b:α}(h:(l.set i a)[j]?=some b):(j=i/\b=a)\/(j≠i/\l[j]?=some b):=by
 rw[List.getElem?_set] at h
 split at h
 ·rename_i c
  split at h
  ·cases h;exact .inl ⟨c.symm,rfl⟩
  ·cases h
 ·rename_i c
  exact .inr ⟨λz=>c z.symm,h⟩
def cI.room{w:dj}{n i:Nat}{s:bc}{r:Rm}{d:dI}(x:cI w n s)(g:w.aj[i]?=some r)(f:i9 n r d):cI w n {s with aj:=s.aj.set i d} where
 lr:=by simpa using x.lr
 rm:=λj e a b c=>by
  rcases get_set c with⟨rfl,rfl⟩|⟨_,c⟩
  ·rw[g] at b;cases b;exact f
  ·exact x.rm j e a b c
 lp:=x.lp
 ps:=x.ps
 ls:=x.ls
 sv:=x.sv
 lh:=x.lh
 hd:=x.hd
def cI.pass{w:dj}{n i:Nat}{s:bc}{p:Int×List Int}(x:cI w n s)(b:p.2.length<=n):cI w n {s with ai:=s.ai.set i p} where
 lr:=x.lr
 rm:=x.rm
 lp:=by simpa using x.lp
 ps:=λq a=>by
  rcases QTq a with a|rfl
  ·exact x.ps q a
  ·exact b
 ls:=x.ls
 sv:=x.sv
 lh:=x.lh
 hd:=x.hd
def cI.share{w:dj}{n:Nat}{s:bc}{vs:List Int}(x:cI w n s)(a:vs.length=s.ak.length)(b:∀v∈vs,0<=v/\v<=9):cI w n {s with ak:=vs}:=⟨x.lr,x.rm,x.lp,x.ps,by rw[x.ls,←a],b,x.lh,x.hd⟩
def cI.hand{w:dj}{n h:Nat}{s:bc}{ts:List (Str×Nat)}{pr:List Rw}{vs:List Int}{fs:List bV}(x:cI w n s)(i:w.af[h]?=some (ts,pr))(k:iV w n h ts vs fs):cI w n {s with af:=s.af.set h (vs,fs)} where
 lr:=x.lr
 rm:=x.rm
 lp:=x.lp
 ps:=x.ps
 ls:=x.ls
 sv:=x.sv
 lh:=by simpa using x.lh
 hd:=λj a g c d f b=>by
  rcases get_set b with⟨rfl,e⟩|⟨_,b⟩
  ·rw[i] at f;cases f;cases e;exact k
  ·exact x.hd j a g c d f b
def lP{α:Type}{l:List α}{a:α}(h:l.getLast? =some a):l=l.dropLast++ [a]:=by
 cases l with
 |nil=>cases h
 | cons x y=>
   have b:x::y≠[]:=by simp
   rw[List.getLast?_eq_some_getLast b] at h
   cases h
   exact(List.dropLast_concat_getLast b).symm
def iZ.last{fs:List bV}{f f':bV}:∀{b:List bV},iZ (b++ [f])->f'.room=f.room->iZ (b++ [f'])
 | [],h,e=>⟨by rw[e];exact h.1,λ_ z=>by cases z⟩
 | a::l,h,e=>⟨h.1,λx c=>by
   rcases mQa.mp c with c|c
   · exact h.2 x (mQa.mpr (.inl c))
   · rw[Qfq.mp c,e];exact h.2 f (mQa.mpr (.inr (Qfq.mpr rfl)))⟩
def iZ.push{f':bV}:∀{fs:List bV},iZ fs->f'.room≠-1->iZ (fs++ [f'])
 | [],h,_=>h.elim
 | a::l,h,e=>⟨h.1,λx b=>by
   rcases mQa.mp b with b|b
   · exact h.2 x b
   · rw[Qfq.mp b];exact e⟩
def iZ.pop{d f:bV}:∀{c:List bV},iZ (c++ [d,f])->iZ (c++ [d])
 | [],h=>⟨h.1,λ_ z=>by cases z⟩
 | a::l,h=>⟨h.1,λx b=>h.2 x (by
   rcases mQa.mp b with b|b
   · exact mQa.mpr (.inl b)
   · exact mQa.mpr (.inr (by rw[Qfq.mp b];simp)))⟩
def iZ.two{f:bV}:∀{b:List bV},iZ (b++ [f])->f.room≠-1->∃c d,b=c++ [d]
 | [],h,e=>absurd h.1 e
 |a::l,h,e=>⟨(a::l).dropLast,(a::l).getLast (by simp),(List.dropLast_concat_getLast (by simp)).symm⟩
section
variable{w:dj}{n h:Nat}{ts:List (Str×Nat)}{vs:List Int}{fs:List bV}{f f' f2:bV}
def iV.setLast(x:iV w n h ts vs fs)(d:fs.getLast? =some f)(e:f'.room=f.room)(i:Cp w h f'):iV w n h ts vs (fs.dropLast++ [f']):=by
 have b:=lP d
 have c:=x.hd
 rw[b] at c
 refine⟨x.lv,x.vv,?_,λg a=> ?_,iZ.last (fs:=fs) c e,λg a=> ?_⟩
 ·have:=congrArg List.length b
  have:=x.lf
  simp only[lQa,Qnq,QGq] at *
  omega
 ·rcases mQa.mp a with a|a
  ·exact x.fr g (List.dropLast_subset _ a)
  ·rw[Qfq.mp a];exact i
 ·rw[List.dropLast_concat] at a
  exact x.ch g a
def iV.push(x:iV w n h ts vs fs)(b:fs.getLast? =some f)(d:Kx w h f)(e:f'.room≠-1)(i:Cp w h f'):iV w (n+1) h ts vs (fs++ [f']):=by
 refine⟨x.lv,x.vv,?_,λg a=> ?_,x.hd.push e,λg a=> ?_⟩
 ·have:=x.lf
  simp only[lQa,Qnq,QGq]
  omega
 ·rcases mQa.mp a with a|a
  ·exact x.fr g a
  ·rw[Qfq.mp a];exact i
 ·rw[List.dropLast_concat,lP b] at a
  rcases mQa.mp a with a|a
  ·exact x.ch g a
  ·rw[Qfq.mp a];exact d
def iV.pop{b:List bV}(x:iV w n h ts vs (b++ [f2,f])):iV w n h ts vs (b++ [f2])/\Kx w h f2:=by
 have e:(b++ [f2,f]).dropLast=b++ [f2]:=by rw[show b++ [f2,f]=(b++ [f2])++ [f] by simp,List.dropLast_concat]
 have c:=x.ch
 rw[e] at c
 refine⟨⟨x.lv,x.vv,?_,λg a=>x.fr g ?_,x.hd.pop,λg a=>c g ?_⟩,c f2 (by simp)⟩
 ·have:=x.lf
  simp only[lQa,Qnq,QGq] at *
  omega
 ·rcases mQa.mp a with a|a
  ·exact mQa.mpr (.inl a)
  ·exact mQa.mpr (.inr (by rw[Qfq.mp a];simp))
 ·rw[List.dropLast_concat] at a
  exact mQa.mpr (.inl a)
def iV.vals{a:List Int}(x:iV w n h ts vs fs)(b:a.length=vs.length)(c:∀v∈a,0<=v/\v<=9):iV w n h ts a fs:=⟨by rw[x.lv,b],c,x.lf,x.fr,x.hd,x.ch⟩
def iV.last(x:iV w n h ts vs fs):∃f,fs.getLast? =some f/\Cp w h f:=by
 have:=x.hd
 cases fs with
 |nil=>exact this.elim
 | cons a l=>
   refine⟨_,List.getLast?_eq_some_getLast (by simp),x.fr _ (List.getLast_mem (by simp))⟩
end
def jH{w:dj}{h:Nat}{f:bV}{pr:List Rw}(a:progOf w h f=some pr):(f.room= -1/\∃ts,w.af[h]?=some (ts,pr))\/∃(i j:Nat) (r:Rm) (e:Str),f.room=i/\f.deed=j/\w.aj[i]?=some r/\r.ae[j]?=some (e,pr):=by
 unfold progOf at a
 split at a
 ·rename_i c
  obtain⟨⟨ts,d⟩,b,g⟩:=oQm.mp a
  cases g
  exact .inl ⟨c,ts,b⟩
 ·split at a
  ·rename_i c
   obtain⟨r,b,g⟩:=ar a
   obtain⟨⟨e,d⟩,l,k⟩:=oQm.mp g
   cases k
   exact .inr ⟨f.room.toNat,f.deed.toNat,r,e,by omega,by omega,b,l⟩
  ·cases a
def AV{w:dj}{h i j:Nat}{f:bV}{r:Rm}{d:Str}{pr:List Rw}(a:f.room=i)(e:f.deed=j)(c:w.aj[i]?=some r)(b:r.ae[j]?=some (d,pr)):progOf w h f=some pr:=by
 unfold progOf
 rw[Quq (by omega),Qhq ⟨by omega,by omega⟩,a,e]
 show(w.aj[i]?).bind _=_
 rw[c]
 show(r.ae[j]?).map _=_
 rw[b]
 rfl
def A_(w:dj)(h:Nat)(f:bV):Option Sc:=if f.room= -1 then(w.af[h]?).map λp=>⟨true,p.1.map (·.1)++w.ak.map (·.1),p.1.map (·.1)++w.ak.map (·.1),[],dY w.aj,w.ai.map (·.1)⟩
 else(w.aj[f.room.toNat]?).map λr=>⟨false,r.ao.map (·.1)++lH,r.ao.map (·.1),r.aa.map (·.1),dY w.aj,[]⟩
def Dx{w:dj}{h:Nat}{f:bV}{pr:List Rw}(o:gI w)(e:progOf w h f=some pr):∃b,A_ w h f=some b/\Hv b pr:=by
 unfold A_
 rcases jH e with⟨c,m,a⟩|⟨i,j,r,k,a,l,d,g⟩
 ·rw[Qhq c,a]
  exact⟨_,rfl,(o.hd _ (mQg a)).pr⟩
 ·rw[Quq (by omega),a]
  refine⟨_,by rw[show((i:Int)).toNat=i by omega,d];rfl,((o.rm _ (mQg d)).pr _ (mQg g)).1⟩
def A1{w:dj}(o:gI w):cI w 1 (dr w) where
 lr:=by simp[dr]
 rm:=λi r n c d=>by
  simp only[dr,gQm,c,Option.map_some,Option.some.injEq] at d
  subst d
  have g:=o.rm r (mQg c)
  refine⟨by simp[eC,eR],by simp[eC],λv b=> ?_,by simp[eC],by simp[eC],λl j=> ?_⟩
  ·simp only[eC,eR,Qkq] at b
   obtain⟨p,a,rfl⟩:=b
   have:=g.tv p a
   omega
  ·simp only[eC,Qkq] at j
   obtain⟨p,a,rfl⟩:=j
   simp
 lp:=by simp[dr]
 ps:=λp a=>by
  simp only[dr,Qkq] at a
  obtain⟨p,a,rfl⟩:=a
  simp
 ls:=by simp[dr,eR]
 sv:=λv b=>by
  simp only[dr,eR,Qkq] at b
  obtain⟨p,a,rfl⟩:=b
  have:=o.sv p a
  omega
 lh:=by simp[dr]
 hd:=λh s k m q c d=>by
  simp only[dr,gQm,c,Option.map_some,Option.some.injEq] at d
  cases d
  have g:=o.hd _ (mQg c)
  refine⟨by simp[eR],λv b=> ?_,by simp,λf e=> ?_,⟨rfl,λ_ z=>by cases z⟩,λf e=>by cases e⟩
  ·simp only[eR,Qkq] at b
   obtain⟨p,a,rfl⟩:=b
   have:=g.tv p a
   omega
  ·rw[Qfq.mp e]
   refine⟨⟨k,?_,by decide,?_⟩,by decide,by decide⟩
   ·unfold progOf
    rw[Qhq (show iR.room= -1 from rfl),c]
    rfl
   ·show(0:Int)<=_
    omega
def yj(s:bc)(h:Nat):List Int×List bV:=(s.af[h]?).getD ([],[])
def Kd(w:dj)(h:Nat):List (Str×Nat)×List Rw:=(w.af[h]?).getD ([],[])
def gK(s:bc)(h:Nat):bV:=((yj s h).2.getLast?).getD iR
def Er(w:dj)(i:Nat):Rm:=(w.aj[i]?).getD ⟨"","",[],[],[]⟩
def z_(s:bc)(i:Nat):dI:=(s.aj[i]?).getD ⟨[],0,[],[],[]⟩
def F4(s:bc)(k:Nat):Int×List Int:=(s.ai[k]?).getD (0,[])
def B0(s:bc)(h:Nat)(f:bV):bc:={s with af:=s.af.set h ((yj s h).1,(yj s h).2.dropLast++ [f])}
def mY(s:bc)(i:Nat)(r:dI):bc:={s with aj:=s.aj.set i r}
def wQ(s:bc)(k:Nat)(p:Int×List Int):bc:={s with ai:=s.ai.set k p}
def eL(w:dj)(s:bc)(h:Nat)(t:Tr):Int:=
 if (gK s h).room= -1 then vV (numAt (yD w s (Kd w h).1 (yj s h).1)) (λ_=>0) t
 else vV (numAt (qT (Er w (gK s h).room.toNat) (z_ s (gK s h).room.toNat) (gK s h).given)) (tP (Er w (gK s h).room.toNat) (z_ s (gK s h).room.toNat)) t
def vo(w:dj)(s:bc)(h:Nat)(x:Str)(v:Int):bc:=
 if (gK s h).room= -1 then sf w s h (Kd w h).1 (yj s h).1 (yj s h).2 x v
 else mY s (gK s h).room.toNat {z_ s (gK s h).room.toNat with vals:=dZ ((Er w (gK s h).room.toNat).ao.map (·.1)) (z_ s (gK s h).room.toNat).vals x v}
def Az(r:Rm)(a:dI)(b:Str)(v:Int)(h:Nat):dI:=
 c7 {a with aa:=a.aa.set (df (r.aa.map (·.1)) b) (iD ((a.aa[df (r.aa.map (·.1)) b]?).getD []) (if ((r.aa[df (r.aa.map (·.1)) b]?).getD ("","")).2="turns" then v else 0) h)}
def jT(w:dj)(s:bc)(h:Nat):Rw->bc
 |.put x t=>vo w s h x (eL w s h t)
 |.unl t n=>if eL w s h t=0 then B0 s h {gK s h with row:=n} else s
 |.go n=>B0 s h {gK s h with row:=n}
 |.do_ _ a c t=>mY {s with af:=s.af.set h ((yj s h).1,(yj s h).2++ [⟨(df (w.aj.map (·.name)) a:Nat),(df ((Er w (df (w.aj.map (·.name)) a)).ae.map (·.1)) c:Nat),0,eL w s h t,0⟩])} (df (w.aj.map (·.name)) a) (fq (z_ s (df (w.aj.map (·.name)) a)) h)
 |.wait b t=>mY s (gK s h).room.toNat (Az (Er w (gK s h).room.toNat) (z_ s (gK s h).room.toNat) b (eL w s h t) h)
 |.call b=>mY s (gK s h).room.toNat (ik (decide ((Er w (gK s h).room.toNat).ah="when free")) (z_ s (gK s h).room.toNat) (df ((Er w (gK s h).room.toNat).aa.map (·.1)) b) h)
 |.all b=>mY s (gK s h).room.toNat {z_ s (gK s h).room.toNat with aa:=(z_ s (gK s h).room.toNat).aa.set (df ((Er w (gK s h).room.toNat).aa.map (·.1)) b) []}
 |.tell t=>B0 s h {gK s h with told:=eL w s h t}
 |.take p=>wQ s (df (w.ai.map (·.1)) p) (iS (F4 s (df (w.ai.map (·.1)) p)) h)
 |.give p=>wQ s (df (w.ai.map (·.1)) p) (gd (F4 s (df (w.ai.map (·.1)) p)))
 |.pass p q=>wQ (wQ s (df (w.ai.map (·.1)) p) (gd (F4 s (df (w.ai.map (·.1)) p)))) (df (w.ai.map (·.1)) q) (iS (F4 (wQ s (df (w.ai.map (·.1)) p) (gd (F4 s (df (w.ai.map (·.1)) p)))) (df (w.ai.map (·.1)) q)) h)
 |.say _=>s
def u_(s:bc)(h:Nat):bc:=mY {s with af:=s.af.set h ((yj s h).1,(yj s h).2.dropLast)} (gK s h).room.toNat (c7 (z_ s (gK s h).room.toNat))
def FG(w:dj)(s:bc)(h:Nat):Option Rw:=(progOf w h (gK s h)).bind λa=>a[((gK s h).row-1).toNat]?
def yR(w:dj)(s:bc)(h:Nat):bc:=match FG w (u_ s h) h with
 |some (.do_ (some x) _ _ _)=>vo w (u_ s h) h x (gK s h).told
 |_=>u_ s h
def jP(s:bc)(h:Nat):bc:=B0 s h {gK s h with row:=(gK s h).row+1}
def FW(w:dj)(s:bc)(h:Nat):Rw->Option Int
 |.say t=>some (eL w s h t)
 |_=>none
def eK(w:dj)(s:bc)(h:Nat):bc×Option Int:=
 if (gK s h).room≠-1/\(z_ s (gK s h).room.toNat).within≠h then(mY s (gK s h).room.toNat (fq (z_ s (gK s h).room.toNat) h),none)
 else match progOf w h (gK s h) with
  |none=>(s,none)
  | some a=>if (gK s h).row=a.length then(yR w s h,none) else match a[(gK s h).row.toNat]? with
    |none=>(s,none)
    |some r=>(jT w (jP s h) h r,FW w s h r)
section
variable{w:dj}{h:Nat}{s:bc}{vs:List Int}{fs:List bV}{f:bV}
def j_(a:s.af[h]?=some (vs,fs)):yj s h=(vs,fs):=by unfold yj;rw[a];rfl
def eI(b:s.af[h]?=some (vs,fs))(a:fs.getLast? =some f):gK s h=f:=by unfold gK;rw[j_ b];show(fs.getLast?).getD _=f;rw[a];rfl
def Ca{p:List (Str×Nat)×List Rw}(a:w.af[h]?=some p):Kd w h=p:=by unfold Kd;rw[a];rfl
def nW{i:Nat}{r:Rm}(a:w.aj[i]?=some r):Er w i=r:=by unfold Er;rw[a];rfl
def iL{i:Nat}{r:dI}(a:s.aj[i]?=some r):z_ s i=r:=by unfold z_;rw[a];rfl
def vA{i:Nat}{p:Int×List Int}(a:s.ai[i]?=some p):F4 s i=p:=by unfold F4;rw[a];rfl
def ir{g:bV}(a:s.af[h]?=some (vs,fs)):B0 s h g={s with af:=s.af.set h (vs,fs.dropLast++ [g])}:=by unfold B0;rw[j_ a]
end
section
variable{w:dj}{n h:Nat}{s:bc}{vs:List Int}{fs:List bV}{f:bV}{sc:Sc}
def cI.whand(x:cI w n s)(a:s.af[h]?=some (vs,fs)):∃ts pr,w.af[h]?=some (ts,pr)/\iV w n h ts vs fs:=by
 have b:h<w.af.length:=by rw[x.lh];exact(gQs.mp a).1
 exact⟨_,_,gQe b,x.hd h _ _ vs fs (gQe b) a⟩
def cI.wroom{i:Nat}{r:Rm}(x:cI w n s)(b:w.aj[i]?=some r):∃a,s.aj[i]?=some a/\i9 n r a:=by
 have c:i<s.aj.length:=by rw[←x.lr];exact(gQs.mp b).1
 exact⟨_,gQe c,x.rm i r _ b (gQe c)⟩
def jX{t:Sc}(a:A_ w h f=some t):(f.room= -1/\∃ts pr,w.af[h]?=some (ts,pr)/\t=⟨true,ts.map (·.1)++w.ak.map (·.1),ts.map (·.1)++w.ak.map (·.1),[],dY w.aj,w.ai.map (·.1)⟩)∨
  (f.room≠-1/\∃r,w.aj[f.room.toNat]?=some r/\t=⟨false,r.ao.map (·.1)++lH,r.ao.map (·.1),r.aa.map (·.1),dY w.aj,[]⟩):=by
 unfold A_ at a
 split at a
 ·rename_i c
  obtain⟨⟨ts,pr⟩,b,d⟩:=oQm.mp a
  exact .inl ⟨c,ts,pr,b,d.symm⟩
 ·rename_i c
  obtain⟨r,b,d⟩:=oQm.mp a
  exact .inr ⟨c,r,b,d.symm⟩
def nQ(x:Cp w h f)(c:f.room≠-1):f.room=(f.room.toNat:Int):=by
 obtain⟨d,a,_⟩:=x.pr
 rcases jH a with⟨b,_⟩|⟨i,_,_,_,e,_⟩
 ·exact absurd b c
 ·omega
def kI{t:Tr}(o:gI w)(x:cI w n s)(d:s.af[h]?=some (vs,fs))(g:fs.getLast? =some f)(z:A_ w h f=some sc)(ht:Ia sc t):(0<=eL w s h t/\eL w s h t<=9)/\yC w s h t (eL w s h t):=by
 obtain⟨A,J,m,e⟩:=x.whand d
 have G:=o.hd _ (mQg m)
 have p:=e.fr f (QcQ g)
 have K:=o.l3
 have C:=G.l1
 have B:=x.ls
 rcases jX z with⟨c,H,F,l,rfl⟩|⟨c,r,hr,rfl⟩
 ·rw[m] at l
  cases l
  have a:j7 (yD w s A vs):=j7.merge (g7 x.sv) (g7 e.vv)
  have u:eL w s h t=vV (numAt (yD w s A vs)) (λ_=>0) t:=by unfold eL;rw[eI d g,Qhq c,Ca m,j_ d]
  rw[u]
  refine⟨?_,λS Q q=>uO m d g c B e.lv (by omega) (by dsimp only at C;omega) x.sv e.vv ht.1 (by have:=ht.2;omega) q⟩
  refine kL (ws:=A.map (·.1)++w.ak.map (·.1)) (bs:= []) (λy b=> ?_) ht.1
  refine(mq a (gh ?_)).2
  rcases mQa.mp b with b|b
  ·exact .inr (gY e.lv b)
  ·exact .inl (gY B b)
 ·obtain⟨v,k,j⟩:=x.wroom hr
  have i:=o.rm r (mQg hr)
  have L:=i.l1
  have I:=i.l2
  have a:j7 (qT r v f.given):=(g7 j.vv).put p.gv.1 p.gv.2
  have u:eL w s h t=vV (numAt (qT r v f.given)) (tP r v) t:=by unfold eL;rw[eI d g,Quq c,nW hr,iL k]
  rw[u]
  refine⟨?_,λS Q q=>sQ d g (nQ p c) hr k j.lv j.lb (by omega) (by omega) j.vv p.gv ht.1 (by have:=ht.2;omega) q⟩
  refine kL (ws:=r.ao.map (·.1)++lH) (bs:=r.aa.map (·.1)) (λy b=> ?_) ht.1
  refine(mq a (kM ?_)).2
  rcases mQa.mp b with b|b
  ·exact .inr (gY j.lv b)
  ·left
   rw[Qfq.mp b]
def lI{ns:List Str}{y:Str}{v:Int}{a:List Int}(c:∀v∈a,0<=v/\v<=9)(d:0<=v/\v<=9):(dZ ns a y v).length=a.length/\∀u∈dZ ns a y v,0<=u/\u<=9:=by
 unfold dZ
 refine⟨by simp,λz b=> ?_⟩
 rcases QTq b with b|rfl
 ·exact c z b
 ·exact d
def AJ{y:Str}{v:Int}(o:gI w)(x:cI w n s)(b:s.af[h]?=some (vs,fs))(e:fs.getLast? =some f)(u:A_ w h f=some sc)(A:y∈sc.ps)(t:0<=v/\v<=9):Puts w s h y v (vo w s h y v)/\cI w n (vo w s h y v):=by
 obtain⟨B,L,g,l⟩:=x.whand b
 have H:=o.hd _ (mQg g)
 have G:=l.fr f (QcQ e)
 have J:=o.l1
 have N:=o.l3
 have C:=H.l1
 have M:=o.l4
 have R:=x.lr
 have K:=x.lh
 rcases jX u with⟨c,I,F,k,rfl⟩|⟨c,r,hr,rfl⟩
 ·rw[g] at k
  cases k
  have m:vo w s h y v=sf w s h B vs fs y v:=by unfold vo;rw[eI b e,Qhq c,Ca g,j_ b]
  rw[m]
  refine⟨λS Q q=>FC g b e c x.ls l.lv (by omega) (by dsimp only at C;omega) (by omega) A q,?_⟩
  unfold sf
  split
  ·obtain⟨d,j⟩:=lI (ns:=w.ak.map (·.1)) (y:=y) x.sv t
   exact x.share d j
  ·obtain⟨d,j⟩:=lI (ns:=B.map (·.1)) (y:=y) l.vv t
   exact x.hand g (l.vals d j)
 ·obtain⟨z,i,a⟩:=x.wroom hr
  have p:=o.rm r (mQg hr)
  have P:=p.l1
  have m:vo w s h y v={s with aj:=s.aj.set f.room.toNat {z with vals:=dZ (r.ao.map (·.1)) z.vals y v}}:=by unfold vo;rw[eI b e,Quq c,nW hr,iL i];rfl
  rw[m]
  refine⟨λS Q q=>Du b e (nQ G c) hr i a.lv (by omega) (by omega) A q,?_⟩
  obtain⟨d,j⟩:=lI (ns:=r.ao.map (·.1)) (y:=y) a.vv t
  exact x.room hr ⟨by rw[a.lv,←d],a.lb,j,a.br,a.bl,a.bb⟩
def cI.goes{m:Int}{pr:List Rw}(x:cI w n s)(j:s.af[h]?=some (vs,fs))(c:fs.getLast? =some f)(d:progOf w h f=some pr)(e:0<=m)(g:m<=pr.length):cI w n {s with af:=s.af.set h (vs,fs.dropLast++ [{f with row:=m}])}:=by
 obtain⟨l,k,i,b⟩:=x.whand j
 have a:=b.fr f (QcQ c)
 exact x.hand i (b.setLast c rfl ⟨⟨pr,d,e,g⟩,a.gv,a.tv⟩)
def cI.tells{v:Int}(x:cI w n s)(e:s.af[h]?=some (vs,fs))(c:fs.getLast? =some f)(i:0<=v/\v<=9):cI w n {s with af:=s.af.set h (vs,fs.dropLast++ [{f with told:=v}])}:=by
 obtain⟨j,g,d,b⟩:=x.whand e
 have a:=b.fr f (QcQ c)
 exact x.hand d (b.setLast c rfl ⟨a.pr,a.gv,i⟩)
def i9.come{r:Rm}{a:dI}{k:Int}(x:i9 n r a):i9 (n+1) r (fq a k):=by
 unfold fq
 have:=x.br
 split
 ·exact⟨x.lv,x.lb,x.vv,by show a.row.length<=_;omega,Nat.le_succ_of_le x.bl,λl b=>Nat.le_succ_of_le (x.bb l b)⟩
 ·exact⟨x.lv,x.lb,x.vv,by simp;omega,Nat.le_succ_of_le x.bl,λl b=>Nat.le_succ_of_le (x.bb l b)⟩
def i9.leave{r:Rm}{d:dI}(x:i9 n r d):i9 n r (c7 d):=by
 obtain⟨g,b,c,j,k⟩:=d
 have e:=x.br
 have i:=x.bl
 unfold c7
 dsimp only at e i⊢
 cases j with
 |cons a l=>exact⟨x.lv,x.lb,x.vv,x.br,by simp at i;show l.length<=n;omega,x.bb⟩
 | nil=>
   cases c with
   |cons a l=>exact⟨x.lv,x.lb,x.vv,by simp at e;show l.length<=n;omega,x.bl,x.bb⟩
   |nil=>exact⟨x.lv,x.lb,x.vv,x.br,x.bl,x.bb⟩
def i9.line{r:Rm}{a:dI}{b:Nat}{l:List (Int×Int)}(x:i9 n r a)(d:l.length<=n):i9 n r {a with aa:=a.aa.set b l}:=⟨x.lv,by simp;exact x.lb,x.vv,x.br,x.bl,λk c=>by
 rcases QTq c with c|rfl
 ·exact x.bb k c
 ·exact d⟩
def i9.call{r:Rm}{a:dI}{b:Nat}{k:Int}{d:Bool}(x:i9 n r a):i9 (n+1) r (ik d a b k):=by
 unfold ik
 split
 ·rename_i p l e
  have c:=x.bb _ (mQg e)
  have y:=(x.mono (Nat.le_succ n)).line (b:=b) (l:=l) (by simp at c;omega)
  have z:=x.bl
  split
  ·exact y
  ·exact⟨y.lv,y.lb,y.vv,y.br,by simp;omega,y.bb⟩
 ·exact x.mono (Nat.le_succ n)
def Cq{l:List (Int×Int)}{a b:Int}:(iD l a b).length=l.length+1:=by
 unfold iD
 have:=List.length_filter_le (λp:Int×Int=>decide (p.1<=a)) l
 simp only[lQa,Qxq,List.length_drop,Qnq,QGq]
 omega
def FL{a g:Str}(o:gI w)(j:(a,g)∈dY w.aj):a∈w.aj.map (·.name)/\∃r,w.aj[df (w.aj.map (·.name)) a]?=some r/\g∈r.ae.map (·.1):=by
 unfold dY at j
 obtain⟨r,b,q⟩:=QOq.mp j
 obtain⟨p,k,e⟩:=Qkq.mp q
 cases e
 have d:r.name∈w.aj.map (·.name):=Qkq.mpr ⟨r,b,rfl⟩
 refine⟨d,r,?_,Qkq.mpr ⟨p,k,rfl⟩⟩
 obtain⟨t,l⟩:=lC d
 obtain⟨i,c,e⟩:=QbQ b
 have m:(w.aj.map (·.name))[i]?=some r.name:=by rw[gQm,gQe c,e];rfl
 rw[ke o.nd l m,gQe c,e]
def AM{r:Rw}{pr:List Rw}(o:gI w)(x:cI w n s)(hn:n<=100)(A:s.af[h]?=some (vs,fs))(G:fs.getLast? =some f)(hp:progOf w h f=some pr)(h1:1<=f.row)(a0:pr[(f.row-1).toNat]?=some r):Gv w s h r (jT w s h r)/\cI w (n+1) (jT w s h r):=by
 have e1:=j_ A
 have e2:=eI A G
 obtain⟨sc,C,c0⟩:=Dx o hp
 have b:=c0 r (mQg a0)
 obtain⟨ts,a1,hw,hi⟩:=x.whand A
 have fi:=hi.fr f (QcQ G)
 have b1:=o.l1
 have b2:=o.l2
 have b3:=o.l3
 have b4:=o.l4
 have lr:=x.lr
 have lp:=x.lp
 have lh:=x.lh
 have lf:=hi.lf
 have P:=x.mono (Nat.le_succ n)
 have B:sc.own=false->∃(i:Nat) (r:Rm) (K:dI),f.room=i/\w.aj[i]?=some r/\s.aj[i]?=some K/\i9 n r K/\JD (dY w.aj) r/\sc.bs=r.aa.map (·.1):=λho=>by
  rcases jX C with⟨c,a3,a1,a7,rfl⟩|⟨c,r,H,rfl⟩
  ·cases ho
  ·obtain⟨K,e,L⟩:=x.wroom H
   exact⟨_,r,K,nQ fi c,H,e,L,o.rm r (mQg H),rfl⟩
 have J:sc.own=true->sc.ts=w.ai.map (·.1):=λho=>by
  rcases jX C with⟨c,a3,a1,a7,rfl⟩|⟨c,r,H,rfl⟩
  ·rfl
  ·cases ho
 have k:∀y,y∈w.ai.map (·.1)->∀ps:List (Int×List Int),w.ai.length=ps.length->∃p,ps[df (w.ai.map (·.1)) y]?=some p:=λy u ps hl=>by
  have:=(lC u).1
  rw[lQm] at this
  exact⟨_,gQe (by omega)⟩
 have R:∀p:Int×List Int,p.2.length<=n->(iS p h).2.length<=n+1:=λp hp=>by
  unfold iS
  split
  ·show p.2.length<=_;omega
  ·simp;omega
 have N:∀p:Int×List Int,p.2.length<=n->(gd p).2.length<=n:=λp hp=>by
  obtain⟨v,l⟩:=p
  unfold gd
  cases l with
  |nil=>simp
  |cons a l=>simp at hp;show l.length<=n;omega
 cases r with
 | put y t=>
   obtain⟨Z,H⟩:=kI o x A G C b.2
   obtain⟨j,a9⟩:=AJ o x A G C b.1 Z
   exact⟨λS Q q=>AW H j q,a9.mono (Nat.le_succ n)⟩
 | unl t m=>
   obtain⟨Z,H⟩:=kI o x A G C b.1
   have F:jT w s h (.unl t m)=if eL w s h t=0 then{s with af:=s.af.set h (vs,fs.dropLast++ [{f with row:=m}])} else s:=by simp only[jT,e2,ir A]
   rw[F]
   refine⟨λS Q q=>uY H A G (by omega) (by omega) q,?_⟩
   split
   · exact P.goes A G hp (by omega) (by have:=b.2;omega)
   · exact P
 | go m=>
   have F:jT w s h (.go m)={s with af:=s.af.set h (vs,fs.dropLast++ [{f with row:=m}])}:=by simp only[jT,e2,ir A]
   rw[F]
   exact⟨λS Q q=>D0 A G (by omega) (by omega) q,P.goes A G hp (by omega) (by have:m<=pr.length:=b;omega)⟩
 | do_ g W Y t=>
   obtain⟨Z,H⟩:=kI o x A G C b.2.2
   have ev:jT w s h (.do_ g W Y t)=jT w s h (.do_ g W Y t):=rfl
   generalize c1:eL w s h t=v at Z H
   have c4:sc.gs=dY w.aj:=by
     rcases jX C with⟨c,a3,a1,a7,rfl⟩|⟨c,r,H,rfl⟩ <;>rfl
   have a4:=b.2.1
   rw[c4] at a4
   obtain⟨c2,r,d,a6⟩:=FL o a4
   obtain⟨K,e,L⟩:=x.wroom d
   have I:=o.rm r (mQg d)
   have b5:=I.l3
   have b6:=L.br
   have F:jT w s h (.do_ g W Y t)={s with af:=s.af.set h (vs,fs++ [⟨(df (w.aj.map (·.name)) W:Nat),(df (r.ae.map (·.1)) Y:Nat),0,v,0⟩]),aj:=s.aj.set (df (w.aj.map (·.name)) W) (fq K h)}:=by simp only[jT,e1,nW d,iL e,c1,mY]
   rw[F]
   refine⟨λS Q q=>C2 H A c2 d e a6 (by omega) (by omega) (by omega) (by omega) (by omega) (by omega) q,?_⟩
   have b0:=lC a6
   have a5:=b0.1
   rw[lQm] at a5
   obtain⟨⟨c5,a8⟩,b8⟩:∃p,r.ae[df (r.ae.map (·.1)) Y]?=some p:=⟨_,gQe a5⟩
   have pf:progOf w h ⟨(df (w.aj.map (·.name)) W:Nat),(df (r.ae.map (·.1)) Y:Nat),0,v,0⟩=some a8:=AV rfl rfl d b8
   have hh:=hi.push (f':=⟨(df (w.aj.map (·.name)) W:Nat),(df (r.ae.map (·.1)) Y:Nat),0,v,0⟩) G ⟨pr,g,W,Y,t,hp,h1,a0⟩ (by show((df (w.aj.map (·.name)) W:Nat):Int)≠-1;omega) ⟨⟨a8,pf,by show(0:Int)<=0;omega,by show(0:Int)<=_;omega⟩,Z,by show(0:Int)<=0/\(0:Int)<=9;omega⟩
   exact(P.hand hw hh).room d L.come
 | wait y t=>
   obtain⟨i,r,K,U,d,e,L,I,M⟩:=B b.1
   obtain⟨Z,H⟩:=kI o x A G C b.2.2
   have u:=b.2.1
   rw[M] at u
   have b6:=I.l2
   have lb:=L.lb
   obtain⟨k1,k2⟩:=lC u
   rw[lQm] at k1
   rw[gQm] at k2
   obtain⟨⟨y',so⟩,k3,k4⟩:=oQm.mp k2
   have k4:y'=y:=k4
   subst k4
   obtain⟨X,hl⟩:∃l,K.aa[df (r.aa.map (·.1)) y']?=some l:=⟨_,gQe (by omega)⟩
   have ll:=L.bb X (mQg hl)
   have ti:f.room.toNat=i:=by omega
   have F:jT w s h (.wait y' t)={s with aj:=s.aj.set i (c7 {K with aa:=K.aa.set (df (r.aa.map (·.1)) y') (iD X (if so="turns" then eL w s h t else 0) h)})}:=by simp only[jT,Az,mY,e2,ti,nW d,iL e,hl,k3,Option.getD_some]
   rw[F]
   refine⟨λS Q q=>yP A G U d e (by omega) lb (by omega) u k3 hl (by omega) H q,?_⟩
   exact P.room d (((L.mono (Nat.le_succ n)).line (by rw[Cq];omega)).leave)
 | call y=>
   obtain⟨i,r,K,U,d,e,L,I,M⟩:=B b.1
   have u:=b.2
   rw[M] at u
   have b6:=I.l2
   have b7:=L.bl
   have ti:f.room.toNat=i:=by omega
   have F:jT w s h (.call y)={s with aj:=s.aj.set i (ik (decide (r.ah="when free")) K (df (r.aa.map (·.1)) y) h)}:=by simp only[jT,mY,e2,ti,nW d,iL e]
   rw[F]
   refine⟨λS Q q=>yz A G U d e (by omega) L.lb (by omega) (by omega) u q,?_⟩
   exact P.room d L.call
 | all y=>
   obtain⟨i,r,K,U,d,e,L,I,M⟩:=B b.1
   have u:=b.2
   rw[M] at u
   have b6:=I.l2
   have ti:f.room.toNat=i:=by omega
   have F:jT w s h (.all y)={s with aj:=s.aj.set i {K with aa:=K.aa.set (df (r.aa.map (·.1)) y) []}}:=by simp only[jT,mY,e2,ti,nW d,iL e]
   rw[F]
   refine⟨λS Q q=>Bd A G U d e (by omega) L.lb (by omega) u q,?_⟩
   exact P.room d ((L.mono (Nat.le_succ n)).line (by simp))
 | tell t=>
   obtain⟨Z,H⟩:=kI o x A G C b.2
   have F:jT w s h (.tell t)={s with af:=s.af.set h (vs,fs.dropLast++ [{f with told:=eL w s h t}])}:=by simp only[jT,e2,ir A]
   rw[F]
   exact⟨λS Q q=>zA H A G (by omega) (by omega) q,P.tells A G Z⟩
 | take y=>
   have u:=b.2
   rw[J b.1] at u
   obtain⟨p,j⟩:=k y u s.ai lp
   have pl:=x.ps p (mQg j)
   have F:jT w s h (.take y)={s with ai:=s.ai.set (df (w.ai.map (·.1)) y) (iS p h)}:=by simp only[jT,wQ,vA j]
   rw[F]
   exact⟨λS Q q=>y2 u j (by omega) (by omega) (by omega) q,P.pass (R p pl)⟩
 | give y=>
   have u:=b.2
   rw[J b.1] at u
   obtain⟨p,j⟩:=k y u s.ai lp
   have pl:=x.ps p (mQg j)
   have F:jT w s h (.give y)={s with ai:=s.ai.set (df (w.ai.map (·.1)) y) (gd p)}:=by simp only[jT,wQ,vA j]
   rw[F]
   exact⟨λS Q q=>yS u j (by omega) (by omega) q,P.pass (Nat.le_succ_of_le (N p pl))⟩
 | pass y z=>
   have u:=b.2.1
   have hz:=b.2.2
   rw[J b.1] at u hz
   obtain⟨p,j⟩:=k y u s.ai lp
   have pl:=x.ps p (mQg j)
   have x2:cI w n _:=x.pass (i:=df (w.ai.map (·.1)) y) (N p pl)
   obtain⟨p2,a2⟩:=k z hz (s.ai.set (df (w.ai.map (·.1)) y) (gd p)) (by simpa using lp)
   have c3:=x2.ps p2 (mQg a2)
   have F:jT w s h (.pass y z)={s with ai:=(s.ai.set (df (w.ai.map (·.1)) y) (gd p)).set (df (w.ai.map (·.1)) z) (iS p2 h)}:=by
     have e3:F4 (wQ s (df (w.ai.map (·.1)) y) (gd p)) (df (w.ai.map (·.1)) z)=p2:=vA a2
     simp only[jT,vA j]
     rw[e3]
     rfl
   rw[F]
   refine⟨λS Q q=>yx u hz j (by omega) (by omega) (by omega) a2 q,(x2.mono (Nat.le_succ n)).pass (R p2 c3)⟩
 |say t=>exact⟨λS Q q=>BP (sd:=.non) q,P⟩
end
section
variable{w:dj}{n h:Nat}{s:bc}{vs:List Int}{fs:List bV}{f:bV}{sc:Sc}
def cI.mays(o:gI w)(x:cI w n s)(t:n<=100):Ef w s:=by
 have v:=o.l1
 have z:=o.l2
 have A:=o.l4
 have G:=x.lr
 have B:=x.lp
 have y:=x.lh
 refine wL (λS Q q=>nZ t (by omega) (by omega) x.ps (λk j=> ?_) q) (λh m=> ?_) (by omega)
 ·obtain⟨i,c,e⟩:=QbQ j
  have b:s.aj[i]?=some k:=by rw[gQe c,e]
  have d:w.aj[i]?=some (w.aj[i]'(by omega)):=gQe (by omega)
  have a:=x.rm i _ k d b
  have:=(o.rm _ (mQg d)).l2
  have:=a.lb
  exact⟨a.br,a.bl,by omega,a.bb⟩
 ·obtain⟨⟨vs,fs⟩,b⟩:∃p,s.af[h]?=some p:=⟨_,gQe m⟩
  obtain⟨F,C,d,c⟩:=x.whand b
  obtain⟨f,r,u⟩:=c.last
  obtain⟨g,l,_⟩:=u.pr
  exact⟨vs,fs,f,g,b,r,l⟩
def jt(o:gI w)(x:cI w n s)(hn:n<=100)(hm:h∈jR w s)(b:s.af[h]?=some (vs,fs))(p:fs.getLast? =some f):rZ w s h (eK w s h).1 (eK w s h).2/\cI w (n+1) (eK w s h).1:=by
 have e1:=j_ b
 have L:=eI b p
 obtain⟨ts,a4,hw,Z⟩:=x.whand b
 have fi:=Z.fr f (QcQ p)
 obtain⟨pr,d,X,a5⟩:=fi.pr
 have b1:=o.l1
 have b4:=o.l4
 have lr:=x.lr
 have lh:=x.lh
 have lf:=Z.lf
 have nb:¬(f.room= -1/\f.row=pr.length):=by
  rintro⟨c1,c2⟩
  have:=(List.mem_filter.mp hm).2
  rw[QCq] at this
  have hb:sh w s h=true:=by
   unfold sh xb
   rw[b]
   show(match fs.getLast? with|some f=>_|none=>_)=_
   rw[p]
   simp only[d,Option.getD_some,c1,c2,decide_true,Bool.and_true]
  rw[hb] at this
  exact absurd this.2 (by decide)
 by_cases c:f.room= -1
 ·
  have K:pr=a4:=by
   unfold progOf at d
   rw[Qhq c,hw] at d
   cases d;rfl
  subst K
  have G:f.row.toNat<pr.length:=by
   have:f.row≠pr.length:=λz=>nb ⟨c,z⟩
   omega
  have a:pr[f.row.toNat]?=some (pr[f.row.toNat]):=gQe G
  generalize pr[f.row.toNat]=r at a
  obtain⟨sc,I,H⟩:=Dx o d
  have l:=H r (mQg a)
  have P:Hs w s h r (FW w s h r):=by
   cases r with
   |say t=>exact⟨_,rfl,(kI o x b p I l.2).2⟩
   |_=>rfl
  have F:eK w s h=(jT w {s with af:=s.af.set h (vs,fs.dropLast++ [{f with row:=f.row+1}])} h r,FW w s h r):=by
   unfold eK jP
   rw[L,Quq (λz=>z.1 c),d]
   simp only
   rw[Quq (λz=>nb ⟨c,z⟩),a,ir b]
  rw[F]
  have N:=x.goes b p d (m:=f.row+1) (by omega) (by omega)
  have U:h<s.af.length:=(gQs.mp b).1
  obtain⟨M,u⟩:=AM (f:={f with row:=f.row+1}) (r:=r) (pr:=pr) o N hn (Qyq U) (by simp) d (by show 1<=f.row+1;omega) (by show pr[(f.row+1-1).toNat]?=_;rw[show f.row+1-1=f.row by omega];exact a)
  exact⟨wH b p (.inl c) d X a (by omega) (by omega) P M,u⟩
 ·
  rcases jH d with⟨c',_⟩|⟨i,j,r,dn,h1,h2,h3,h4⟩
  ·exact absurd c' c
  obtain⟨J,k,ri⟩:=x.wroom h3
  have br:=ri.br
  have ti:f.room.toNat=i:=by omega
  by_cases R:J.within=h
  ·have A:Here s h f:=.inr ⟨i,J,h1,k,R⟩
   by_cases ce:f.row=pr.length
   ·
    have W:=lP p
    have M:=Z.hd
    rw[W] at M
    obtain⟨C,B,hg⟩:=M.two c
    have a0:fs=C++ [B,f]:=by rw[W,hg];simp
    subst a0
    obtain⟨a3,a2⟩:=Z.pop
    obtain⟨a6,g,rn,a1,t,Y,p2,p3⟩:=a2
    have eo:u_ s h={s with aj:=s.aj.set i (c7 J),af:=s.af.set h (vs,C++ [B])}:=by
     unfold u_
     rw[L,e1,ti,iL k]
     simp only[mY]
     rw[show C++ [B,f]=(C++ [B])++ [f] by simp,List.dropLast_concat]
    have ho:(u_ s h).af[h]?=some (vs,C++ [B]):=by rw[eo];exact Qyq (gQs.mp b).1
    have eb:FG w (u_ s h) h=some (.do_ g rn a1 t):=by
     unfold FG
     rw[eI ho (f:=B) (by simp),Y]
     exact p3
    have F:eK w s h=(yR w s h,none):=by
     unfold eK
     rw[L,ti,iL k,Quq (λz=>z.2 R),d]
     simp only
     rw[Qhq ce]
    have N:cI w n {s with aj:=s.aj.set i (c7 J),af:=s.af.set h (vs,C++ [B])}:=(x.hand hw a3).room h3 ri.leave
    obtain⟨sc,I,H⟩:=Dx o Y
    have l:=H _ (mQg p3)
    have U:h<s.af.length:=(gQs.mp b).1
    cases g with
    | none=>
      have ee:yR w s h={s with aj:=s.aj.set i (c7 J),af:=s.af.set h (vs,C++ [B])}:=by unfold yR;rw[eb];exact eo
      rw[F,ee]
      exact⟨wU b p A d ce λS Q q=>o9 b h1 k (by omega) (by omega) Y p2 p3 (λ_ e=>e.symm) q,N.mono (Nat.le_succ n)⟩
    | some y=>
      obtain⟨K,u⟩:=AJ (y:=y) (v:=f.told) o N (Qyq U) (by simp) I (l.1 y rfl) fi.tv
      have ee:yR w s h=vo w {s with aj:=s.aj.set i (c7 J),af:=s.af.set h (vs,C++ [B])} h y f.told:=by unfold yR;rw[eb,eo,L]
      rw[F,ee]
      exact⟨wU b p A d ce λS Q q=>o9 b h1 k (by omega) (by omega) Y p2 p3 (λ_ e=>by rw[e];exact K) q,u.mono (Nat.le_succ n)⟩
   ·
    have G:f.row.toNat<pr.length:=by omega
    have a:pr[f.row.toNat]?=some (pr[f.row.toNat]):=gQe G
    generalize pr[f.row.toNat]=r' at a
    have l:=((o.rm _ (mQg h3)).pr _ (mQg h4)).1 r' (mQg a)
    have he:Hs w s h r' none:=by
     cases r' with
     |say t=>exact absurd l.1 (show¬(false=true) by decide)
     |_=>rfl
    have N:=x.goes b p d (m:=f.row+1) (by omega) (by omega)
    have U:h<s.af.length:=(gQs.mp b).1
    have F:eK w s h=(jT w {s with af:=s.af.set h (vs,fs.dropLast++ [{f with row:=f.row+1}])} h r',none):=by
     unfold eK jP
     rw[L,ti,iL k,Quq (λz=>z.2 R),d]
     simp only
     rw[Quq ce,a,ir b]
     refine congrArg (Prod.mk _) ?_
     cases r' with
     |say t=>exact absurd l.1 (show¬(false=true) by decide)
     |_=>rfl
    rw[F]
    obtain⟨M,u⟩:=AM (f:={f with row:=f.row+1}) (r:=r') (pr:=pr) o N hn (Qyq U) (by simp) d (by show 1<=f.row+1;omega) (by show pr[(f.row+1-1).toNat]?=_;rw[show f.row+1-1=f.row by omega];exact a)
    exact⟨wH b p A d X a (by omega) (by omega) he M,u⟩
  ·
   have F:eK w s h=({s with aj:=s.aj.set i (fq J h)},none):=by
    unfold eK
    rw[L,ti,iL k,Qhq ⟨c,R⟩]
    rfl
   rw[F]
   exact⟨Bp b p h1 k R (by omega) (by omega),(x.mono (Nat.le_succ n)).room h3 ri.come⟩
end
end W28
namespace DL
open PySem PySem.Spec L2
section
variable{Γ:dt}{S:aI}
def EC{f:fE}{Q:(List D×(aI->Prop))->aI->Prop}(h:E f Γ S λp a=>Q (mh 0 p.1,λc=>p.2.stays c p.1) a):E (Aw f) Γ S Q:=by
 obtain⟨p,a,b,q⟩:=h
 exact⟨_,a,by unfold Aw;rw[b];rfl,q⟩
def JU{f:fE}{Q:D->aI->Prop}(h:E f Γ S λp a=>p.2.isL=true/\∃bs,HM p.1=some bs/\Q (.bl (bs.all id)) a):E (FZ f) Γ S Q:=by
 obtain⟨p,a,b,l,bs,c,q⟩:=h
 exact⟨_,a,by unfold FZ;rw[b];simp only[Qbq];rw[Qhq l,c];rfl,q⟩
def Dg{i j:Int}{Q:D->Prop}(h:D2 i j)(q:Q (.int (i^j.toNat))):Op (uP S (.int i) (.int j)) Q:=⟨_,by simp only[uP,intD];rw[Qhq h],q⟩
def Hg{i j:Int}{Q:D->Prop}(h:IntMulOk i j)(q:Q (.int (i*j))):Op (lM S (.int i) (.int j)) Q:=⟨_,by simp only[lM,intD];rw[Qhq h],q⟩
end
theorem xA:∀n:Nat,HM (List.replicate n (.bl true))=some (List.replicate n true)
 |0=>rfl
 |n+1=>by simp only[QNq,HM];rw[xA n];rfl
end DL
namespace W28
open PySem PySem.Spec L2 DL
section
variable{S S0:aI}{Q:Res->aI->Prop}
def Bm(l:List Nat):l.map c8=(l.map λh:Nat=>(h:Int)).map D.int:=by rw[QPq];rfl
end
section
variable{S S0:aI}{Q:Res->aI->Prop}
def Pl:Nat->D->Prop
 |0,_=>False
 |_+1,.int _=>True
 |_+1,.str _=>True
 |n+1,.tup ds=>ds.length<=1000/\∀d∈ds,Pl n d
 |_+1,_=>False
theorem xU:∀ds:List D,sM ds ds=ds.map λd=>D.tup [d,d]
 | []=>rfl
 | d::ds=>by
   have:=xU ds
   simp only[sM,List.zipWith_cons_cons,QDq] at this⊢
   rw[this]
theorem mO:∀(n:Nat) (d:D) {S:aI} {Q:Res->aI->Prop},Pl n d->Q (.d (.bl true)) S->Fn (eQ n) [d,d] S Q
 |0,_,_,_,h,_=>h.elim
 | n+1,.int i,S,Q,_,q=>by
   refine bX ?_
   unfold jr
   refine cv (gV (dF (d:=.int i) (cR rfl ⟨rfl,rfl⟩) rfl ?_))
   refine aW (λc=>by cases c) (λ_=>cf ?_)
   refine cv (gV (Di (dF (d:=.int i) (cR rfl ⟨rfl,rfl⟩) rfl ?_)))
   apply aW (λc=>by cases c) (λ_=> ?_)
   refine wc ?_
   refine aW (λc=>by cases c) (λ_=>cf ?_)
   refine rg (vN (wW (cR rfl ⟨_,rfl,true,rfl,?_⟩)))
   rw[Qhq rfl]
   refine vN (G_ (wW (cR rfl ⟨_,rfl,false,rfl,true,rfl,?_⟩)))
   rw[Qhq rfl]
   symm
   refine ij ?_
   rw[Qeq rfl]
   exact bW (λk z=>(nomatch z)) rfl q
 | n+1,.str i,S,Q,_,q=>by
   refine bX ?_
   unfold jr
   refine cv (gV (dF (d:=.str i) (cR rfl ⟨rfl,rfl⟩) rfl ?_))
   refine aW (λc=>by cases c) (λ_=>cf ?_)
   refine cv (gV (Di (dF (d:=.str i) (cR rfl ⟨rfl,rfl⟩) rfl ?_)))
   refine aW (λ_=> ?_) (λc=>by cases c)
   refine aW (λ_=> ?_) (λc=>by cases c)
   refine rg (vN (zw (wW (cR rfl ⟨_,rfl,wW (cR rfl ⟨_,rfl,.bl true,rfl,true,rfl,?_⟩)⟩))))
   rw[Qhq rfl]
   symm
   refine hG ?_
   rw[Qeq rfl]
   exact bW (λk z=>(nomatch z)) rfl q
 | n+1,.tup ds,S,Q,h,q=>by
   refine bX ?_
   unfold jr
   refine cv (gV (dF (d:=.tup ds) (cR rfl ⟨rfl,rfl⟩) rfl ?_))
   refine aW (λ_=> ?_) (λc=>by cases c)
   refine cv (gV (Di (Hz (dF (d:=.tup ds) (cR rfl ⟨rfl,rfl⟩) rfl ?_))))
   apply aW (λc=>by cases c) (λ_=> ?_)
   refine lz ?_
   rw[Qeq rfl]
   refine aW (λc=>by cases c) (λ_=>cf ?_)
   refine rg (JU (Iw ?_))
   apply kD (α:=D) (λe=>∃a b,e= [a,b]) (λd=>D.tup [d,d]) (λ_=>.bl true) (λ_=>true) ⟨none,none,rfl⟩ (qN ?_)
   refine⟨⟨trivial,Qmq _⟩,ds,xU ds,⟨trivial,trivial⟩,h.1,λd g e f=> ?_,?_⟩
   · obtain⟨a,b,rfl⟩:=f
     refine eA rfl (aB (bg (aB (bg (bq ?_)))))
     apply⟨rfl,⟨_,_,rfl⟩,vP ⟨rfl,rfl,λ_=> ?_⟩⟩
     exact mO n d (h.2 d g) ⟨rfl,rfl⟩
   · refine⟨rfl,List.replicate ds.length true,?_,?_⟩
     · rw[←xA]
       congr 1
       rw[List.filter_eq_self.mpr (λ_ _=>rfl),List.map_const']
     · have:(List.replicate ds.length true).all id=true:=by simp
       rw[this]
       exact bW (λk z=>(nomatch z)) rfl q
end
abbrev BF:=List (Nat×bc×Option Int)
def jQ(w:dj)(tr:BF):bc:=match tr.getLast? with
 |none=>dr w
 |some x=>x.2.1
def sX(x:Nat×bc×Option Int):List (Nat×Int):=match x.2.2 with
 |none=> []
 |some v=> [(x.1,v)]
def F9(tr:BF):List (Nat×Int):=tr.flatMap sX
def K4(p:Nat×Int):D:=.tup [.int p.1,.int p.2]
def si(w:dj)(tr:BF):Prop:=∀(n:Nat) (h:Nat) (a:bc) (e:Option Int),tr[n]?=some (h,a,e)->Ef w (jQ w (tr.take n))/\h∈jR w (jQ w (tr.take n))/\rZ w (jQ w (tr.take n)) h a e
def A3{w:dj}{tr:BF}{n:Nat}{x:Nat×bc×Option Int}(h:tr[n]?=some x):jQ w (tr.take (n+1))=x.2.1:=by
 unfold jQ
 rw[QYq,h]
 simp
def i3{w:dj}{tr:BF}{x:Nat×bc×Option Int}:jQ w (tr++ [x])=x.2.1:=by
 unfold jQ
 simp
def si.app{w:dj}{tr:BF}{h:Nat}{s':bc}{e:Option Int}(x:si w tr)(d:Ef w (jQ w tr))(i:h∈jR w (jQ w tr))(f:rZ w (jQ w tr) h s' e):si w (tr++ [(h,s',e)]):=by
 intro n l k j a
 by_cases c:n<tr.length
 ·rw[QHq c] at a
  rw[List.take_append_of_le_length (by omega)]
  exact x n l k j a
 ·have g:=(gQs.mp a).1
  have b:n=tr.length:=by simp at g;omega
  subst b
  simp at a
  obtain⟨rfl,rfl,rfl⟩:=a
  rw[List.take_append_of_le_length (by omega),QEq]
  exact⟨d,i,f⟩
def E7{tr:BF}:(F9 tr).length<=tr.length:=by
 have:=kb (f:=sX) (n:=1) (l:=tr) λx _=>by unfold sX;split <;>simp
 unfold F9
 omega
def xx(w:dj)(tr:BF):D:=.tup [(jQ w tr).d,.tup ((F9 tr).map K4)]
section
variable{S S0:aI}{Q:Res->aI->Prop}
def tj{w:dj}{tr:BF}(o:gI w)(ok:si w tr)(F:tr.length<=900)(q:Q (.d (xx w tr)) S):Fn mJ [w.d,.tup ((tr.map (·.1)).map c8)] S Q:=by
 refine bX ?_
 unfold zT
 symm
 apply yg o ?_
 refine⟨by decide,?_⟩
 apply cv (mT (EC ?_))
 refine⟨λn g p=>(∃a b c,g= [some w.d,some (.tup ((tr.map (·.1)).map c8)),some (jQ w (tr.take n)).d,some (.ref S.length),a,b,c])/\p=S++ [.lst ((F9 (tr.take n)).map K4)],⟨⟨_,_,_,rfl⟩,rfl⟩,λ_ _ _ _=>trivial,?_,?_⟩
 ·rintro n d g p B ⟨⟨a,b,c,rfl⟩,rfl⟩
  obtain⟨x,u,rfl⟩:=nk B
  rw[gQm,gQm] at u
  obtain⟨G,i,rfl⟩:=oQm.mp u
  obtain⟨⟨h,l,e⟩,f,rfl⟩:=oQm.mp i
  obtain⟨y,t,A⟩:=ok n h l e f
  have r:jQ w (tr.take (n+1))=l:=A3 f
  have j:F9 (tr.take (n+1))=F9 (tr.take n)++sX (h,l,e):=fJ f
  have C:(F9 (tr.take n)).length<=900:=by
   have:=E7 (tr:=tr.take n)
   rw[Qxq] at this
   omega
  generalize jQ w (tr.take n)=s at y t A⊢
  generalize F9 (tr.take n)=es at j C⊢
  refine eA rfl (aB (bg (aB (bg (bq ?_)))))
  apply cv (gV (gq (wI ?_)))
  refine y _ _ ?_
  dsimp only
  refine⟨_,_,rfl,by rw[Bm];exact ef _,?_⟩
  rw[jB,Qeq (Qkq.mpr ⟨h,t,rfl⟩)]
  apply aW (λc=>by cases c) (λ_=>cf ?_)
  refine A _ _ ?_
  apply eA rfl (aB (bg (aB (bg (bq ?_)))))
  refine wc ?_
  cases e with
  | none=>
    refine aW (λc=>by cases c) (λ_=>cf ?_)
    refine⟨⟨_,_,_,by rw[r];rfl⟩,?_⟩
    rw[j]
    simp[sX]
  | some v=>
    refine aW (λ_=> ?_) (λc=>by cases c)
    apply DJ (EB ?_)
    apply⟨_,_,rfl,bM,?_⟩
    refine⟨_,bM,⟨_,by unfold DG;exact Qhq (by rw[lQm];exact bo (by omega)),?_⟩⟩
    refine⟨⟨_,_,_,by rw[r];rfl⟩,?_⟩
    rw[j]
    simp[sX,K4,Ka]
 ·rintro g p ⟨⟨a,b,c,rfl⟩,rfl⟩
  have m:(mh 0 ((tr.map (·.1)).map c8)).length=tr.length:=by rw[nR];simp
  rw[m,QEq]
  symm
  refine iK bM ?_
  apply⟨rfl,?_⟩
  refine⟨by show 2<=_;decide,?_⟩
  refine ui (d:=xx w tr) (pk.refl.app) (λk z=>(nomatch z)) ?_ q
  simp only[xx,cD,bS,bc.low,Bool.and_true,Bool.true_and]
  exact bT λ_ _=>rfl
end
end W28
namespace DL
open PySem PySem.Spec L2
def DC{S:aI}{k:Nat}{ds:List D}{Q:List D×Tag->Prop}(a:S[k]?=some (.frz ds))(q:Q (ds,.fz k)):Op (m5 S (.ref k)) Q:=⟨_,by simp only[m5,a],q⟩
def J9{S:aI}{k:Nat}{ds:List D}{i:Int}{d:D}{Q:D->Prop}(a:S[k]?=some (.frz ds))(h:kW ds i=some d)(q:Q d):Op (aS S (.ref k) (.int i)) Q:=⟨_,by simp only[aS,a];exact h,q⟩
def Jr{i:Int}{Q:D->Prop}(q:Q (.int (if i<0 then -i else i))):Op (Ft [.int i]) Q:=⟨_,rfl,q⟩
def CM{b:Bool}{Q:D->Prop}(q:Q (.int (if b then 1 else 0))):Op (intOfD [.bl b]) Q:=⟨_,rfl,q⟩
def qf{j:Nat}{n:Nat}{d:D}(h:(q_ 0 (j:Int))[n]?=some d):d=.int n/\n<j:=by
 have a:n<j:=by
  have:=(gQs.mp h).1
  unfold q_ at this
  simpa using this
 unfold q_ at h
 rw[gQm,List.getElem?_range (by simpa using a)] at h
 cases h
 exact⟨by simp,a⟩
def ya{j:Nat}:(q_ 0 (j:Int)).length=j:=by
 unfold q_
 simp
end DL
namespace W28
open PySem PySem.Spec L2 DL
section
variable{S:aI}{Q:Res->aI->Prop}
def Hr{ns:List Int}{k:Nat}(i:S[0]?=some (.frz (ns.map D.int)))(q:∀a b:Int,Q (.l [.int a,.int b,.int 0]) S):Fn kO [.ref 0,.int k] S Q:=by
 refine bX ?_
 unfold ub
 have f:∀e:Int,T (aK (bu 3 (aG lM (aG pF (av 2) (aG lM (aG uP (cF (.int 10)) (cF (.int 60))) (aG uP (cF (.int 10)) (cF (.int 60))))) (Ap intOfD (au (aG KR (av 2) (aG uP (cF (.int 10)) (cF (.int 18)))) aA))))
   (Gq (gn (au (av 3) (au (aG pF (aG cJ (aG cJ (av 2) (aG lM (cF (.int 104729)) (av 1))) (cF (.int 7))) (cF (.int 2305843009213693951))) (au (cF (.int 0)) aA))))))
   [some (.ref 0),some (.int k),some (.int e),none] S (λo=>match o with
   |.nx _ g=>Op (settle S .non g) λp=>Q p.1 p.2|.rt d g=>Op (settle S d g) λp=>Q p.1 p.2|.rl l g=>Op (fj S l g) λp=>Q p.1 p.2|_=>False):=by
  intro e
  symm
  apply Dg ⟨by decide,by decide,by decide⟩ ?_
  apply Dg ⟨by decide,by decide,by decide⟩ ?_
  refine Hg (IntMulOk.of_bits (by decide +kernel) (by decide +kernel)) ?_
  refine sg (show(0:Int)<10^(60:Int).toNat*10^(60:Int).toNat by decide +kernel) ?_
  generalize e%(10^(60:Int).toNat*10^(60:Int).toNat)=c1
  symm
  refine Dg ⟨by decide,by decide,by decide⟩ ?_
  generalize (10:Int)^(18:Int).toNat=c2
  symm
  refine CM ?_
  have h:FJ c1 (if decide (c2<=e)=true then 1 else 0):=by
   right
   split <;>decide
  generalize (if decide (c2<=e)=true then(1:Int) else 0)=c3 at h⊢
  apply tY h ?_
  apply tY (.inl ⟨by decide,by decide⟩) ?_
  apply sg (by decide) ?_
  refine⟨by show 3<=_;decide,?_⟩
  exact Cz rfl (q _ _)
 symm
 apply DC i ?_
 rw[lQm]
 by_cases c:(k:Int)<ns.length
 ·rw[Qeq c,Qhq rfl]
  have j:k<ns.length:=by omega
  symm
  refine J9 i (aZ (x:=.int ns[k]) (by rw[gQm,gQe j];rfl)) ?_
  symm
  refine Jr ?_
  exact f _
 ·rw[Qdq c,Quq (by decide)]
  refine cf ?_
  exact f 0
end
end W28
namespace DL
open PySem PySem.Spec L2
theorem AS{α:Type}(d:α):∀n:Nat,(List.replicate n [d]).flatten=List.replicate n d
 |0=>rfl
 |n+1=>by rw[QNq,QNq,List.flatten_cons,AS d n];rfl
theorem zip_map{α a:Type}(f:α->D)(g:a->D):∀(xs:List α) (ys:List a),sM (xs.map f) (ys.map g)=(xs.zip ys).map λp=>D.tup [f p.1,g p.2]
 | [],_=>rfl
 |_::_,[]=>rfl
 | x::xs,y::ys=>by
   have:=zip_map f g xs ys
   simp only[sM,QDq,List.zipWith_cons_cons,List.zip_cons_cons] at this⊢
   rw[this]
end DL
namespace W28
open PySem PySem.Spec L2 DL
def jn(l:List Int)(h:Int):Nat:=(l.map V.int).countP λz=>nh z (.int h)
def cQ{l:List Int}{h:Int}:jn l h=0↔h∉l:=by
 induction l with
 |nil=>simp[jn]
 | cons a l b=>
   unfold jn at b⊢
   rw[QDq,List.countP_cons]
   by_cases c:a=h
   · subst c
     simp[nh]
   · have d:¬h=a:=λz=>c z.symm
     have e:nh (.int a) (.int h)=false:=by simp[nh,c]
     rw[e]
     simp only[Qsq,not_or,d,not_false_eq_true,true_and]
     simpa using b
def Au(h:Nat)(p:(Str×Nat)×(Int×List Int)):List D:=List.replicate (jn p.2.2 h) (.tup [.str "pass",.str p.1.1])
def jJ(h:Nat)(nm:Str)(p:(Str×Str)×List (Int×Int)):List D:=List.replicate (p.2.filter λq=>decide (q.2=(h:Int))).length (.tup [.str "bell",.str nm,.str p.1.1])
def j3(h:Nat)(p:Rm×dI):List D:=List.replicate (jn p.2.row h) (.tup [.str "row",.str p.1.name])++List.replicate (jn p.2.ag h) (.tup [.str "late",.str p.1.name])
def fX(h:Nat)(p:Rm×dI):List D:=j3 h p++(p.1.aa.zip p.2.aa).flatMap (jJ h p.1.name)
def eY(w:dj)(s:bc)(h:Nat):List D:=(w.ai.zip s.ai).flatMap (Au h)++(w.aj.zip s.aj).flatMap (fX h)
def pS{n:Nat}{d:D}(h:cD 0 d=true):∀x∈List.replicate n d,cD 0 x=true:=λx a=>by rw[QkQ a];exact h
def BO(w:dj)(s:bc)(h:Nat):bS 0 (eY w s h)=true:=by
 refine mi λd b=> ?_
 unfold eY at b
 rcases mQa.mp b with b|b
 ·obtain⟨p,_,a⟩:=QOq.mp b
  exact pS rfl d a
 ·obtain⟨p,_,a⟩:=QOq.mp b
  unfold fX j3 at a
  rcases mQa.mp a with a|a
  ·rcases mQa.mp a with a|a
   ·exact pS rfl d a
   ·exact pS rfl d a
  ·obtain⟨q,_,c⟩:=QOq.mp a
   exact pS rfl d c
section
variable{w:dj}{n:Nat}{s:bc}{S:aI}{Q:Res->aI->Prop}
def cI.zroom(x:cI w n s){j:Nat}{p:Rm×dI}(h:(w.aj.zip s.aj)[j]?=some p):w.aj[j]?=some p.1/\s.aj[j]?=some p.2/\i9 n p.1 p.2:=by
 rw[List.getElem?_zip_eq_some] at h
 exact⟨h.1,h.2,x.rm j _ _ h.1 h.2⟩
end
def qe(w:dj)(h:Nat):Nat:=((w.af[h]?).map λp=>p.2.length).getD 0
def KE(w:dj)(i:Int):Str:=((w.aj[i.toNat]?).map (·.name)).getD ""
def wit(s:bc)(i:Int):Int:=((s.aj[i.toNat]?).map (·.within)).getD (-1)
def s_(w:dj)(s:bc)(h:Nat)(f:bV):Str:=if f.room= -1 then(if f.row=(qe w h:Int) then "done" else "out") else(if wit s f.room=(h:Int) then "within" else "called")
def qo(w:dj)(s:bc)(h:Nat)(f:bV):D:=if f.room= -1 then .tup [.str (s_ w s h f)] else .tup [.str (s_ w s h f),.str (KE w f.room)]
def fS(w:dj)(s:bc)(h:Nat)(f:bV):D:=match eY w s h with
 |d::_=>d
 | []=>qo w s h f
section
variable{w:dj}{n h:Nat}{s:bc}{S:aI}{Q:Res->aI->Prop}{vs:List Int}{fs:List bV}{f:bV}
def mS{b:Bool}{Q:D->Prop}(q:Q (.int (if b then 1 else 0))):Op (intOfD [.bl b]) Q:=⟨_,rfl,q⟩
def cI.at(x:cI w n s)(p:s.af[h]?=some (vs,fs))(l:fs.getLast? =some f):f.room= -1\/∃(i:Nat) (r:Rm) (b:dI),f.room=i/\w.aj[i]?=some r/\s.aj[i]?=some b/\KE w f.room=r.name/\wit s f.room=b.within:=by
 obtain⟨y,v,q,k⟩:=x.whand p
 have o:=k.fr f (QcQ l)
 obtain⟨m,g,_⟩:=o.pr
 rcases jH g with⟨c,_⟩|⟨i,j,r,A,d,u,e,z⟩
 ·exact .inl c
 ·obtain⟨b,a,t⟩:=x.wroom e
  refine .inr ⟨i,r,b,d,e,a,?_,?_⟩
  ·unfold KE
   rw[d,show((i:Int)).toNat=i by omega,e]
   rfl
  ·unfold wit
   rw[d,show((i:Int)).toNat=i by omega,a]
   rfl
def Bq{d:D}(e:d∈eY w s h):∃(a:Str) (g:List Str),d=.tup ((a::g).map D.str)/\a∈(["pass","row","late","bell"]:List Str)/\g.length<=2:=by
 unfold eY at e
 rcases mQa.mp e with c|c
 ·obtain⟨p,_,b⟩:=QOq.mp c
  exact⟨"pass",[p.1.1],QkQ b,by simp,by simp⟩
 ·obtain⟨p,_,b⟩:=QOq.mp c
  unfold fX j3 at b
  rcases mQa.mp b with b|b
  ·rcases mQa.mp b with b|b
   ·exact⟨"row",[p.1.name],QkQ b,by simp,by simp⟩
   ·exact⟨"late",[p.1.name],QkQ b,by simp,by simp⟩
  ·obtain⟨q,_,i⟩:=QOq.mp b
   exact⟨"bell",[p.1.name,q.1.1],QkQ i,by simp,by simp⟩
end
def headD(l:List D):D:=match l with
 |d::_=>d
 | []=>.non
def iP{α:Type}{f:α->List D}{l:List α}{n:Nat}{a:α}{d:D}{r:List D}(g:(l.take n).flatMap f= [])(b:l[n]?=some a)(hd:f a=d::r):∃t,l.flatMap f=d::t:=by
 have e:l=l.take n++a::l.drop (n+1):=by
  have c:=(gQs.mp b).1
  rw[gQe c] at b
  cases b
  rw[←QWq c,List.take_append_drop]
 rw[e,List.flatMap_append,g,QSq,hd]
 exact⟨_,rfl⟩
def pZ{α:Type}{n:Nat}{d:α}(h:n≠0):∃t,List.replicate n d=d::t:=by
 cases n with
 |zero=>exact absurd rfl h
 |succ n=>exact⟨_,QNq⟩
def tN{h:Nat}{l:List (Int×Int)}:(l.filter λq=>decide (q.2=(h:Int))).length=0↔(h:Int)∉l.map (·.2):=by
 rw[List.length_eq_zero_iff,List.filter_eq_nil_iff]
 constructor
 ·intro g z
  obtain⟨q,a,e⟩:=Qkq.mp z
  exact g q a (Qeq e)
 ·intro g q a z
  exact g (Qkq.mpr ⟨q,a,QZq z⟩)
section
variable{w:dj}{n h:Nat}{s:bc}{S:aI}{Q:Res->aI->Prop}{vs:List Int}{fs:List bV}{f:bV}
def DM(o:gI w)(x:cI w n s)(hn:n<=100)(q:Q (.d (headD (eY w s h))) S):Fn eP [w.d,s.d,.int h] S Q:=by
 have lr:=x.lr
 have lp:=x.lp
 have r:∀{d:D} {t:List D} {R:Res->aI->Prop},eY w s h=d::t->(∀k,d≠.ref k)->cD 0 d=true->Op (settle S d S) λp=>Q p.1 p.2:=λ{d t R} e h1 h2=>by
  rw[e] at q
  exact bW h1 h2 q
 refine bX ?_
 unfold jK
 apply cv (mT (qN ?_))
 refine ay rfl ?_
 apply cU (ds:=w.ai.map vU) ?_
 refine ay rfl ?_
 refine cU (ds:=s.ai.map yt) ?_
 refine⟨⟨trivial,by simp only[lQm];omega⟩,?_⟩
 rw[zip_map]
 refine⟨λj l L=>(∃a b c d e f g i k,l= [some w.d,some s.d,some (.int h),a,b,c,d,e,f,g,i,k])/\L=S/\((w.ai.zip s.ai).take j).flatMap (Au h)= [],⟨⟨_,_,_,_,_,_,_,_,_,rfl⟩,rfl,rfl⟩,λ_ _ _ _=>⟨trivial,trivial⟩,?_,?_⟩
 ·rintro j d l L A ⟨⟨a,b,c,G,e,P,g,i,k,rfl⟩,rfl,h0⟩
  rw[gQm] at A
  obtain⟨p,y,rfl⟩:=oQm.mp A
  refine eA rfl (aB (eA rfl (aB (bg (aB (bg (bq ?_)))))))
  refine aB (eA rfl (aB (bg (aB (bg (bq ?_))))))
  refine bq ?_
  apply gV (gq (wI ?_))
  refine cU (ds:=p.2.2.map D.int) ?_
  refine⟨_,_,rfl,ef _,?_⟩
  rw[jB]
  show if decide ((h:Int)∈p.2.2)=true then _ else _
  by_cases v:(h:Int)∈p.2.2
  ·rw[Qeq v,Qhq rfl]
   symm
   refine⟨by show 2<=_;decide,?_⟩
   obtain⟨t,C⟩:=pZ (n:=jn p.2.2 h) (d:=D.tup [.str "pass",.str p.1.1]) λz=>cQ.mp z v
   obtain⟨H,u⟩:=iP h0 y (show Au h p=_::_ from C)
   exact r (R:=Q) (show eY w s h=_::(H++_) by unfold eY;rw[u];rfl) (λk z=>(nomatch z)) rfl
  ·rw[Qdq v,Quq (by decide)]
   refine cf ?_
   refine⟨⟨_,_,_,_,_,_,_,_,_,rfl⟩,rfl,?_⟩
   rw[fJ y,h0]
   unfold Au
   rw[cQ.mpr v]
   rfl
 rintro l L ⟨⟨a,b,c,G,e,P,g,i,k,rfl⟩,rfl,h0⟩
 rw[lQm,QEq] at h0
 have K:eY w s h=(w.aj.zip s.aj).flatMap (fX h):=by unfold eY;rw[h0];rfl
 apply cv (mT (qN ?_))
 refine ay rfl ?_
 apply cU (ds:=w.aj.map Rm.d) ?_
 refine ay rfl ?_
 refine cU (ds:=s.aj.map dI.d) ?_
 refine⟨⟨trivial,by simp only[lQm];omega⟩,?_⟩
 rw[zip_map]
 refine⟨λj l J=>(∃a b c d e f g i k,l= [some w.d,some s.d,some (.int h),a,b,c,d,e,f,g,i,k])/\J=L/\((w.aj.zip s.aj).take j).flatMap (fX h)= [],⟨⟨_,_,_,_,_,_,_,_,_,rfl⟩,rfl,rfl⟩,λ_ _ _ _=>⟨trivial,trivial⟩,?_,?_⟩
 ·rintro j d l J A ⟨⟨a,b,c,G,e,P,g,i,k,rfl⟩,rfl,h1⟩
  rw[gQm] at A
  obtain⟨p,y,rfl⟩:=oQm.mp A
  obtain⟨a0,Z,X⟩:=x.zroom y
  have lb:=X.lb
  refine eA rfl (aB (bg (aB (bg (bq ?_)))))
  apply cv (gV (gq (wI ?_)))
  refine ay rfl ?_
  refine cU (ds:=p.2.row.map D.int) ?_
  refine⟨_,_,rfl,ef _,?_⟩
  rw[jB]
  show if decide ((h:Int)∈p.2.row)=true then _ else _
  by_cases v:(h:Int)∈p.2.row
  ·rw[Qeq v,Qhq rfl]
   symm
   apply ay (d:=.str p.1.name) rfl ?_
   refine⟨by show 2<=_;decide,?_⟩
   obtain⟨t,C⟩:=pZ (n:=jn p.2.row h) (d:=D.tup [.str "row",.str p.1.name]) λz=>cQ.mp z v
   obtain⟨H,u⟩:=iP h1 y (show fX h p=_::_ by unfold fX j3;rw[C];rfl)
   exact r (R:=Q) (K.trans u) (λk z=>(nomatch z)) rfl
  rw[Qdq v,Quq (by decide)]
  refine cf ?_
  have Y:List.replicate (jn p.2.row h) (D.tup [.str "row",.str p.1.name])= []:=by rw[cQ.mpr v];rfl
  apply cv (gV (gq (wI ?_)))
  refine ay rfl ?_
  refine cU (ds:=p.2.ag.map D.int) ?_
  refine⟨_,_,rfl,ef _,?_⟩
  rw[jB]
  show if decide ((h:Int)∈p.2.ag)=true then _ else _
  by_cases M:(h:Int)∈p.2.ag
  ·rw[Qeq M,Qhq rfl]
   symm
   apply ay (d:=.str p.1.name) rfl ?_
   refine⟨by show 2<=_;decide,?_⟩
   obtain⟨t,C⟩:=pZ (n:=jn p.2.ag h) (d:=D.tup [.str "late",.str p.1.name]) λz=>cQ.mp z M
   obtain⟨H,u⟩:=iP h1 y (show fX h p=_::_ by unfold fX j3;rw[Y,C];rfl)
   exact r (R:=Q) (K.trans u) (λk z=>(nomatch z)) rfl
  rw[Qdq M,Quq (by decide)]
  refine cf ?_
  have z2:j3 h p= []:=by unfold j3;rw[Y,cQ.mpr M];rfl
  have F:fX h p=(p.1.aa.zip p.2.aa).flatMap (jJ h p.1.name):=by unfold fX;rw[z2];rfl
  apply mT (qN ?_)
  refine ay rfl ?_
  apply cU (ds:=p.1.aa.map Ba) ?_
  refine ay rfl ?_
  refine cU (ds:=p.2.aa.map bZ) ?_
  refine⟨⟨trivial,by simp only[lQm];omega⟩,?_⟩
  rw[zip_map]
  refine⟨λm l N=>(∃a b c d g i k,l= [some w.d,some s.d,some (.int h),a,b,c,d,some p.1.d,some p.2.d,g,i,k])/\N=J/\((p.1.aa.zip p.2.aa).take m).flatMap (jJ h p.1.name)= [],⟨⟨_,_,_,_,_,_,_,rfl⟩,rfl,rfl⟩,λ_ _ _ _=>⟨trivial,trivial⟩,?_,?_⟩
  ·rintro m d l N A ⟨⟨a,b,c,G,g,i,k,rfl⟩,rfl,h2⟩
   rw[gQm] at A
   obtain⟨B,U,rfl⟩:=oQm.mp A
   have a1:=X.bb B.2 (QeQ (show(B.1,B.2)∈_ from mQg U)).2
   refine eA rfl (aB (eA rfl (aB (bg (aB (bg (bq ?_)))))))
   refine aB (bg (bq ?_))
   apply gV (gq (wI ?_))
   refine oP (by omega) ?_
   dsimp only
   refine⟨_,_,rfl,ef _,?_⟩
   rw[jB]
   show if decide ((h:Int)∈B.2.map (·.2))=true then _ else _
   by_cases I:(h:Int)∈B.2.map (·.2)
   ·rw[Qeq I,Qhq rfl]
    symm
    apply ay (d:=.str p.1.name) rfl ?_
    refine⟨by show 3<=_;decide,?_⟩
    obtain⟨t,C⟩:=pZ (n:=(B.2.filter λq=>decide (q.2=(h:Int))).length) (d:=D.tup [.str "bell",.str p.1.name,.str B.1.1]) λz=>tN.mp z I
    obtain⟨t3,W⟩:=iP h2 U (show jJ h p.1.name B=_::_ from C)
    obtain⟨H,u⟩:=iP h1 y (F.trans W)
    exact r (R:=Q) (K.trans u) (λk z=>(nomatch z)) rfl
   ·rw[Qdq I,Quq (by decide)]
    refine cf ?_
    refine⟨⟨_,_,_,_,_,_,_,rfl⟩,rfl,?_⟩
    rw[fJ U,h2]
    unfold jJ
    rw[tN.mpr I]
    rfl
  ·rintro l N ⟨⟨a,b,c,G,g,i,k,rfl⟩,rfl,h2⟩
   rw[lQm,QEq] at h2
   refine⟨⟨_,_,_,_,_,_,_,_,_,rfl⟩,rfl,?_⟩
   rw[fJ y,h1,F,h2]
   rfl
 ·rintro l J ⟨⟨a,b,c,G,e,P,g,i,k,rfl⟩,rfl,h1⟩
  rw[lQm,QEq] at h1
  rw[K,h1] at q
  symm
  exact bW (λk z=>(nomatch z)) rfl q
def dX(o:gI w)(x:cI w n s)(C:n<=100)(p:s.af[h]?=some (vs,fs))(u:fs.getLast? =some f)(q:Q (.d (fS w s h f)) S):Fn fo [w.d,s.d,.int h] S Q:=by
 have bl:=BO w s h
 have v:∀d∈eY w s h,_:=λd H=>Bq H
 obtain⟨M,m,y,L⟩:=x.whand p
 have j:qe w h=m.length:=by unfold qe;rw[y];rfl
 refine bX ?_
 unfold Aj
 symm
 apply DM o x C ?_
 refine wc ?_
 unfold fS at q
 cases A:eY w s h with
 | cons d l=>
   rw[A] at q bl v
   obtain⟨a,K,rfl,_⟩:=v d (QBq ..)
   apply aW (λ_=> ?_) (λc=>by cases c)
   exact bW (λk z=>(nomatch z)) (by simp only[bS,QCq] at bl;exact bl.1) q
 | nil=>
   rw[A] at q
   refine aW (λc=>by cases c) (λ_=>cf ?_)
   have q:Q (.d (qo w s h f)) S:=q
   unfold qo s_ at q
   symm
   apply bL p u ?_
   apply ay (d:=.int f.room) rfl ?_
   refine ij ?_
   rcases x.at p u with c|⟨i,r,e,I,J,g,G,F⟩
   · rw[Qhq c,Qhq c,j] at q
     rw[Qeq c]
     refine aW (λ_=> ?_) (λc=>by cases c)
     have B:progOf w h f=some m:=by unfold progOf;rw[Qhq c,y];rfl
     symm
     apply ay (d:=.int f.row) rfl ?_
     apply eJ B ?_
     refine ij ?_
     rw[lQm]
     by_cases b:f.row=(m.length:Int)
     · rw[Qhq b] at q
       rw[Qeq b]
       apply aW (λ_=> ?_) (λc=>by cases c)
       refine⟨by show 1<=_;decide,?_⟩
       exact bW (λk z=>(nomatch z)) rfl q
     · rw[Quq b] at q
       rw[Qdq b]
       apply aW (λc=>by cases c) (λ_=> ?_)
       refine⟨by show 1<=_;decide,?_⟩
       exact bW (λk z=>(nomatch z)) rfl q
   · have t:¬f.room= -1:=by omega
     rw[Quq t,Quq t,G,F] at q
     rw[Qdq t,I]
     apply aW (λc=>by cases c) (λ_=>cf ?_)
     apply ay rfl ?_
     refine ay (d:=r.d) (aZ (by rw[gQm,J];rfl)) ?_
     symm
     apply ay (d:=.str r.name) rfl ?_
     apply ay rfl ?_
     refine ay (d:=e.d) (aZ (by rw[gQm,g];rfl)) ?_
     symm
     apply ay (d:=.int e.within) rfl ?_
     refine ij ?_
     by_cases b:e.within=(h:Int)
     · rw[Qhq b] at q
       rw[Qeq b]
       apply aW (λ_=> ?_) (λc=>by cases c)
       refine⟨by show 2<=_;decide,?_⟩
       exact bW (λk z=>(nomatch z)) rfl q
     · rw[Quq b] at q
       rw[Qdq b]
       apply aW (λc=>by cases c) (λ_=> ?_)
       refine⟨by show 2<=_;decide,?_⟩
       exact bW (λk z=>(nomatch z)) rfl q
end
def hU:Option Nat->Rw
 |none=>.do_ none "room" "ring" (.num 0)
 |some t=>.do_ none "room" "stay" (.num t)
def vp(n:Nat)(a:Str)(bs:List (Str×Str)):Rm:=⟨"room",a,[],bs,[("ring",List.replicate n (.call "m")),("stay",[.wait "m" (.word "given")])]⟩
def w5(n:Nat)(a:Str)(bs:List (Str×Str))(b:List (Option Nat)):dj:=⟨[vp n a bs],[],[],b.map λu=>([],[hU u])⟩
def Bs(bs:List (Str×Str))(a:Str)(b:Nat):Prop:=(a="row" \/a="turns")/\∃o:Str,(o="row" \/o="turns")/\((b=1/\bs= [(("a":Str),o),(("m":Str),a)])\/(b=0/\bs= [(("m":Str),a),(("z":Str),o)]))
section
variable{n:Nat}{mn so:Str}{bs:List (Str×Str)}{us:List (Option Nat)}{b:Nat}
def Jc(m:mn="at once" \/mn="when free")(e:Bs bs so b)(q:n<=4)(j:0<us.length)(k:us.length<=4)(l:∀t,some t∈us->t<=9):gI (w5 n mn bs us):=by
 obtain⟨d,o,i,e⟩:=e
 have h:("m":Str)∈bs.map (·.1):=by rcases e with⟨_,rfl⟩|⟨_,rfl⟩ <;>simp
 refine⟨by simp[w5],by simp[w5],by simp[w5],by simp[w5],by simpa [w5] using k,by simpa [w5] using j,λp a=>(nomatch a),λp a=>(nomatch a),λr c=> ?_,λp a=> ?_⟩
 ·have c:r=vp n mn bs:=by simpa [w5] using c
  subst c
  refine⟨m,λp a=>(nomatch a),by simp[vp],?_,by simp[vp],?_,λp a=> ?_⟩
  ·rcases e with⟨_,rfl⟩|⟨_,rfl⟩ <;>simp[vp]
  ·rcases e with⟨_,rfl⟩|⟨_,rfl⟩
   ·intro p a
    have a:p=(("a":Str),o)\/p=(("m":Str),so):=by simpa [vp] using a
    rcases a with rfl|rfl
    ·exact i
    ·exact d
   ·intro p a
    have a:p=(("m":Str),so)\/p=(("z":Str),o):=by simpa [vp] using a
    rcases a with rfl|rfl
    ·exact d
    ·exact i
  ·have a:p=(("ring":Str),List.replicate n (Rw.call "m"))\/p=(("stay":Str),[Rw.wait "m" (.word "given")]):=by simpa [vp] using a
   rcases a with rfl|rfl
   ·refine⟨λr c=> ?_,by simp;omega⟩
    rw[QkQ c]
    exact⟨rfl,h⟩
   ·refine⟨λr c=> ?_,by simp⟩
    have c:r=.wait "m" (.word "given"):=by simpa using c
    subst c
    exact⟨rfl,h,by show _∈_;simp[vp,lH],by decide⟩
 ·obtain⟨u,f,rfl⟩:=Qkq.mp (show p∈us.map _ from a)
  refine⟨λp a=>(nomatch a),by simp,by simp,by simp,λr c=> ?_⟩
  have c:r=hU u:=by simpa using c
  subst c
  cases u with
  |none=>exact⟨λx g=>(nomatch g),by show _∈dY [vp n mn bs];simp[dY,vp],by show(0:Nat)<=9;decide,by decide⟩
  |some t=>exact⟨λx g=>(nomatch g),by show _∈dY [vp n mn bs];simp[dY,vp],l t f,by show 1<=4;decide⟩
def cM:bV:=⟨-1,-1,1,0,0⟩
def Il:Option Nat->Int
 |none=>0
 |some _=>1
def Ij:Option Nat->Int
 |none=>0
 |some t=>t
abbrev s5(R:dI)(a:List (List Int×List bV)):bc:=⟨[R],[],[],a⟩
variable{R:dI}{hs:List (List Int×List bV)}{h:Nat}{u:Option Nat}{f:bV}
def dS{x:List Int×List bV}{y:List Int×List bV}(a:hs[h]?=some y):(hs.set h x)[h]?=some x:=Qyq (gQs.mp a).1
def Jw(j:us[h]?=some u)(a:hs[h]?=some ([],[iR])):eK (w5 n mn bs us) (s5 R hs) h=(s5 (fq R h) (hs.set h ([],[cM,⟨0,Il u,0,Ij u,0⟩])),none):=by
 have c:gK (s5 R hs) h=iR:=eI a rfl
 have i:progOf (w5 n mn bs us) h iR=some [hU u]:=by
  unfold progOf
  rw[Qhq (show iR.room= -1 from rfl)]
  show((us.map _)[h]?).map _=_
  rw[gQm,j]
  rfl
 have g:jP (s5 R hs) h=s5 R (hs.set h ([],[cM])):=by unfold jP;rw[c,ir a];rfl
 have d:yj (s5 R (hs.set h ([],[cM]))) h=([],[cM]):=j_ (dS a)
 have e:gK (s5 R (hs.set h ([],[cM]))) h=cM:=eI (dS a) rfl
 unfold eK
 rw[c,Quq (λz=>z.1 rfl),i]
 show(if iR.row=(([hU u]).length:Int) then _ else _)=_
 rw[Quq (show¬iR.row=([hU u].length:Int) from(by decide:¬(0:Int)=((1:Nat):Int)))]
 show(jT _ (jP (s5 R hs) h) h (hU u),FW _ _ _ (hU u))=_
 rw[g]
 cases u with
 | none=>
   show(jT _ _ h (.do_ none "room" "ring" (.num 0)),none)=_
   simp only[jT,d,List.set_set,mY]
   unfold eL
   rw[e,Qhq (show cM.room= -1 from rfl)]
   rfl
 | some t=>
   show(jT _ _ h (.do_ none "room" "stay" (.num t)),none)=_
   simp only[jT,d,List.set_set,mY]
   unfold eL
   rw[e,Qhq (show cM.room= -1 from rfl)]
   rfl
def p6{j:Int}{pr:List Rw}(a:f.room=0)(hd:f.deed=j)(c:(j=0/\pr=List.replicate n (.call "m"))\/(j=1/\pr= [.wait "m" (.word "given")])):progOf (w5 n mn bs us) h f=some pr:=by
 unfold progOf
 rcases c with⟨rfl,rfl⟩|⟨rfl,rfl⟩
 ·rw[Quq (by rw[a];decide),Qhq ⟨by rw[a];decide,by rw[hd];decide⟩,a,hd]
  rfl
 ·rw[Quq (by rw[a];decide),Qhq ⟨by rw[a];decide,by rw[hd];decide⟩,a,hd]
  rfl
def G4{g:Int}{line:List (Int×Int)}(a:Bs bs so b)(j:R.within=h)(m:R.aa[b]?=some line)(c:hs[h]?=some ([],[cM,⟨0,1,0,g,0⟩])):
  eK (w5 n mn bs us) (s5 R hs) h=(s5 (c7 {R with aa:=R.aa.set b (iD line (if so="turns" then g else 0) h)}) (hs.set h ([],[cM,⟨0,1,1,g,0⟩])),none):=by
 have d:gK (s5 R hs) h=⟨0,1,0,g,0⟩:=eI c rfl
 have k:jP (s5 R hs) h=s5 R (hs.set h ([],[cM,⟨0,1,1,g,0⟩])):=by unfold jP;rw[d,ir c];rfl
 have e:gK (s5 R (hs.set h ([],[cM,⟨0,1,1,g,0⟩]))) h=⟨0,1,1,g,0⟩:=eI (dS c) rfl
 unfold eK
 rw[d,Quq (λz=>z.2 j),p6 rfl rfl (.inr ⟨rfl,rfl⟩)]
 show(if ((0:Int)=((1:Nat):Int)) then _ else _)=_
 rw[Quq (by decide)]
 show(jT _ (jP (s5 R hs) h) h (.wait "m" (.word "given")),none)=_
 rw[k]
 have l:eL (w5 n mn bs us) (s5 R (hs.set h ([],[cM,⟨0,1,1,g,0⟩]))) h (.word "given")=g:=by
  unfold eL
  rw[e,Quq (show¬(0:Int)= -1 by decide)]
  rfl
 have i:df (bs.map (·.1)) "m"=b/\((bs[b]?).getD ("","")).2=so:=by
  obtain⟨_,o,_,a⟩:=a
  rcases a with⟨rfl,rfl⟩|⟨rfl,rfl⟩
  ·exact⟨rfl,rfl⟩
  ·exact⟨rfl,rfl⟩
 simp only[jT,e,l]
 show(s5 (Az (vp n mn bs) R "m" g h) _,none)=_
 unfold Az
 show(s5 (c7 {R with aa:=R.aa.set (df (bs.map (·.1)) "m") (iD ((R.aa[df (bs.map (·.1)) "m"]?).getD []) (if ((bs[df (bs.map (·.1)) "m"]?).getD ("","")).2="turns" then g else 0) h)}) _,none)=_
 rw[i.1,i.2,m]
 rfl
def s_call{r:Nat}{g:Int}(a:Bs bs so b)(i:R.within=h)(e:r<n)(c:hs[h]?=some ([],[cM,⟨0,0,r,g,0⟩])):
  eK (w5 n mn bs us) (s5 R hs) h=(s5 (ik (decide (mn="when free")) R b h) (hs.set h ([],[cM,⟨0,0,(r+1:Nat),g,0⟩])),none):=by
 have d:gK (s5 R hs) h=⟨0,0,r,g,0⟩:=eI c rfl
 have j:jP (s5 R hs) h=s5 R (hs.set h ([],[cM,⟨0,0,(r+1:Nat),g,0⟩])):=by unfold jP;rw[d,ir c];rfl
 have k:gK (s5 R (hs.set h ([],[cM,⟨0,0,(r+1:Nat),g,0⟩]))) h=⟨0,0,(r+1:Nat),g,0⟩:=eI (dS c) rfl
 have l:df (bs.map (·.1)) "m"=b:=by
  obtain⟨_,o,_,a⟩:=a
  rcases a with⟨rfl,rfl⟩|⟨rfl,rfl⟩
  ·rfl
  ·rfl
 unfold eK
 rw[d,Quq (λz=>z.2 i),p6 rfl rfl (.inl ⟨rfl,rfl⟩)]
 show(if ((r:Int)=((List.replicate n (Rw.call "m")).length:Int)) then _ else match (List.replicate n (Rw.call "m"))[((r:Int)).toNat]? with|none=>_|some r=>_)=_
 rw[Quq (by rw[QIq];omega),show((r:Int)).toNat=r by omega,List.getElem?_replicate,Qhq e]
 show(jT _ (jP (s5 R hs) h) h (.call "m"),none)=_
 rw[j]
 simp only[jT,k]
 show(s5 (ik (decide (mn="when free")) R (df (bs.map (·.1)) "m") h) _,none)=_
 rw[l]
def s_end{j:Int}{r:Nat}{g:Int}(q:us[h]?=some u)(l:R.within=h)(k:(j=0/\r=n)\/(j=1/\r=1))(c:hs[h]?=some ([],[cM,⟨0,j,r,g,0⟩])):
  eK (w5 n mn bs us) (s5 R hs) h=(s5 (c7 R) (hs.set h ([],[cM])),none):=by
 have e:gK (s5 R hs) h=⟨0,j,r,g,0⟩:=eI c rfl
 have d:∃a,progOf (w5 n mn bs us) h ⟨0,j,r,g,0⟩=some a/\a.length=r:=by
  rcases k with⟨rfl,rfl⟩|⟨rfl,rfl⟩
  ·exact⟨_,p6 rfl rfl (.inl ⟨rfl,rfl⟩),by simp⟩
  ·exact⟨_,p6 rfl rfl (.inr ⟨rfl,rfl⟩),by simp⟩
 obtain⟨a,d,m⟩:=d
 have i:u_ (s5 R hs) h=s5 (c7 R) (hs.set h ([],[cM])):=by
  unfold u_
  rw[e,j_ c]
  rfl
 have p:gK (s5 (c7 R) (hs.set h ([],[cM]))) h=cM:=eI (dS c) rfl
 unfold eK
 rw[e,Quq (λz=>z.2 l),d]
 show(if (r:Int)=(a.length:Int) then _ else _)=_
 rw[m,Qhq rfl]
 unfold yR FG
 rw[i,p]
 have o:progOf (w5 n mn bs us) h cM=some [hU u]:=by
  unfold progOf
  rw[Qhq (show cM.room= -1 from rfl)]
  show((us.map _)[h]?).map _=_
  rw[gQm,q]
  rfl
 rw[o]
 cases u with
 |none=>rfl
 |some t=>rfl
def HL(c:f.room=0)(d:R.within≠h)(a:hs[h]?=some ([],[cM,f])):eK (w5 n mn bs us) (s5 R hs) h=(s5 (fq R h) hs,none):=by
 have e:gK (s5 R hs) h=f:=eI a rfl
 unfold eK
 rw[e,c]
 rw[Qhq ⟨by decide,d⟩]
 rfl
end
section
variable{n:Nat}{mn so:Str}{bs:List (Str×Str)}{us:List (Option Nat)}{b:Nat}{R:dI}{hs:List (List Int×List bV)}{h:Nat}{u:Option Nat}{f:bV}{vs:List Int}{fs:List bV}{line:List (Int×Int)}
def Ge:held (s5 R hs)=cB R:=by simp[held]
def jW(a:hs[h]?=some ([],[cM,f]))(d:f.room=0)(g:(h:Int)∉cB R):h∈jR (w5 n mn bs us) (s5 R hs):=by
 unfold jR
 refine List.mem_filter.mpr ⟨List.mem_range.mpr (gQs.mp a).1,?_⟩
 have e:sh (w5 n mn bs us) (s5 R hs) h=false:=by
  have c:xb (s5 R hs) h=some f:=by
   show(hs[h]?).bind _=_
   rw[a]
   rfl
  unfold sh
  rw[c]
  show(decide (f.room= -1)&&_)=false
  rw[d]
  rfl
 rw[e,Ge,Qdq g]
 rfl
def AE(i:us[h]?=some u)(a:hs[h]?=some ([],[iR]))(d:(h:Int)∉cB R):h∈jR (w5 n mn bs us) (s5 R hs):=by
 unfold jR
 refine List.mem_filter.mpr ⟨List.mem_range.mpr (gQs.mp a).1,?_⟩
 have e:sh (w5 n mn bs us) (s5 R hs) h=false:=by
  have c:xb (s5 R hs) h=some iR:=by
   show(hs[h]?).bind _=_
   rw[a]
   rfl
  have g:progOf (w5 n mn bs us) h iR=some [hU u]:=by
   unfold progOf
   rw[Qhq (show iR.room= -1 from rfl)]
   show((us.map _)[h]?).map _=_
   rw[gQm,i]
   rfl
  unfold sh
  rw[c]
  show(decide (iR.room= -1)&&decide (iR.row=(((progOf (w5 n mn bs us) h iR).getD []).length:Int)))=false
  rw[g]
  rfl
 rw[e,Ge,Qdq d]
 rfl
def uJ:eY (w5 n mn bs us) (s5 R hs) h=fX h (vp n mn bs,R):=by
 show []++(fX h (vp n mn bs,R)++ [])=_
 simp
def vL(a:(h:Int)∉cB R):fS (w5 n mn bs us) (s5 R hs) h f=qo (w5 n mn bs us) (s5 R hs) h f:=by
 unfold cB at a
 simp only[mQa,not_or,QOq,not_exists,not_and] at a
 have e:eY (w5 n mn bs us) (s5 R hs) h= []:=by
  rw[uJ]
  unfold fX j3
  rw[show jn R.row h=0 from cQ.mpr a.1.1,show jn R.ag h=0 from cQ.mpr a.1.2]
  show []++_= []
  rw[List.nil_append]
  refine List.flatMap_eq_nil_iff.mpr λq d=> ?_
  unfold jJ
  have c:=(QeQ d).2
  rw[show(q.2.filter λz=>decide (z.2=(h:Int)))= [] from List.filter_eq_nil_iff.mpr λz g=>by
   have:=a.2 q.2 c
   simp only[Qkq,not_exists,not_and] at this
   simpa using this z g]
  rfl
 unfold fS
 rw[e]
def kK(d:(h:Int)∉cB R)(a:f.room=0)(c:R.within=h):fS (w5 n mn bs us) (s5 R hs) h f=.tup [.str "within",.str "room"]:=by
 rw[vL d]
 unfold qo s_
 rw[a,Quq (by decide),Quq (by decide),Qhq (show wit (s5 R hs) 0=h from c)]
 rfl
def B8(d:(h:Int)∉cB R)(a:f.room=0)(c:R.within≠h):fS (w5 n mn bs us) (s5 R hs) h f=.tup [.str "called",.str "room"]:=by
 rw[vL d]
 unfold qo s_
 rw[a,Quq (by decide),Quq (by decide),Quq (show¬wit (s5 R hs) 0=h from c)]
 rfl
def zL(a:(h:Int)∉cB R)(c:us[h]?=some u):fS (w5 n mn bs us) (s5 R hs) h cM=.tup [.str "done"]:=by
 rw[vL a]
 have e:qe (w5 n mn bs us) h=1:=by
  unfold qe
  show(((us.map _)[h]?).map _).getD 0=1
  rw[gQm,c]
  rfl
 unfold qo s_
 rw[e,Qhq (show cM.room= -1 from rfl),Qhq (show cM.room= -1 from rfl),Qhq (show cM.row=((1:Nat):Int) from rfl)]
def Gx(a:(h:Int)∈R.row):fS (w5 n mn bs us) (s5 R hs) h f=.tup [.str "row",.str "room"]:=by
 obtain⟨m,c⟩:∃m,jn R.row h=m+1:=Nat.exists_eq_succ_of_ne_zero λz=>cQ.mp z a
 unfold fS
 rw[uJ]
 unfold fX j3
 rw[show jn R.row h=m+1 from c]
 rfl
def EU(a:(h:Int)∉R.row)(c:(h:Int)∈R.ag):fS (w5 n mn bs us) (s5 R hs) h f=.tup [.str "late",.str "room"]:=by
 obtain⟨m,d⟩:∃m,jn R.ag h=m+1:=Nat.exists_eq_succ_of_ne_zero λz=>cQ.mp z c
 unfold fS
 rw[uJ]
 unfold fX j3
 rw[show jn R.ag h=m+1 from d,show jn R.row h=0 from cQ.mpr a]
 rfl
def bl(b:Nat)(line:List (Int×Int)):List (List (Int×Int)):=([[],[]]:List (List (Int×Int))).set b line
def Bs.lt(a:Bs bs so b):b<2:=by
 obtain⟨_,o,_,a⟩:=a
 rcases a with⟨rfl,_⟩|⟨rfl,_⟩ <;>decide
def xD(a:b<2):(bl b line)[b]?=some line:=by
 unfold bl
 rw[Qyq (by simpa using a)]
def zk{l:List (Int×Int)}:(bl b line).set b l=bl b l:=by unfold bl;rw[List.set_set]
def E6(a:b<2):((bl b line).flatMap λl=>l.map (·.2))=line.map (·.2):=by
 rcases(by omega:b=0\/b=1) with rfl|rfl <;>simp[bl]
def FU(c:Bs bs so b)(i:(h:Int)∉R.row)(k:(h:Int)∉R.ag)(j:R.aa=bl b line)(l:(h:Int)∈line.map (·.2)):fS (w5 n mn bs us) (s5 R hs) h f=.tup [.str "bell",.str "room",.str "m"]:=by
 have a:∃m,(line.filter λz=>decide (z.2=(h:Int))).length=m+1:=by
  refine Nat.exists_eq_succ_of_ne_zero λz=> ?_
  obtain⟨p,g,e⟩:=Qkq.mp l
  have this:p∈line.filter λz=>decide (z.2=(h:Int)):=List.mem_filter.mpr ⟨g,by simpa using e⟩
  rw[List.length_eq_zero_iff.mp z] at this
  cases this
 obtain⟨m,a⟩:=a
 obtain⟨_,o,_,c⟩:=c
 unfold fS
 rw[uJ]
 unfold fX j3
 rw[show jn R.ag h=0 from cQ.mpr k,show jn R.row h=0 from cQ.mpr i]
 show(match []++ []++(bs.zip R.aa).flatMap (jJ h "room") with|d::_=>d| []=>_)=_
 rw[j]
 rcases c with⟨rfl,rfl⟩|⟨rfl,rfl⟩
 ·show(match []++ []++(jJ h "room" (("a",o),[])++(jJ h "room" (("m",so),line)++ [])) with|d::_=>d| []=>_)=_
  unfold jJ
  rw[a]
  rfl
 ·show(match []++ []++(jJ h "room" (("m",so),line)++_) with|d::_=>d| []=>_)=_
  unfold jJ
  rw[a]
  rfl
theorem nq{t x:Int}:∀{l:List (Int×Int)},l.Pairwise (λa b=>a.1<=b.1)->iD l t x=(l.filter λp=>decide (p.1<=t))++ [(t,x)]++(l.filter λp=>decide (t<p.1))
 | [],_=>rfl
 | p::l,hp=>by
   have e:=nq (t:=t) (x:=x) (List.pairwise_cons.mp hp).2
   unfold iD at e⊢
   by_cases c:p.1<=t
   · have i:¬t<p.1:=by omega
     simp only[List.filter_cons,c,i,decide_true,decide_false,if_true,Bool.false_eq_true,if_false]
     simp only[Qnq,List.take_succ_cons,List.drop_succ_cons,List.cons_append]
     rw[e]
   · have g:((p::l).filter λp=>decide (p.1<=t))= []:=List.filter_eq_nil_iff.mpr λq d=>by
       rcases Qsq.mp d with rfl|d
       · simpa using c
       · have:=(List.pairwise_cons.mp hp).1 q d
         simp;omega
     have j:((p::l).filter λp=>decide (t<p.1))=p::l:=List.filter_eq_self.mpr λq d=>by
       rcases Qsq.mp d with rfl|d
       · simp;omega
       · have:=(List.pairwise_cons.mp hp).1 q d
         simp;omega
     rw[g,j]
     rfl
def qA{t x:Int}{l:List (Int×Int)}:(iD l t x).Perm ((t,x)::l):=by
 unfold iD
 generalize (l.filter λp=>decide (p.1<=t)).length=k
 rw[Qvq]
 refine(List.perm_middle (a:=(t,x)) (l₁:=l.take k) (l₂:=l.drop k)).trans ?_
 rw[List.take_append_drop]
def DT{t x:Int}{l:List (Int×Int)}(e:l.Pairwise (λa b=>a.1<=b.1)):(iD l t x).Pairwise (λa b=>a.1<=b.1):=by
 rw[nq e,Qvq]
 refine List.pairwise_append.mpr ⟨e.filter _,List.pairwise_append.mpr ⟨by simp,e.filter _,?_⟩,?_⟩
 ·intro a d b c
  have d:a=(t,x):=by simpa using d
  have c:=QZq (List.mem_filter.mp c).2
  subst d
  show t<=b.1
  omega
 ·intro a d b c
  have d:=QZq (List.mem_filter.mp d).2
  rcases mQa.mp c with c|c
  ·have c:b=(t,x):=by simpa using c
   subst c
   exact d
  ·have c:=QZq (List.mem_filter.mp c).2
   omega
def CU{x:Int}{l:List (Int×Int)}(hz:∀p∈l,p.1=0):iD l 0 x=l++ [(0,x)]:=by
 have e:(l.filter λp=>decide (p.1<=0))=l:=List.filter_eq_self.mpr λp a=>by simp[hz p a]
 unfold iD
 rw[e,QEq,List.drop_length,List.append_nil]
end
end W28
namespace DL
open PySem PySem.Spec L2
def zE{S:aI}{a:Bool}{x y:D}{p r:PyData}{Q:D->Prop}(b:iY x=some p)(d:iY y=some r)(c:p.depth<=60)(q:Q (.bl (if a then !PyData.eqv p r else PyData.eqv p r))):Op (mG a S x y) Q:=⟨_,by unfold mG;rw[b,d];simp only[Qbq];rw[Qhq c],q⟩
end DL
namespace W28
open PySem PySem.Spec L2 DL
def HA{a:dt}{S:aI}{f:fE}{g:bA}{Q:D->aI->Prop}(h:E f a S λp b=>E g a b λy S2=>∃(ns:List Str) (x:Str) (j:Nat),p.1=ns.map D.str/\p.2.isL=true/\p.2.stays S2 p.1/\y=.str x/\kS (.str x) (ns.map V.str)=some j/\Q (.int j) S2):E (A2 f g) a S Q:=by
 obtain⟨⟨e,t⟩,b,c,y,S2,d,ns,x,j,rfl,h1,h2,rfl,h3,q⟩:=h
 refine⟨.int j,S2,?_,q⟩
 unfold A2
 rw[c]
 simp only[Qbq]
 rw[Qhq h1,d]
 simp only[Qbq]
 rw[Qhq h2]
 simp only[ua,Qbq]
 rw[jx]
 simp only[Qbq]
 rw[h3]
 rfl
section
variable{n:Nat}{mn so:Str}{bs:List (Str×Str)}{us:List (Option Nat)}{b:Nat}{R:dI}{hs:List (List Int×List bV)}{h:Nat}{u:Option Nat}{f:bV}{line:List (Int×Int)}{S:aI}{Q:Res->aI->Prop}
def p0(g:Bs bs so b)(l:R.aa=bl b line)(q:Q (.d (bZ line)) S):Fn h_ [(w5 n mn bs us).d,(s5 R hs).d] S Q:=by
 refine bX ?_
 unfold sj
 symm
 apply lG (α:=Str×Str) (λi=>∃a b,i= [a,b]) Ba (λp=>.str p.1) ⟨_,_,rfl⟩ ?_
 apply ay rfl ?_
 apply ay (d:=(vp n mn bs).d) rfl ?_
 refine ay (d:=.tup (bs.map Ba)) rfl ?_
 refine cU ⟨bs,rfl,trivial,?_,λp m i j=> ?_,?_⟩
 ·obtain⟨_,o,_,g⟩:=g
  rcases g with⟨_,rfl⟩|⟨_,rfl⟩ <;>simp
 ·obtain⟨a,c,rfl⟩:=j
  refine eA rfl (aB (bg (aB (bg (bq ?_)))))
  apply⟨rfl,⟨_,_,rfl⟩,?_⟩
  exact⟨rfl,rfl⟩
 ·symm
  apply ay rfl ?_
  apply ay (d:=R.d) rfl ?_
  refine ay (d:=.tup (R.aa.map bZ)) rfl ?_
  apply HA ?_
  apply iK bM ?_
  have e:kS (.str "m") ((bs.map (·.1)).map V.str)=some b:=by
   obtain⟨_,o,_,g⟩:=g
   rcases g with⟨rfl,rfl⟩|⟨rfl,rfl⟩ <;>rfl
  refine⟨bs.map (·.1),"m",b,by simp,rfl,bM,rfl,e,?_⟩
  refine ay (d:=bZ line) (aZ (by rw[gQm,l,xD g.lt];rfl)) ?_
  exact ui pk.refl.app (λk z=>(nomatch z)) (kq _) q
end
section
variable{n:Nat}{mn so:Str}{bs:List (Str×Str)}{us:List (Option Nat)}{b:Nat}{R:dI}{hs:List (List Int×List bV)}{h:Nat}{u:Option Nat}{f:bV}{line:List (Int×Int)}{S:aI}{Q:Res->aI->Prop}
def Cj{t x:Int}(l:so="row" \/so="turns")(r:line.length<=100)(hz:so="row" ->∀p∈line,p.1=0)(j:line.Pairwise (λa b=>a.1<=b.1))(q:Q (.d (bZ (iD line (if so="turns" then t else 0) x))) S):Fn ip [bZ line,.str so,.int t,.int x] S Q:=by
 refine bX ?_
 unfold ph
 symm
 refine hG ?_
 rcases l with rfl|rfl
 ·rw[Quq (by decide),CU (hz rfl)] at q
  apply aW (λ_=> ?_) (λc=>absurd (QaQ c) (by simp))
  refine⟨by show 2<=_;decide,?_⟩
  symm
  refine⟨by show 1<=_;decide,?_⟩
  symm
  refine cN (by rw[lQm];exact nQl (bo (by show line.length+1<=1000;omega))) ?_
  have e:bZ (line++ [(0,x)])=.tup (line.map pairD++ [.tup [.int 0,.int x]]):=by unfold bZ;rw[Qzq];rfl
  rw[e] at q
  refine bW (λk z=>(nomatch z)) ?_ q
  rw[←e]
  exact kq _
 ·rw[Qhq rfl,nq j] at q
  apply aW (λc=>absurd (QZq c) (by decide +kernel)) (λ_=> ?_)
  apply kD (α:=Int×Int) (λg=>∃a,g= [a,some (.int t)]) pairD pairD (λp=>decide (p.1<=t)) ⟨none,rfl⟩ ?_
  refine cU ⟨line,rfl,trivial,by omega,λp j g i=> ?_,?_⟩
  ·obtain⟨o,rfl⟩:=i
   refine bg ⟨rfl,⟨_,rfl⟩,?_⟩
   exact gq (zw (zw (cR rfl (Lb (ay (d:=.int p.1) rfl (cR rfl (CQ ⟨rfl,rfl,λ_=>cR rfl ⟨rfl,rfl⟩⟩)))))))
  symm
  refine⟨by show 2<=_;decide,?_⟩
  symm
  refine⟨by show 1<=_;decide,?_⟩
  have v:=List.length_filter_le (λp:Int×Int=>decide (p.1<=t)) line
  have s:=List.length_filter_le (λp:Int×Int=>decide (t<p.1)) line
  refine cN (by rw[lQm];exact nQl (bo (by show _+1<=1000;omega))) ?_
  symm
  apply kD (α:=Int×Int) (λg=>∃a,g= [a,some (.int t)]) pairD pairD (λp=>decide (t<p.1)) ⟨none,rfl⟩ ?_
  refine cU ⟨line,rfl,trivial,by omega,λp j g i=> ?_,?_⟩
  ·obtain⟨o,rfl⟩:=i
   refine bg ⟨rfl,⟨_,rfl⟩,?_⟩
   exact gq (zw (zw (cR rfl (Lb (ay (d:=.int p.1) rfl (cR rfl (CQ ⟨rfl,rfl,λ_=>cR rfl ⟨rfl,rfl⟩⟩)))))))
  symm
  refine cN (by rw[lQa,lQm,lQm];exact nQl (bo (by show _+1+_<=1000;omega))) ?_
  unfold bZ at q
  rw[Qzq,Qzq] at q
  refine bW (λk z=>(nomatch z)) ?_ q
  simp only[cD]
  refine mi λd m=> ?_
  simp only[mQa,Qkq,Qfq] at m
  rcases m with(⟨p,_,rfl⟩|rfl)|⟨p,_,rfl⟩ <;>rfl
end
end W28
namespace DL
open PySem PySem.Spec L2
def Fw{α:Type}(xs:List α):je xs (some 1) none=xs.drop 1:=by
 cases xs with
 |nil=>rfl
 |cons a l=>exact hZ (i:=1) (by simp)
def va{S:aI}{d:D}{p:PyData}{a:Bool}{Q:D->Prop}(h:iY d=some p)(hd:p.depth<=60)(q:Q (.bl (!a))):Op (mG a S d d) Q:=by
 refine zE h h hd ?_
 rw[SeqAt.eqv_refl p (ng h)]
 cases a <;>exact q
def C6{x:Str}(h:PyData.strOk x=true):iY (.str x)=some (.str x):=by unfold iY;rw[Qhq h]
def oB{S:aI}{x y:Str}{Q:D->Prop}(a:PyData.strOk x=true)(b:PyData.strOk y=true)(q:Q (.bl (decide (x=y)))):Op (mG false S (.str x) (.str y)) Q:=by
 refine zE (C6 a) (C6 b) (by simp[PyData.depth]) ?_
 have:(if false=true then !PyData.eqv (.str x) (.str y) else PyData.eqv (.str x) (.str y))=decide (x=y):=by
  by_cases c:x=y
  ·subst c;simp[PyData.eqv]
  ·simp[PyData.eqv,c]
 rw[this];exact q
end DL
namespace W28
open PySem PySem.Spec L2 DL
def Lv:D:=.tup [.str "within",.str "room"]
def LL:D:=.tup [.str "called",.str "room"]
def LO:D:=.tup [.str "late",.str "room"]
def LI{x y:Str}(a:PyData.strOk x=true)(b:PyData.strOk y=true):iY (.tup [.str x,.str y])=some (.tuple [.str x,.str y]):=by simp[iY,km,a,b]
def qP{S:aI}{x y:Str}{a:Bool}{Q:D->Prop}(b:PyData.strOk x=true)(c:PyData.strOk y=true)(q:Q (.bl (!a))):Op (mG a S (.tup [.str x,.str y]) (.tup [.str x,.str y])) Q:=va (LI b c) (by simp[PyData.depth,PyData.depthAll]) q
def Gg{S:aI}{x:Str}{a:Bool}{Q:D->Prop}(b:PyData.strOk x=true)(q:Q (.bl (!a))):Op (mG a S (.tup [.str x]) (.tup [.str x])) Q:=va (p:=.tuple [.str x]) (by simp[iY,km,b]) (by simp[PyData.depth,PyData.depthAll]) q
theorem sY:∀l:List (Int×Int),∃ps,km (l.map pairD)=some ps/\ps.length=l.length/\PyData.depthAll ps<=2
 | []=>⟨[],rfl,rfl,Nat.zero_le _⟩
 | p::l=>by
   obtain⟨ps,e,a,b⟩:=sY l
   refine⟨.tuple [.int p.1,.int p.2]::ps,?_,by simp[a],?_⟩
   · show(iY (pairD p)).bind _=_
     rw[show iY (pairD p)=some (.tuple [.int p.1,.int p.2]) from rfl,Qbq,e]
     rfl
   · simp only[PyData.depthAll,PyData.depth]
     omega
def nV{S:aI}{l:List (Int×Int)}{Q:D->Prop}(q:Q (.bl (decide (l= [])))):Op (mG false S (bZ l) (.tup [])) Q:=by
 obtain⟨c,e,d,f⟩:=sY l
 refine zE (p:=.tuple c) (r:=.tuple []) (by show(km (l.map pairD)).map _=_;rw[e];rfl) rfl (by simp only[PyData.depth];omega) ?_
 cases l with
 | nil=>
   cases c with
   |nil=>exact q
   |cons a b=>simp at d
 | cons a l=>
   cases c with
   |nil=>simp at d
   |cons a b=>exact q
def pX{l:List (Int×Int)}(h:l.length<=1000):Pl 10 (bZ l):=by
 refine⟨by simpa using h,λd a=> ?_⟩
 obtain⟨p,_,rfl⟩:=Qkq.mp a
 refine⟨by simp,λd a=> ?_⟩
 simp only[Qsq,QXq,or_false] at a
 rcases a with rfl|rfl <;>trivial
structure C5(us:List (Option Nat))(spot r:Nat)(line:List (Int×Int))(row:List Int)(hs:List (List Int×List bV)):Prop where
 usp:us[spot]?=some none
 ring:hs[spot]?=some ([],[cM,⟨0,0,r,0,0⟩])
 ln:∀p∈line,∃(h:Nat) (g:Int) (t:Nat),p.2=h/\us[h]?=some (some t)/\h≠spot/\hs[h]?=some ([],[cM,⟨0,1,1,g,0⟩])
 nd:(line.map (·.2)).Nodup
 rx:∀x∈row,x∉line.map (·.2)/\x≠(spot:Int)
section
variable{n:Nat}{mn so:Str}{bs:List (Str×Str)}{us:List (Option Nat)}{b:Nat}{row:List Int}{hs:List (List Int×List bV)}{spot r m:Nat}{line:List (Int×Int)}{S:aI}{Q:Res->aI->Prop}
def fU{a:Int}{ag:List Int}(c:b<2):cB ⟨[],a,row,ag,bl b line⟩=row++ag++line.map (·.2):=by
 unfold cB
 show row++ag++_=_
 rw[E6 c]
def C5.nsp(c:C5 us spot r line row hs):(spot:Int)∉row++ []++line.map (·.2):=by
 intro h
 rw[List.append_nil] at h
 rcases mQa.mp h with h|h
 ·exact(c.rx _ h).2 rfl
 ·obtain⟨p,a,e⟩:=Qkq.mp h
  obtain⟨i,g,t,d,_,f,_⟩:=c.ln p a
  rw[d] at e
  exact f (by omega)
def C5.set(c:C5 us spot r line row hs):C5 us spot (r+1) line row (hs.set spot ([],[cM,⟨0,0,(r+1:Nat),0,0⟩])):=by
 refine⟨c.usp,dS c.ring,λp d=> ?_,c.nd,c.rx⟩
 obtain⟨h,g,t,e,i,a,f⟩:=c.ln p d
 exact⟨h,g,t,e,i,a,by rw[QKq (Ne.symm a)];exact f⟩
def Be(o:gI (w5 n mn bs us))(hm:mn="at once" \/mn="when free")(L:Bs bs so b)(x:cI (w5 n mn bs us) m (s5 ⟨[],spot,row,[],bl b line⟩ hs))(a1:m<=50)(c:C5 us spot r line row hs)(hr:r<n)(G:mn="at once" ->row= [])(hl:line.length<=100)
  (q:∀u H,C5 us spot (r+1) (line.drop 1) u H->(mn="at once" ->u= [])->cI (w5 n mn bs us) (m+2) (s5 ⟨[],spot,u,[],bl b (line.drop 1)⟩ H)->Q (.d (s5 ⟨[],spot,u,[],bl b (line.drop 1)⟩ H).d) S):
  Fn gQ [(w5 n mn bs us).d,(s5 ⟨[],spot,row,[],bl b line⟩ hs).d,bZ line,.int spot] S Q:=by
 have A:=L.lt
 have F:spot∈jR (w5 n mn bs us) (s5 ⟨[],spot,row,[],bl b line⟩ hs):=jW c.ring rfl (by rw[fU A];exact c.nsp)
 obtain⟨M,j⟩:=jt o x (by omega) F c.ring rfl
 rw[s_call L rfl hr c.ring] at M j
 have e:=c.set
 refine bX ?_
 unfold m_
 symm
 apply ay rfl ?_
 apply ay (d:=(vp n mn bs).d) rfl ?_
 apply ay (d:=.str mn) rfl ?_
 apply jk (x.mays o (by omega)) F M ?_
 apply ay (d:=bc.d _) rfl ?_
 dsimp only at j
 generalize hs.set spot ([],[cM,⟨0,0,(r+1:Nat),0,0⟩])=hs1 at j e⊢
 cases line with
 | nil=>
   have N:ik (decide (mn="when free")) ⟨[],spot,row,[],bl b []⟩ b spot=⟨[],spot,row,[],bl b []⟩:=by
     unfold ik
     rw[show(dI.mk [] spot row [] (bl b [])).aa[b]?=some [] from xD A]
   rw[N] at j⊢
   apply p0 L rfl ?_
   apply il ?_
   apply cp ?_
   refine⟨_,rfl,cg ⟨_,rfl,?_⟩⟩
   rw[Fw]
   symm
   refine mO 10 (bZ []) (pX (by simp)) ?_
   refine nH ?_
   apply aW (λc=>by cases c) (λ_=>cf ?_)
   refine⟨by show 0<=_;decide,?_⟩
   refine nV ?_
   apply aW (λ_=> ?_) (λc=>absurd (QaQ c) (by simp))
   refine dX o j (by omega) e.ring rfl ?_
   rw[kK (by rw[fU A];exact e.nsp) rfl rfl]
   symm
   refine⟨by show 2<=_;decide,?_⟩
   refine qP (by decide +kernel) (by decide +kernel) ?_
   apply aW (λ_=> ?_) (λc=>by cases c)
   exact bW (λk z=>(nomatch z)) (bc.low _) (q row hs1 e G (j.mono (by omega)))
 | cons p l=>
   obtain⟨h,g,t,K,e2,e3,C⟩:=e.ln p (QBq ..)
   have I:=(List.nodup_cons.mp (show(p.2::l.map (·.2)).Nodup from e.nd))
   have w:(h:Int)∉l.map (·.2):=by rw[←K];exact I.1
   have X:(spot:Int)∉l.map (·.2):=λz=>e.nsp (mQa.mpr (.inr (Qpq _ z)))
   have a0:l.length<=100:=by simp at hl;omega
   rcases hm with rfl|rfl
   · have J:=G rfl
     subst J
     have N:ik (decide (("at once":Str)="when free")) ⟨[],spot,[],[],bl b (p::l)⟩ b spot=⟨[],h,[],[(spot:Int)],bl b l⟩:=by
       unfold ik
       rw[show(dI.mk [] spot [] [] (bl b (p::l))).aa[b]?=some (p::l) from xD A,Qdq (by decide +kernel)]
       show(dI.mk [] p.2 [] ([]++ [(spot:Int)]) ((bl b (p::l)).set b l))=_
       rw[zk,K]
       rfl
     rw[N] at j⊢
     apply p0 L rfl ?_
     apply il ?_
     apply cp ?_
     refine⟨_,rfl,cg ⟨_,rfl,?_⟩⟩
     rw[Fw]
     symm
     refine mO 10 (bZ l) (pX (by omega)) ?_
     refine nH ?_
     apply aW (λc=>by cases c) (λ_=>cf ?_)
     refine⟨by show 0<=_;decide,?_⟩
     refine nV ?_
     apply aW (λc=>absurd (QZq c) (by simp)) (λ_=>cf ?_)
     apply ay (d:=pairD p) (show kW (pairD p::l.map pairD) 0=_ from yf) ?_
     refine ay (d:=.int p.2) rfl ?_
     rw[K]
     symm
     refine⟨by show 2<=_;decide,?_⟩
     symm
     refine⟨by show 2<=_;decide,?_⟩
     symm
     refine⟨by show 2<=_;decide,?_⟩
     symm
     apply oB (by decide +kernel) (by decide +kernel) ?_
     refine mS ?_
     rw[Qeq rfl]
     apply gH bM (d:=Lv) rfl ?_
     refine⟨by show 2<=_;decide,?_⟩
     symm
     refine⟨by show 2<=_;decide,?_⟩
     symm
     refine⟨by show 2<=_;decide,?_⟩
     symm
     apply oB (by decide +kernel) (by decide +kernel) ?_
     refine mS ?_
     rw[Qeq rfl]
     refine gH bM (d:=LO) rfl ?_
     have y:(h:Int)∉cB ⟨[],h,[],[(spot:Int)],bl b l⟩:=by
       rw[fU A]
       intro z
       rcases mQa.mp z with z|z
       · have z:(h:Int)=spot:=by simpa using z
         omega
       · exact w z
     symm
     refine dX o j (by omega) C rfl ?_
     rw[kK y rfl rfl]
     symm
     refine qP (by decide +kernel) (by decide +kernel) ?_
     apply aW (λc=>by cases c) (λ_=> ?_)
     refine dX o j (by omega) e.ring rfl ?_
     rw[EU (by simp) (by simp)]
     symm
     refine qP (by decide +kernel) (by decide +kernel) ?_
     apply aW (λc=>by cases c) (λ_=>cf ?_)
     have a:h∈jR (w5 n "at once" bs us) (s5 ⟨[],h,[],[(spot:Int)],bl b l⟩ hs1):=jW C rfl y
     obtain⟨i,v⟩:=jt o j (by omega) a C rfl
     rw[s_end (r:=1) e2 rfl (.inr ⟨rfl,rfl⟩) C] at i v
     apply jk (j.mays o (by omega)) a i ?_
     apply ay (d:=bc.d _) rfl ?_
     refine oB (by decide +kernel) (by decide +kernel) ?_
     refine aW (λc=>absurd (QZq c) (by decide +kernel)) (λ_=>cf ?_)
     have v:cI (w5 n "at once" bs us) (m+2) (s5 ⟨[],spot,[],[],bl b l⟩ (hs1.set h ([],[cM]))):=v
     have P:C5 us spot (r+1) l [] (hs1.set h ([],[cM])):=by
       refine⟨e.usp,by rw[QKq e3];exact e.ring,λU R=> ?_,I.2,λx B=>(nomatch B)⟩
       obtain⟨h',g',t',k1,k2,k3,k4⟩:=e.ln U (Qpq _ R)
       refine⟨h',g',t',k1,k2,k3,?_⟩
       rw[QKq ?_]
       · exact k4
       · intro z
         subst z
         exact w (Qkq.mpr ⟨U,R,k1⟩)
     have W:(h:Int)∉cB ⟨[],spot,[],[],bl b l⟩:=by
       rw[fU A]
       simpa using w
     show T _ _ _ _
     symm
     refine dX (s:=s5 ⟨[],spot,[],[],bl b l⟩ (hs1.set h ([],[cM]))) (f:=cM) o v (by omega) (dS C) rfl ?_
     rw[zL W e2]
     symm
     refine⟨by show 1<=_;decide,?_⟩
     refine Gg (by decide +kernel) ?_
     apply aW (λc=>by cases c) (λ_=> ?_)
     refine dX (s:=s5 ⟨[],spot,[],[],bl b l⟩ (hs1.set h ([],[cM]))) o v (by omega) P.ring rfl ?_
     rw[kK (by rw[fU A];exact P.nsp) rfl rfl]
     symm
     refine⟨by show 2<=_;decide,?_⟩
     refine qP (by decide +kernel) (by decide +kernel) ?_
     apply aW (λc=>by cases c) (λ_=>cf ?_)
     exact ui pk.refl.app.app (λk z=>(nomatch z)) (bc.low _) (q [] _ P (λ_=>rfl) v)
   · have N:ik (decide (("when free":Str)="when free")) ⟨[],spot,row,[],bl b (p::l)⟩ b spot=⟨[],spot,row,[],bl b l⟩:=by
       unfold ik
       rw[show(dI.mk [] spot row [] (bl b (p::l))).aa[b]?=some (p::l) from xD A,Qeq rfl]
       show(dI.mk [] spot row [] ((bl b (p::l)).set b l))=_
       rw[zk]
     rw[N] at j⊢
     apply p0 L rfl ?_
     apply il ?_
     apply cp ?_
     refine⟨_,rfl,cg ⟨_,rfl,?_⟩⟩
     rw[Fw]
     symm
     refine mO 10 (bZ l) (pX (by omega)) ?_
     refine nH ?_
     apply aW (λc=>by cases c) (λ_=>cf ?_)
     refine⟨by show 0<=_;decide,?_⟩
     refine nV ?_
     apply aW (λc=>absurd (QZq c) (by simp)) (λ_=>cf ?_)
     apply ay (d:=pairD p) (show kW (pairD p::l.map pairD) 0=_ from yf) ?_
     refine ay (d:=.int p.2) rfl ?_
     rw[K]
     symm
     refine⟨by show 2<=_;decide,?_⟩
     symm
     refine⟨by show 2<=_;decide,?_⟩
     symm
     refine⟨by show 2<=_;decide,?_⟩
     symm
     apply oB (by decide +kernel) (by decide +kernel) ?_
     refine mS ?_
     rw[Qdq (by decide +kernel)]
     apply gH bM (d:=LL) rfl ?_
     refine⟨by show 2<=_;decide,?_⟩
     symm
     refine⟨by show 2<=_;decide,?_⟩
     symm
     refine⟨by show 2<=_;decide,?_⟩
     symm
     apply oB (by decide +kernel) (by decide +kernel) ?_
     refine mS ?_
     rw[Qdq (by decide +kernel)]
     refine gH bM (d:=Lv) rfl ?_
     have Y:(h:Int)∉row:=λz=>(e.rx _ z).1 (by rw[←K];exact QBq ..)
     have y:(h:Int)∉cB ⟨[],spot,row,[],bl b l⟩:=by
       rw[fU A,List.append_nil]
       intro z
       rcases mQa.mp z with z|z
       · exact Y z
       · exact w z
     have Z:(spot:Int)∉cB ⟨[],spot,row,[],bl b l⟩:=by
       rw[fU A,List.append_nil]
       intro z
       rcases mQa.mp z with z|z
       · exact(e.rx _ z).2 rfl
       · exact X z
     symm
     refine dX o j (by omega) C rfl ?_
     rw[B8 y rfl (show(spot:Int)≠h by omega)]
     symm
     refine qP (by decide +kernel) (by decide +kernel) ?_
     apply aW (λc=>by cases c) (λ_=> ?_)
     refine dX o j (by omega) e.ring rfl ?_
     rw[kK Z rfl rfl]
     symm
     refine qP (by decide +kernel) (by decide +kernel) ?_
     apply aW (λc=>by cases c) (λ_=>cf ?_)
     have a:h∈jR (w5 n "when free" bs us) (s5 ⟨[],spot,row,[],bl b l⟩ hs1):=jW C rfl y
     obtain⟨i,v⟩:=jt o j (by omega) a C rfl
     rw[HL rfl (show(spot:Int)≠h by omega) C] at i v
     apply jk (j.mays o (by omega)) a i ?_
     refine ay (d:=bc.d _) rfl ?_
     have e5:fq ⟨[],spot,row,[],bl b l⟩ h=⟨[],spot,row++ [(h:Int)],[],bl b l⟩:=by
       unfold fq
       rw[Quq (show¬(spot:Int)= -1 by omega)]
     dsimp only at v
     rw[e5] at v⊢
     symm
     refine oB (by decide +kernel) (by decide +kernel) ?_
     apply aW (λ_=> ?_) (λc=>absurd (QaQ c) (by simp))
     refine dX o v (by omega) C rfl ?_
     rw[Gx (by simp)]
     symm
     refine⟨by show 2<=_;decide,?_⟩
     refine qP (by decide +kernel) (by decide +kernel) ?_
     apply aW (λ_=> ?_) (λc=>by cases c)
     have P:C5 us spot (r+1) l (row++ [(h:Int)]) hs1:=by
       refine⟨e.usp,e.ring,λU R=>e.ln U (Qpq _ R),I.2,λx B=> ?_⟩
       rcases mQa.mp B with B|B
       · exact⟨λz=>(e.rx x B).1 (Qpq _ z),(e.rx x B).2⟩
       · have B:x=(h:Int):=by simpa using B
         subst B
         exact⟨w,by omega⟩
     exact ui pk.refl.app.app (λk z=>(nomatch z)) (bc.low _) (q _ _ P (λz=>absurd z (by decide +kernel)) v)
end
end W28
namespace DL
open PySem PySem.Spec L2
def KF{n:Nat}{b:cZ}{ds:List D}{S:aI}{Q:Res->aI->Prop} (h:T b (ds.map some++List.replicate (n-ds.length) none) S λo=>match o with
   |.nx _ a=>Q (.d .non) a|.rt d a=>Q (.d d) a|.rl l a=>Q (.l l) a|_=>False):Fn (Iu n b) ds S Q:=by
 obtain⟨o,c,q⟩:=h
 cases o with
 |nx e a=>exact⟨_,_,by unfold Iu;rw[c];rfl,q⟩
 |rt d a=>exact⟨_,_,by unfold Iu;rw[c];rfl,q⟩
 |rl d a=>exact⟨_,_,by unfold Iu;rw[c];rfl,q⟩
 |bk=>exact q.elim
 |ct=>exact q.elim
def GM{S:aI}{d:D}{n:Nat}{Q:D->Prop}(b:2<=n)(a:n<=4)(q:Q (.tup (List.replicate n d))):Op (wR S (.tup [d]) (.int n)) Q:=by
 refine⟨_,?_,q⟩
 unfold wR
 rw[show(List.replicate n d)=(List.replicate ((n:Int)).toNat [d]).flatten by rw[show((n:Int)).toNat=n by omega,AS]]
 exact Qhq ⟨by omega,by omega,by simp,nQl (bo (by simp;omega))⟩
def CO{ds:List D}{y:D}{k:Nat}{Q:List D×D->Prop}(a:k<=ds.length)(b:ds.length<999)(q:Q (ds.take k++y::ds.drop k,.non)):Op (y8 ds [.int (k:Nat),y]) Q:=⟨_,by unfold y8;exact Qhq ⟨by omega,by omega,by omega,bo (by omega)⟩,q⟩
end DL
namespace W28
open PySem PySem.Spec L2 DL
section
variable{S S0:aI}{Q:Res->aI->Prop}{k:Nat}
def Hb{a c:Str}{v:Nat}(h:(v:Int)<2):∃x:Str,(x=a\/x=c)/\kW ([.str a,.str c]:List D) (v:Int)=some (.str x):=by
 rcases(by omega:v=0\/v=1) with rfl|rfl
 ·exact⟨a,.inl rfl,rfl⟩
 ·exact⟨c,.inr rfl,rfl⟩
def CF(x:Ex k S0 S)(h:∀(d:Str) (e:aI),(d="a" \/d="z")->Ex k S0 e->Ex k S e->e.length=S.length->Q (.d (.str d)) e):Fn fP [.ref k,.str "az"] S Q:=by
 have y:Ex k S S:=by obtain⟨a,b,c,i⟩:=x.pot;exact Ex.refl i
 refine bX ?_
 unfold lS
 symm
 apply Ds ?_
 apply⟨2,by rfl,?_⟩
 refine gM y (by decide) (by decide) λv l f j g o=> ?_
 have f:(v:Int)<2:=f
 dsimp only
 obtain⟨d,m,n⟩:∃d:Str,(d="a" \/d="z")/\aS l (.str "az") (.int v)=some (.str d):=by
  rcases(by omega:v=0\/v=1) with rfl|rfl
  ·exact⟨"a",.inl rfl,by rfl⟩
  ·exact⟨"z",.inr rfl,by rfl⟩
 refine Ji n ?_
 refine Gp j x.lt (λk z=>(nomatch z)) rfl λa b c=> ?_
 exact h _ _ m x.set y.set (by simp)
abbrev IT:D:=.tup [.tup [],.tup [.tup [.str "do",.non,.str "room",.str "ring",.int 0]]]
def uD:Option Nat->D
 |none=>.non
 |some t=>.int t
def BQ{n:Nat}(x:Ex k S0 S)(hn:2<=n)(a8:n<=4)
  (h:∀(A p:Str) (bs:List (Str×Str)) (b:Nat) (M:List (Option Nat)) (f lt:Nat) (F:aI),(A="at once" \/A="when free")->Bs bs p b->M.length=n->M[f]?=some none->(∀t,some t∈M->t<=9)->(∀i,i<n->i≠f->∃t,M[i]?=some (some t))->Ex k S0 F->lt≠k->F[lt]?=some (.lst (M.map uD))->Q (.d (.tup [(w5 n A bs M).d,.ref lt,.str p,.int f])) F):
  Fn ix [.ref k,.int n] S Q:=by
 have y:Ex k S S:=by obtain⟨a,b,c,hh⟩:=x.pot;exact Ex.refl hh
 have kl:=x.lt
 refine KF ?_
 unfold oW
 symm
 apply⟨by decide,?_⟩
 refine gM (y.app (G:= [O.lst [.str "at once",.str "when free"]])) (by decide) (by decide) λv S1 hv e1 b6 l1=> ?_
 dsimp only
 obtain⟨A,b3,ha⟩:=Hb (a:="at once") (c:="when free") (v:=v) hv
 apply gH (b6.keep _ _ (by omega) bM) ha ?_
 apply⟨by decide,?_⟩
 apply gM (e1.app (G:= [O.lst [.str "row",.str "turns"]])) (by decide) (by decide) λv2 S2 d5 e2 b7 l2=> ?_
 refine mS ?_
 obtain⟨p,a1,hb⟩:∃p:Str,(p="row" \/p="turns")/\kW ([.str "row",.str "turns"]:List D) (if decide (0<(v2:Int))=true then 1 else 0)=some (.str p):=by
  by_cases c:0<(v2:Int)
  ·rw[Qeq c];exact⟨"turns",.inr rfl,rfl⟩
  ·rw[Qdq c];exact⟨"row",.inl rfl,rfl⟩
 have:=e1.len
 apply gH (b7.keep _ _ (by omega) bM) hb ?_
 refine⟨by show 2<=_;decide,?_⟩
 symm
 refine⟨by show 1<=_;decide,?_⟩
 symm
 have c5:S2.length=S1.length+1:=by simpa using l2
 apply CF (e2.app (G:= [O.lst [.tup [.str "m",.str p]]])) λZ S3 R e3 a7 l3=> ?_
 apply⟨by decide,?_⟩
 refine Fm (e3.app (G:= [O.lst [.str "row",.str "turns"]])) (by have:=e3.lt;omega) bM (by decide) (by decide) (λd I=> ?_) (λd I=> ?_) λb5 S4 Y e4 b4 l4=> ?_
 ·simp only[Qsq,QXq,or_false] at I
  rcases I with rfl|rfl <;>exact⟨λk z=>(nomatch z),rfl⟩
 ·simp only[Qsq,QXq,or_false] at I
  rcases I with rfl|rfl <;>rfl
 obtain⟨w,B,rfl⟩:∃w:Str,(w="row" \/w="turns")/\b5=.str w:=by
  simp only[Qsq,QXq,or_false] at Y
  rcases Y with rfl|rfl
  ·exact⟨_,.inl rfl,rfl⟩
  ·exact⟨_,.inr rfl,rfl⟩
 symm
 refine⟨by show 2<=_;decide,?_⟩
 have d1:S3.length=S2.length+1:=by simpa using l3
 have c4:S4.length=S3.length+1:=by simpa using l4
 have a0:S4[S2.length]?=some (.lst [.tup [.str "m",.str p]]):=b4.keep _ _ (by have:=e2.len;omega) (kf (a7.keep _ _ (by have:=e2.len;omega) bM))
 symm
 apply Fo (Iw (I0 ?_))
 apply iK a0 ?_
 refine⟨by show 1<=_;decide,?_⟩
 refine⟨⟨rfl,rfl,a0,by show 2<=_;decide⟩,?_⟩
 obtain⟨bs,b,a6,U⟩:∃bs b,Bs bs p b/\qF ["m",Z] [.tup [.str "m",.str p],.tup [.str Z,.str w]]=bs.map Ba:=by
  rcases R with rfl|rfl
  ·exact⟨_,1,⟨a1,w,B,.inl ⟨rfl,rfl⟩⟩,by unfold qF Zp.sortBy;rw[Quq (by simp)];show(Zp.fY (Zp.Ep ["m","a"]) (PySem.W.kas_sort 2)).toList.map _=_;rw[show Zp.fY (Zp.Ep ["m","a"]) (PySem.W.kas_sort 2)= #[1,0] by decide +kernel];rfl⟩
  ·exact⟨_,0,⟨a1,w,B,.inr ⟨rfl,rfl⟩⟩,by unfold qF Zp.sortBy;rw[Quq (by simp)];show(Zp.fY (Zp.Ep ["m","z"]) (PySem.W.kas_sort 2)).toList.map _=_;rw[show Zp.fY (Zp.Ep ["m","z"]) (PySem.W.kas_sort 2)= #[0,1] by decide +kernel];rfl⟩
 refine⟨rfl,["m",Z],rfl,⟨by show 2<=3;decide,?_⟩,?_⟩
 ·rcases R with rfl|rfl <;>decide +kernel
 have s:qF ["m",Z] ([.tup [.str "m",.str p]]++ [.tup [.str Z,.str w]])=bs.map Ba:=U
 rw[s]
 clear U s
 symm
 apply q0 (Ce ?_)
 rw[show(n:Int)-1=((n-1:Nat):Int) by omega]
 refine⟨((n-1:Nat):Int),rfl,by omega,?_⟩
 refine⟨λm o F K=>(∃a,o= [a,some (.ref k)])/\∃g:List Nat,K=g.map c8/\g.length=m/\(∀t∈g,t<=9)/\Ex k S F/\S4.length<=F.length,⟨⟨none,rfl⟩,[],rfl,rfl,λ_ h=>(nomatch h),e4,Qmq _⟩,λ_ _ _ _ _=>trivial,?_,?_⟩
 ·rintro m d o F K I ⟨⟨a,rfl⟩,g,rfl,hlen,h9,ex,hS4⟩
  obtain⟨rfl,hm⟩:=qf I
  apply bg ?_
  rw[Qhq rfl]
  symm
  apply gM ex (by decide) (by decide) λt9 j H N d4 l5=> ?_
  refine⟨by show 6<=_;decide,?_⟩
  symm
  refine gM (N.app (G:= [O.lst [.int 0,.int 9,.int 4,.int 4,.int 5,.int t9]])) (by decide) (by decide) λJ S6 c6 e6 b8 l6=> ?_
  dsimp only
  obtain⟨t,l,b1⟩:∃t:Nat,t<=9/\kW ([.int 0,.int 9,.int 4,.int 4,.int 5,.int t9]:List D) (J:Int)=some (.int t):=by
   rcases(by omega:J=0\/J=1\/J=2\/J=3\/J=4\/J=5) with rfl|rfl|rfl|rfl|rfl|rfl
   ·exact⟨0,by omega,rfl⟩
   ·exact⟨9,by omega,rfl⟩
   ·exact⟨4,by omega,rfl⟩
   ·exact⟨4,by omega,rfl⟩
   ·exact⟨5,by omega,rfl⟩
   ·exact⟨t9,by omega,rfl⟩
  have c1:=N.len
  refine gH (b8.keep _ _ (by omega) bM) b1 ?_
  have d3:S6.length=j.length+1:=by simpa using l6
  refine⟨bo (by rw[lQm];omega),⟨_,rfl⟩,g++ [t],by simp[c8],by simp[hlen],λz q=> ?_,e6,by omega⟩
  rcases mQa.mp q with q|q
  ·exact h9 z q
  ·rw[Qfq.mp q];exact l
 rintro o j K ⟨-,g,rfl,hlen,h9,N,hS4⟩
 rw[ya] at hlen
 symm
 refine⟨by show 2<=_;decide,?_⟩
 symm
 refine⟨by show 1<=_;decide,?_⟩
 symm
 apply GM hn a8 ?_
 refine⟨by show 2<=_;decide,?_⟩
 symm
 refine⟨by show 3<=_;decide,?_⟩
 symm
 refine⟨by show 1<=_;decide,?_⟩
 symm
 refine⟨by show 2<=_;decide,?_⟩
 symm
 refine⟨by show 2<=_;decide,?_⟩
 symm
 have c3:=N.lt
 apply lG (α:=Nat) (λo=>∃a,o= [a]) c8 (λt=>fH ([],[hU (some t)])) ⟨none,rfl⟩ ?_
 refine iK bM ⟨g,rfl,bM,by omega,λt l o b0=> ?_,?_⟩
 ·obtain⟨a,rfl⟩:=b0
  apply bg ⟨rfl,⟨_,rfl⟩,?_⟩
  refine⟨by show 0<=_;decide,?_⟩
  symm
  refine⟨by show 5<=_;decide,?_⟩
  symm
  refine⟨by show 1<=_;decide,?_⟩
  symm
  refine⟨by show 2<=_;decide,?_⟩
  exact⟨rfl,rfl⟩
 symm
 refine gM ((N.app (G:= [O.lst (g.map c8)])).app (G:= [O.lst (g.map λt=>fH ([],[hU (some t)]))])) (by show(0:Int)<n;omega) (by show(n:Int)<1000000;omega) λf S7 a3 e7 a5 l7=> ?_
 have a3:(f:Int)<n:=a3
 have lk:S.length<=j.length:=N.len
 have r:=a5.keep _ _ (by rw[lQa];omega) (bM (S:=j++ [O.lst (g.map c8)]))
 have c0:=a5.keep _ _ (show j.length≠k by omega) (kf (bM (S:=j)))
 rw[show(j++ [O.lst (g.map c8)]).length=j.length+1 by simp] at r
 symm
 apply EB ?_
 apply⟨j.length+1,_,by simp,r,?_⟩
 refine⟨by show 0<=_;decide,?_⟩
 symm
 refine⟨by show 5<=_;decide,?_⟩
 symm
 refine⟨by show 1<=_;decide,?_⟩
 symm
 refine⟨by show 2<=_;decide,?_⟩
 symm
 refine⟨_,r,CO (by rw[lQm];omega) (by rw[lQm];omega) ?_⟩
 have L:=yp (k:=j.length+1) (o':=.lst ((g.map λt=>fH ([],[hU (some t)])).take f++IT::(g.map λt=>fH ([],[hU (some t)])).drop f)) (show j.length≠j.length+1 by omega) c0
 have b2:=rA (o':=.lst ((g.map λt=>fH ([],[hU (some t)])).take f++IT::(g.map λt=>fH ([],[hU (some t)])).drop f)) r
 symm
 apply EB ?_
 apply⟨j.length,_,rfl,L,?_⟩
 refine⟨_,L,CO (by rw[lQm];omega) (by rw[lQm];omega) ?_⟩
 have X:=yp (k:=j.length) (o':=.lst ((g.map c8).take f++.non::(g.map c8).drop f)) (show j.length+1≠j.length by omega) b2
 have H:=rA (o':=.lst ((g.map c8).take f++.non::(g.map c8).drop f)) L
 have e9:Ex k S ((S7.set (j.length+1) (.lst ((g.map λt=>fH ([],[hU (some t)])).take f++IT::(g.map λt=>fH ([],[hU (some t)])).drop f))).set j.length (.lst ((g.map c8).take f++.non::(g.map c8).drop f))):=(e7.put (by omega) kl).put (by omega) kl
 generalize ((S7.set (j.length+1) (.lst ((g.map λt=>fH ([],[hU (some t)])).take f++IT::(g.map λt=>fH ([],[hU (some t)])).drop f))).set j.length (.lst ((g.map c8).take f++.non::(g.map c8).drop f)))=S9 at X H e9⊢
 symm
 refine⟨by show 0<=_;decide,?_⟩
 symm
 refine⟨by show 5<=_;decide,?_⟩
 symm
 refine⟨by show 1<=_;decide,?_⟩
 symm
 refine⟨by show 0<=_;decide,?_⟩
 symm
 refine⟨by show 0<=_;decide,?_⟩
 symm
 rw[show(j++ [O.lst (g.map c8)]).length=j.length+1 by simp]
 refine iK X ?_
 apply⟨rfl,?_⟩
 refine⟨by show 4<=_;decide,?_⟩
 symm
 refine⟨by show 4<=_;decide,?_⟩
 have d2:g.length=n-1:=hlen
 have a9:((g.map some).take f++none::(g.map some).drop f).length=n:=by simp;omega
 have hw:(w5 n A bs ((g.map some).take f++none::(g.map some).drop f)).d=.tup [.tup [.tup [.str "room",.str A,.tup [],.tup (bs.map Ba),.tup [.tup [.str "ring",.tup (List.replicate n (.tup [.str "call",.str "m"]))],.tup [.str "stay",.tup [.tup [.str "wait",.str "m",.str "given"]]]]]],.tup [],.tup [],.tup ((g.map λt=>fH ([],[hU (some t)])).take f++IT::(g.map λt=>fH ([],[hU (some t)])).drop f)]:=by
  show D.tup [.tup [.tup [.str "room",.str A,.tup [],.tup (bs.map Ba),.tup [.tup [.str "ring",.tup ((List.replicate n (Rw.call "m")).map Rw.d)],.tup [.str "stay",.tup [.tup [.str "wait",.str "m",.str "given"]]]]]],.tup [],.tup [],.tup ((((g.map some).take f++none::(g.map some).drop f).map λu=>([],[hU u])).map fH)]=_
  rw[QlQ,QPq,Qzq,QDq,List.map_take,List.map_drop,QPq]
  rfl
 have hu:((g.map some).take f++none::(g.map some).drop f).map uD=(g.map c8).take f++.non::(g.map c8).drop f:=by
  rw[Qzq,QDq,List.map_take,List.map_drop,QPq]
  rfl
 have P:((g.map some).take f).length=f:=by rw[Qxq,lQm];omega
 have a2:∀t,some t∈(g.map some).take f++none::(g.map some).drop f->t∈g:=λt l=>by
  rcases mQa.mp l with l|l
  ·obtain⟨z,q,e⟩:=Qkq.mp (List.mem_of_mem_take l)
   cases e
   exact q
  ·rcases Qsq.mp l with l|l
   ·cases l
   ·obtain⟨z,q,e⟩:=Qkq.mp (List.mem_of_mem_drop l)
    cases e
    exact q
 have a4:∀i,i<n->i≠f->∃t,((g.map some).take f++none::(g.map some).drop f)[i]?=some (some t):=λi hi c2=>by
  by_cases c:i<f
  ·have C:i<g.length:=by omega
   exact⟨g[i],by rw[QHq (by omega),List.getElem?_take_of_lt c,gQm,gQe C];rfl⟩
  ·have C:i-1<g.length:=by omega
   refine⟨g[i-1],?_⟩
   rw[QQq (by omega),P,show i-f=(i-f-1)+1 by omega,List.getElem?_cons_succ,List.getElem?_drop,show f+(i-f-1)=i-1 by omega,gQm,gQe C]
   rfl
 have:=h A p bs b _ f j.length S9 b3 a6 a9 (by rw[QQq (by omega),P,Nat.sub_self];rfl) (λt l=>h9 t (a2 t l)) a4 (x.trans e9) (by omega) (by rw[hu];exact H)
 rw[hw] at this
 exact this
end
structure A5(us:List (Option Nat))(so:Str)(spot:Nat)(left:List Nat)(line:List (Int×Int))(hs:List (List Int×List bV)):Prop where
 usp:us[spot]?=some none
 ust:∀i,i<us.length->i≠spot->∃t,us[i]?=some (some t)
 lf:∀h∈left,h<us.length/\h≠spot
 nl:left.Nodup
 out:∀h,h∈left\/h=spot->hs[h]?=some ([],[iR])
 ln:∀p∈line,∃(h:Nat) (g:Int) (t:Nat),p.2=h/\us[h]?=some (some t)/\h≠spot/\h∉left/\hs[h]?=some ([],[cM,⟨0,1,1,g,0⟩])
 nd:(line.map (·.2)).Nodup
 sr:line.Pairwise (λa b=>a.1<=b.1)
 zr:so="row" ->∀p∈line,p.1=0
 ll:line.length+left.length+1=us.length
section
variable{n:Nat}{mn so:Str}{bs:List (Str×Str)}{us:List (Option Nat)}{b:Nat}{hs:List (List Int×List bV)}{spot m:Nat}{line:List (Int×Int)}{left:List Nat}{tr:BF}{h j:Nat}
abbrev r0(b:Nat)(a:Int)(line:List (Int×Int)):dI:=⟨[],a,[],[],bl b line⟩
def A5.nin(a:A5 us so spot left line hs)(c:h∈left\/h=spot):(h:Int)∉line.map (·.2):=λz=>by
 obtain⟨p,d,e⟩:=Qkq.mp z
 obtain⟨l,g,t,f,_,k,i,_⟩:=a.ln p d
 have:l=h:=by have:=f.symm.trans e;omega
 subst this
 rcases c with c|c
 ·exact i c
 ·exact k c
def uV{a:Int}(c:b<2):cB (r0 b a line)=line.map (·.2):=by
 rw[fU c]
 simp
def A5.step(o:gI (w5 n mn bs us))(N:Bs bs so b)(a:A5 us so spot left line hs)(tk:si (w5 n mn bs us) tr)(w:jQ (w5 n mn bs us) tr=s5 (r0 b (-1) line) hs)(x:cI (w5 n mn bs us) m (s5 (r0 b (-1) line) hs))(hm:m<=50)(H:left[j]?=some h):
  ∃ t s S,us[h]?=some (some t)/\A5 us so spot (left.eraseIdx j) (iD line (if so="turns" then(t:Int) else 0) h) s/\si (w5 n mn bs us) (tr++ [(h,S,none)]++ [(h,s5 (r0 b (-1) (iD line (if so="turns" then(t:Int) else 0) h)) s,none)])∧
    cI (w5 n mn bs us) (m+2) (s5 (r0 b (-1) (iD line (if so="turns" then(t:Int) else 0) h)) s)/\s[h]?=some ([],[cM,⟨0,1,1,t,0⟩]):=by
 have L:=N.lt
 have k:h∈left:=mQg H
 obtain⟨W,B⟩:=a.lf h k
 obtain⟨t,I⟩:=a.ust h W B
 have d:=a.out h (.inl k)
 have y:=a.nin (.inl k)
 have Q:h∈jR (w5 n mn bs us) (s5 (r0 b (-1) line) hs):=AE I d (by rw[uV L];exact y)
 obtain⟨u,C⟩:=jt o x (by omega) Q d rfl
 rw[Jw I d] at u C
 have ec:fq (r0 b (-1) line) h=r0 b h line:=by unfold fq;rw[Qhq rfl]
 dsimp only at u C
 rw[ec] at u C
 have A:(hs.set h ([],[cM,⟨0,Il (some t),0,Ij (some t),0⟩]))[h]?=some ([],[cM,⟨0,1,0,(t:Int),0⟩]):=dS d
 have R:h∈jR (w5 n mn bs us) (s5 (r0 b h line) (hs.set h ([],[cM,⟨0,Il (some t),0,Ij (some t),0⟩]))):=jW A rfl (by rw[uV L];exact y)
 obtain⟨r,F⟩:=jt o C (by omega) R A rfl
 rw[G4 (line:=line) N rfl (xD L) A] at r F
 dsimp only at r F
 rw[zk] at r F
 rw[List.set_set] at r F
 have t1:=tk.app (h:=h) (s':=s5 (r0 b h line) (hs.set h ([],[cM,⟨0,Il (some t),0,Ij (some t),0⟩]))) (e:=none) (by rw[w];exact x.mays o (by omega)) (by rw[w];exact Q) (by rw[w];exact u)
 have X:=t1.app (h:=h) (s':=s5 (r0 b (-1) (iD line (if so="turns" then(t:Int) else 0) h)) (hs.set h ([],[cM,⟨0,1,1,(t:Int),0⟩]))) (e:=none) (by rw[i3];exact C.mays o (by omega)) (by rw[i3];exact R) (by rw[i3];exact r)
 refine⟨t,_,_,I,?_,X,F,dS d⟩
 have G:=qA (t:=if so="turns" then(t:Int) else 0) (x:=(h:Int)) (l:=line)
 have q:∀f,f∈left.eraseIdx j->f∈left/\f≠h:=λf c=>by
  refine⟨List.mem_of_mem_eraseIdx c,λz=> ?_⟩
  subst z
  obtain⟨i,U,e⟩:=List.mem_eraseIdx_iff_getElem?.mp c
  exact U ((List.getElem?_inj (gQs.mp e).1 a.nl).mp (e.trans H.symm))
 refine⟨a.usp,a.ust,λf c=>a.lf f (q f c).1,a.nl.sublist (List.eraseIdx_sublist ..),λf c=> ?_,λp v=> ?_,?_,DT a.sr,λY p v=> ?_,?_⟩
 ·rw[QKq]
  ·exact a.out f (c.imp_left λz=>(q f z).1)
  ·rcases c with c|c
   ·exact Ne.symm (q f c).2
   ·rw[c];exact B
 ·rcases Qsq.mp (G.mem_iff.mp v) with rfl|v
  ·exact⟨h,_,t,rfl,I,B,λz=>(q h z).2 rfl,dS d⟩
  ·obtain⟨f,g,Z,K,J,P,M,e5⟩:=a.ln p v
   refine⟨f,g,Z,K,J,P,λz=>M (q f z).1,?_⟩
   rw[QKq λz=>M (by rw[←z];exact k)]
   exact e5
 ·refine((G.map (·.2)).nodup_iff).mpr (List.nodup_cons.mpr ⟨y,a.nd⟩)
 ·subst Y
  rcases Qsq.mp (G.mem_iff.mp v) with rfl|v
  ·show(if ("row":Str)="turns" then(t:Int) else 0)=0
   exact Quq (by decide +kernel)
  ·exact a.zr rfl p v
 ·have K:=G.length_eq
  have J:=List.length_eraseIdx_of_lt (gQs.mp H).1
  have P:=(gQs.mp H).1
  have M:=a.ll
  rw[K,J,Qnq]
  omega
end
def Ci{S:aI}{a:Bool}{i j:Int}{Q:D->Prop}(q:Q (.bl (if a then !decide (i=j) else decide (i=j)))):Op (mG a S (.int i) (.int j)) Q:=zE (p:=.int i) (r:=.int j) rfl rfl (by simp[PyData.depth]) (by
 have:PyData.eqv (.int i) (.int j)=decide (i=j):=by simp[PyData.eqv,BEq.beq]
 rw[this];exact q)
def IL{S:aI}{x y z:Str}{a:Bool}{Q:D->Prop}(b:PyData.strOk x=true)(d:PyData.strOk y=true)(c:PyData.strOk z=true)(q:Q (.bl (!a))):Op (mG a S (.tup [.str x,.str y,.str z]) (.tup [.str x,.str y,.str z])) Q:=va (p:=.tuple [.str x,.str y,.str z]) (by simp[iY,km,b,d,c]) (by simp[PyData.depth,PyData.depthAll]) q
def Fs(n a:Nat):List Nat:=(List.range n).filter λh:Nat=> !decide ((h:Int)=(a:Int))
def EM:∀n,n<5->∀a,a<n->(Fs n a).length+1=n:=by decide
def Dm:∀ns:List Int,ns.length<=63->∃I,ER [.ref 0] [.frz (ns.map D.int)]=some (.d (.bl true),I):=by
 intro ns i5
 suffices h:Fn ER [.ref 0] [.frz (ns.map D.int)] λr _=>r=.d (.bl true) by
  obtain⟨r,I,e,rfl⟩:=h
  exact⟨I,e⟩
 refine bX ?_
 unfold JL
 refine cv (mT ?_)
 apply Ce ?_
 apply DC rfl ?_
 apply CI ?_
 refine Gk ?_
 obtain⟨m,hm,h3⟩:∃m:Nat,(if (if (8:Int)<((ns.map D.int).length:Nat) then(8:Int) else((ns.map D.int).length:Nat))>(1:Int) then(if (8:Int)<((ns.map D.int).length:Nat) then(8:Int) else((ns.map D.int).length:Nat)) else 1)=(m:Int)/\m<=8:=by
  refine⟨(if (if (8:Int)<((ns.map D.int).length:Nat) then(8:Int) else((ns.map D.int).length:Nat))>(1:Int) then(if (8:Int)<((ns.map D.int).length:Nat) then(8:Int) else((ns.map D.int).length:Nat)) else 1).toNat,?_,?_⟩ <;>(repeat' split) <;>omega
 refine⟨m,congrArg D.int hm,by omega,?_⟩
 refine⟨λn C I=>(∃a1 a2 a3 a4 U a6 a7 a8 a9 d2 c3 c2 c1,C= [some (.ref 0),a1,a2,a3,a4,U,a6,a7,a8,a9,d2,c3,c2,c1])/\I[0]?=some (.frz (ns.map D.int)),⟨⟨_,_,_,_,_,_,_,_,_,_,_,_,_,rfl⟩,rfl⟩,λ_ _ _ _=>trivial,?_,?_⟩
 ·rintro n0 d C S hd ⟨⟨a1,a2,a3,a4,U,a6,a7,a8,a9,d2,c3,c2,c1,rfl⟩,hS⟩
  obtain⟨rfl,_⟩:=qf hd
  apply bg ?_
  apply Hr hS λpa pb=> ?_
  have N:Ex S.length (S++ [nY pa pb 0]) (S++ [nY pa pb 0]):=Ex.refl bM
  have d9:(S++ [nY pa pb 0])[0]?=some (.frz (ns.map D.int)):=kf hS
  have h0:0≠S.length:=by
   have:=(gQs.mp hS).1
   omega
  show Fn cu [.ref S.length,.int 3] (S++ [nY pa pb 0]) _
  generalize S.length=kp at N h0⊢
  generalize S++ [nY pa pb 0]=S1 at N d9⊢
  apply gM N (by decide) (by decide) λv S2 hv e2 i1 l2=> ?_
  rw[show(2:Int)+(v:Int)=((2+v:Nat):Int) by omega]
  refine BQ e2 (by omega) (by omega) λH so J b A q lt S3 f2 R d8 F h9 b6 e3 g1 d5=> ?_
  refine eA rfl (aB (bg (aB (bg (aB (bg (aB (bg (bq ?_)))))))))
  have ok:gI (w5 (2+v) H J A):=Jc f2 R (by omega) (by omega) (by omega) h9
  generalize hn:2+v=n at ok d8 b6⊢
  symm
  apply yg ok ?_
  apply ay rfl ?_
  refine ay (d:=dI.d (r0 b (-1) [])) ?_ ?_
  ·obtain⟨_,o,_,R⟩:=R
   rcases R with⟨rfl,rfl⟩|⟨rfl,rfl⟩ <;>rfl
  symm
  refine ay (d:=.tup [.tup [],.tup []]) ?_ ?_
  ·rcases(by have:=R.lt;omega:b=0\/b=1) with rfl|rfl <;>rfl
  symm
  refine⟨by show 0<=_;decide,?_⟩
  symm
  refine⟨by show 0<=_;decide,?_⟩
  symm
  refine⟨by show 2<=_;decide,?_⟩
  refine va (p:=.tuple [.tuple [],.tuple []]) rfl (by simp[PyData.depth,PyData.depthAll]) ?_
  apply aW (λc=>by cases c) (λ_=>cf ?_)
  apply kD (α:=Nat) (λC=>∃a,C= [a,some (.int q)]) (λ(i:Nat)=>D.int (0+(i:Int))) c8 (λh=> !decide ((h:Int)=(q:Int))) ⟨none,rfl⟩ ?_
  refine iK d5 ?_
  refine⟨_,rfl,by rw[lQm];omega,?_⟩
  refine⟨List.range A.length,by simp only[q_,lQm];rfl,trivial,by simp;omega,λh h7 C g2=> ?_,?_⟩
  ·obtain⟨a,rfl⟩:=g2
   refine bg ⟨rfl,⟨_,rfl⟩,?_⟩
   rw[Int.zero_add]
   refine gq (zw (cR rfl (cR rfl (Ci ?_))))
   refine⟨rfl,rfl,λ_=>cR rfl ⟨rfl,rfl⟩⟩
  rw[show(List.range A.length).filter (λh:Nat=> !decide ((h:Int)=(q:Int)))=Fs A.length q from rfl]
  symm
  refine⟨by show 0<=_;decide,?_⟩
  symm
  refine⟨by show 0<=_;decide,?_⟩
  symm
  refine⟨by show 2<=_;decide,?_⟩
  refine eA rfl (aB (bg (aB (bg (bq ?_)))))
  have b2:=R.lt
  have yj:q<A.length:=(gQs.mp F).1
  have a0:A5 A so q (Fs A.length q) [] (dr (w5 n H J A)).af:=by
   refine⟨F,λi hi=>b6 i (by omega),λh hh=> ?_,List.nodup_range.filter _,λh hh=> ?_,λp hp=>(nomatch hp),by simp,by simp,λ_ p hp=>(nomatch hp),?_⟩
   ·obtain⟨h1,h2⟩:=List.mem_filter.mp hh
    refine⟨List.mem_range.mp h1,λz=> ?_⟩
    subst z
    simp at h2
   ·have hl:h<A.length:=by
     rcases hh with hh|rfl
     ·exact List.mem_range.mp (List.mem_filter.mp hh).1
     ·exact yj
    show((A.map λu=>([],[hU u])).map _)[h]?=_
    rw[gQm,gQm,gQe hl]
    rfl
   ·have:=EM A.length (by omega) q yj
    simp only[QGq]
    omega
  have e1:jQ (w5 n H J A) []=s5 (r0 b (-1) []) (dr (w5 n H J A)).af:=by
   obtain⟨_,o,_,R⟩:=R
   rcases R with⟨rfl,rfl⟩|⟨rfl,rfl⟩ <;>rfl
  have x0:cI (w5 n H J A) 1 (s5 (r0 b (-1) []) (dr (w5 n H J A)).af):=by rw[←e1];exact A1 ok
  have d7:=(gQs.mp d5).1
  generalize c5:S3.length=lr at d7⊢
  have h5:kp<lr:=by rw[←c5];exact e3.lt
  have e4:Ex kp S1 (S3++ [O.lst (((Fs A.length q)).map c8)]):=e3.app
  have f3:(S3++ [O.lst (((Fs A.length q)).map c8)])[lt]?=some (.lst (A.map uD)):=kf d5
  have d1:(S3++ [O.lst (((Fs A.length q)).map c8)])[lr]?=some (.lst (((Fs A.length q)).map c8)):=by rw[←c5];exact bM
  generalize (S3++ [O.lst (((Fs A.length q)).map c8)])=S4 at e4 f3 d1⊢
  generalize (Fs A.length q)=left0 at a0 d1⊢
  refine cv (JZ (λm C I=>∃(w:List Nat) (y:List (Int×Int)) (hs:List (List Int×List bV)) (Q:BF) (b1 f5 b0 Y:Option D),C= [some (.ref 0),some (.int n0),some (.ref kp),some (w5 n H J A).d,some (.ref lt),some (.str so),some (.int q),some (.ref lr),some (.tup ((Q.map (·.1)).map c8)),some (bZ y),b1,f5,b0,Y]/\w.length=m/\I[lr]?=some (.lst (w.map c8))/\I[lt]?=some (.lst (A.map uD))/\A5 A so q w y hs/\si (w5 n H J A) Q/\Q.length=2*y.length/\jQ (w5 n H J A) Q=s5 (r0 b (-1) y) hs/\cI (w5 n H J A) (1+2*y.length) (s5 (r0 b (-1) y) hs)/\Ex kp S1 I) ?_ 4 left0.length _ _ ?_ ?_)
  ·rintro m' C I ⟨w,y,hs,Q,b1,f5,b0,Y,rfl,rfl,hr5,ht5,U,tk,htl,hst,xs,e5⟩
   have h8:=e5.lt
   have g4:=U.ll
   refine gq (Fh (Gi (cR rfl (iK hr5 ⟨⟨rfl,hr5⟩,?_⟩))))
   refine aW (λc=> ?_) (λc=> ?_)
   ·have h4:0<w.length:=by
     cases w with
     |nil=>cases c
     |cons a l=>simp
    apply⟨w.length-1,by omega,?_⟩
    apply EB ?_
    apply⟨_,_,rfl,hr5,?_⟩
    apply iK hr5 ?_
    refine gM e5 (by simp only[lQm];omega) (by simp only[lQm];omega) λj S6 hj e6 f8 l6=> ?_
    symm
    have b3:j<w.length:=by simpa using hj
    have d6:=f8.keep _ _ (show lr≠kp by omega) hr5
    refine⟨_,d6,?_⟩
    refine Ji (d:=((w.map c8).eraseIdx j,c8 w[j])) ?_ ?_
    ·simp only[qG]
     rw[Qhq ⟨by omega,by omega⟩,lQm,JE b3 (by omega)]
     simp[gQe b3]
    obtain⟨t,L,s1,e0,a6,W,x2,f0⟩:=U.step ok R tk hst xs (by omega) (gQe b3)
    generalize w[j]=h at e0 a6 W x2 f0⊢
    have e8:=rA (o':=.lst ((w.map c8).eraseIdx j)) d6
    have b7:=yp (k:=lr) (o':=.lst ((w.map c8).eraseIdx j)) (show lt≠lr by omega) (f8.keep _ _ g1 ht5)
    have e7:Ex kp S1 (S6.set lr (.lst ((w.map c8).eraseIdx j))):=e6.put (by rw[←c5];exact e3.len) N.lt
    generalize S6.set lr (.lst ((w.map c8).eraseIdx j))=S7 at e8 b7 e7⊢
    symm
    refine⟨by show 2<=_;decide,?_⟩
    refine cN (by rw[lQm,lQm];exact nQl (bo (by show Q.length+2<=1000;omega))) ?_
    generalize M:iD y (if so="turns" then(t:Int) else 0) h=line2 at a6 W x2
    have c4:(Q.map (·.1)).map c8++ [c8 h,c8 h]=(((Q++ [(h,s1,none)]++ [(h,s5 (r0 b (-1) line2) L,none)]:BF)).map (·.1)).map c8:=by simp
    rw[c4]
    symm
    refine gH b7 (d:=.int t) (aZ (by rw[gQm,e0];rfl)) ?_
    symm
    refine Cj R.1 (by omega) U.zr U.sr ?_
    rw[M]
    have j1:=a6.ll
    have h6:line2.length=y.length+1:=by rw[←M,qA.length_eq,Qnq]
    have b5:(Q++ [(h,s1,none)]++ [(h,s5 (r0 b (-1) line2) L,none)]).length=2*line2.length:=by simp;omega
    symm
    apply tj ok W (by omega) ?_
    refine ay (d:=bc.d _) rfl ?_
    rw[i3]
    have b4:jQ (w5 n H J A) (Q++ [(h,s1,none)]++ [(h,s5 (r0 b (-1) line2) L,none)])=s5 (r0 b (-1) line2) L:=i3
    generalize Q++ [(h,s1,none)]++ [(h,s5 (r0 b (-1) line2) L,none)]=tr2 at W b4 b5⊢
    symm
    apply p0 R rfl ?_
    refine mO 10 (bZ line2) (pX (by omega)) ?_
    refine nH ?_
    apply aW (λc=>by cases c) (λ_=> ?_)
    refine dX (s:=s5 (r0 b (-1) line2) L) ok x2 (by omega) f0 rfl ?_
    rw[FU R (by simp) (by simp) rfl (by rw[←M];exact Qkq.mpr ⟨_,qA.mem_iff.mpr (QBq ..),rfl⟩)]
    symm
    refine⟨by show 3<=_;decide,?_⟩
    refine IL (by decide +kernel) (by decide +kernel) (by decide +kernel) ?_
    refine aW (λc=>by cases c) (λ_=>cf ?_)
    refine⟨w.eraseIdx j,line2,L,tr2,_,_,_,_,rfl,List.length_eraseIdx_of_lt b3,?_,b7,a6,W,b5,b4,?_,e7⟩
    ·rw[e8,uv]
    ·rw[show 1+2*line2.length=1+2*y.length+2 by omega];exact x2
   ·have g6:w= []:=by
     cases w with
     |nil=>rfl
     |cons a l=>simp at c
    subst g6
    have P:=U.out q (.inr rfl)
    have g0:=U.nin (h:=q) (.inr rfl)
    have m1:q∈jR (w5 n H J A) (s5 (r0 b (-1) y) hs):=AE F P (by rw[uV b2];exact g0)
    obtain⟨Z,x1⟩:=jt ok xs (by omega) m1 P rfl
    rw[Jw F P] at Z x1
    have ec:fq (r0 b (-1) y) q=r0 b q y:=by unfold fq;rw[Qhq rfl]
    dsimp only at Z x1
    rw[ec] at Z x1
    have f9:=tk.app (h:=q) (e:=none) (by rw[hst];exact xs.mays ok (by omega)) (by rw[hst];exact m1) (by rw[hst];exact Z)
    have c0:C5 A q 0 y [] (hs.set q ([],[cM,⟨0,Il none,0,Ij none,0⟩])):=by
     refine⟨F,dS P,λp hp=> ?_,U.nd,λx hx=>(nomatch hx)⟩
     obtain⟨h',g,t',k1,k2,k3,k4,k5⟩:=U.ln p hp
     exact⟨h',g,t',k1,k2,k3,by rw[QKq (Ne.symm k3)];exact k5⟩
    generalize hs.set q ([],[cM,⟨0,Il none,0,Ij none,0⟩])=hs1 at x1 f9 c0
    symm
    refine⟨by show 1<=_;decide,?_⟩
    refine cN (by rw[lQm,lQm];exact nQl (bo (by show Q.length+1<=1000;omega))) ?_
    have c4:(Q.map (·.1)).map c8++ [.int q]=(((Q++ [(q,s5 (r0 b q y) hs1,none)]:BF)).map (·.1)).map c8:=by simp[c8]
    rw[c4]
    symm
    refine tj ok f9 (by simp;omega) ?_
    symm
    refine ay (d:=bc.d _) rfl ?_
    rw[i3]
    have g4:y.length+0+1=A.length:=U.ll
    refine cv (mT (Ce (JQ (Gi (cR rfl (iK ht5 ⟨_,rfl,by rw[lQm];omega,?_⟩))))))
    rw[lQm]
    refine⟨λj C I=>∃(K:List (Int×Int)) (B:List Int) (hj:List (List Int×List bV)) (b8 b1 b0 Y:Option D),C= [some (.ref 0),some (.int n0),some (.ref kp),some (w5 n H J A).d,some (.ref lt),some (.str so),some (.int q),some (.ref lr),b8,some (bZ K),b1,some (s5 ⟨[],q,B,[],bl b K⟩ hj).d,b0,Y]/\C5 A q j K B hj/\(H="at once" ->B= [])/\K.length<=4/\cI (w5 n H J A) (10+2*j) (s5 ⟨[],q,B,[],bl b K⟩ hj)/\Ex kp S1 I,?_,λ_ _ _ _=>trivial,?_,?_⟩
    ·exact⟨y,[],hs1,_,_,_,_,rfl,c0,λ_=>rfl,by omega,x1.mono (by omega),e5⟩
    ·rintro j d C I hd ⟨K,B,hj,b8,f7,e9,f4,rfl,cj,hrow,hlj,xj,ej⟩
     obtain⟨rfl,hjn⟩:=qf hd
     apply bg ?_
     apply Be ok f2 R xj (by omega) cj (by omega) hrow (by omega) λG g5 c' c6 x'=> ?_
     refine wc ?_
     refine aW (λc=>by cases c) (λ_=>cf ?_)
     refine Gn (il (cR rfl (cp (Lb ⟨1,rfl,cg ⟨_,rfl,?_⟩⟩))))
     rw[Fw,←List.map_drop]
     exact⟨K.drop 1,G,g5,_,_,_,_,rfl,c',c6,by rw[List.length_drop];omega,x',ej⟩
    ·rintro C I ⟨K,B,hj,b8,f7,e9,f4,rfl,cj,hrow,hlj,xj,ej⟩
     rw[ya] at cj xj
     have X:(q:Int)∉cB ⟨[],q,B,[],bl b K⟩:=by rw[fU b2];exact cj.nsp
     have m2:q∈jR (w5 n H J A) (s5 ⟨[],q,B,[],bl b K⟩ hj):=jW cj.ring rfl X
     obtain⟨d3,x2⟩:=jt ok xj (by omega) m2 cj.ring rfl
     rw[s_end F rfl (.inl ⟨rfl,d8⟩) cj.ring] at d3 x2
     dsimp only at d3 x2
     symm
     apply ay rfl ?_
     apply ay (d:=dI.d ⟨[],q,B,[],bl b K⟩) rfl ?_
     apply ay (d:=cX B) rfl ?_
     apply jk (xj.mays ok (by omega)) m2 d3 ?_
     refine ay (d:=bc.d _) rfl ?_
     have d4:∃wi G,c7 ⟨[],q,B,[],bl b K⟩=⟨[],wi,G,[],bl b K⟩/\kW ((B.map D.int)++ [.int (-1)]) 0=some (.int wi)/\∀z,z∈G->z∈B:=by
      cases B with
      |nil=>exact⟨-1,[],rfl,rfl,λ_ h=>h⟩
      |cons a l=>exact⟨a,l,rfl,yf,λ_ h=>Qpq _ h⟩
     obtain⟨wi,G,d4,g3,f6⟩:=d4
     rw[d4] at x2⊢
     have f1:(q:Int)∉cB ⟨[],wi,G,[],bl b K⟩:=by
      rw[fU b2] at X⊢
      intro z
      refine X ?_
      rw[List.append_nil] at z⊢
      rcases mQa.mp z with z|z
      ·exact mQa.mpr (.inl (f6 _ z))
      ·exact mQa.mpr (.inr z)
     symm
     refine dX (f:=cM) ok x2 (by omega) (dS cj.ring) rfl ?_
     rw[zL f1 F]
     symm
     refine⟨by show 1<=_;decide,?_⟩
     refine Gg (by decide +kernel) ?_
     apply aW (λc=>by cases c) (λ_=> ?_)
     apply ay rfl ?_
     apply ay (d:=dI.d ⟨[],wi,G,[],bl b K⟩) rfl ?_
     apply ay (d:=.int wi) rfl ?_
     apply qh ?_
     apply⟨1,rfl,?_⟩
     refine⟨by show 1<=_;decide,?_⟩
     have i2:B.length<=10+2*A.length:=(xj.rm 0 (vp n H J) ⟨[],q,B,[],bl b K⟩ rfl rfl).br
     refine cN (by rw[lQm];exact nQl (bo (by show B.length+1<=1000;omega))) ?_
     symm
     refine ay (d:=.int wi) g3 ?_
     refine Ci ?_
     rw[Qeq rfl]
     refine aW (λc=>by cases c) (λ_=>cf ?_)
     exact⟨⟨_,_,_,_,_,_,_,_,_,_,_,_,_,rfl⟩,ej.keep _ _ h0 d9⟩
  ·have:=a0.ll
   simp at this
   omega
  ·exact⟨left0,[],_,[],_,_,_,_,rfl,rfl,d1,f3,a0,λn h s' e z=>by simp at z,rfl,e1,x0,e4⟩
 ·rintro C I ⟨⟨a1,a2,a3,a4,U,a6,a7,a8,a9,d2,c3,c2,c1,rfl⟩,hS⟩
  symm
  have hl:=(gQs.mp hS).1
  refine g8 (S2:= [.frz (ns.map D.int)]) ⟨by show 1<=I.length;omega,λk o hk e=> ?_⟩ ?_ (λk z=>(nomatch z)) rfl rfl
  ·have hk:k<1:=hk
   have:k=0:=by omega
   subst this
   rw[hS] at e
   exact .inl e
  ·cases I with
   |nil=>simp at hl
   | cons a l=>
     simp at hS
     subst hS
     rfl
end W28
open PySem PySem.W PyProof.Rows L2 DL
theorem PySem.Challenge.cw_calledroom_k25_turns_at_bells_holds : PySem.Challenge.rw_calledroom_k25_turns_at_bells.Holds := by
  w_on; o_law; k_head; (case hw => w_witness2)
  k_fill
  refine DL.xx (l := PySem.Challenge.rw_calledroom_k25_turns_at_bells) (k := 15) rfl rfl ⟨rfl, by decide, by decide⟩ (λw h Y => PySem.W.kIn_of Y) (λw => ?nl) ?F
  case nl => rfl
  case F =>
    intro w mg fa h KX G hmg
    refine' W28.all_mk KX G hmg ?_ ?_ ?_ ?_ ?_ ?_ ?_ ?_ ?_ ?_ ?_ ?_ ?_ ?_ ?_ ?_ ?_ ?_ ?_ ?_ ?_ ?_ ?_ ?_ ?_ ?_ ?_ ?_ ?_ ?_ ?_ ?_ ?_ ?_ ?_ ?_ ?_ ?_ ?_ ?_ ?_ ?_ ?_ ?_ ?_ ?_ ?_ ?_ ?_ ?_ ?_ ?_ ?_ ?_ ?_ ?_ ?_ ?_ ?_ ?_ ?_ ?_ ?_ ?_ ?_ ?_ ?_ ?_ ?_ ?_ ?_ ?_ ?_ ?_ ?_ ?_ ?_ ?_ ?_ ?_ ?_ W28.Dm
    any_goals first | exact DL.bt.of (by k_is) (by k_is) (by k_is) (by k_is) | k_is
