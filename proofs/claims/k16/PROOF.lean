import PyProof.Rows.All
import Wide.All
import OpenK.AllK
import Wide.FinOn
import Lean
import PyProof.EqAt
import PyProof.EqKinds
import PyProof.TupleCall
import PyProof.NeKinds
import PyProof.ListRange
import PyProof.ConsumeWalk
import PyProof.StrWalks
import PyProof.Rows.StrJoin2
import PyProof.Rows.SetFrom
import PyProof.SetNew
import PyProof.DictUpdate
import PyProof.FactsAll.dict_0
import PyProof.FactsAll.dict_1
import PyProof.FactsAll.dict_2
import PyProof.FactsAll.dict_3
import PyProof.FactsAll.dict_4
import PyProof.AttrMissSeq
import PyProof.AttrMissHeap
import KE.KEqDict
import PyProof.TupleKey
import PyProof.SetRoads
import PyProof.SetScanFacts
import PyProof.ForWalkI
import PyProof.FactsAll.set_0
import PyProof.FactsAll.set_1
import PyProof.FactsAll.set_2
import PyProof.CollectWalk
import PyProof.Rows.SortStr
import PyProof.Rows.SortShellK
import PyProof.ZipIter
import KE.KSortTup
import PyProof.ReprRoads
import PyProof.StrLawsRepr
import PyProof.CallFns
import PyProof.FactsAll.zip
import PyProof.DictCompW
import PyProof.EnumFor
import PyProof.EnumStmt
import PyProof.Draws
import PySem.Challenge.RW_calledroom_k16_whole_one_place_each
set_option Elab.async false
set_option linter.all false
set_option compiler.extract_closed false
set_option maxRecDepth 100000
set_option maxHeartbeats 8000000
namespace PySem.W.Fast
def tw5119041717512107404:=trivial
def tw2306335591069415899:=trivial
def tw14253456425263481713:=trivial
def tw1807711089723870291:=trivial
def tw14133253904793051789:=trivial
def tw2893401865662107014:=trivial
def tw16637709680098164252:=trivial
def tw5540640717872391120:=trivial
def tw411259409118557178:=trivial
def tw3764262902194565493:=trivial
def tw14850511531204540822:=trivial
def tw18283780207184026011:=trivial
def tw6542190294167315505:=trivial
def tw803878410758782981:=trivial
def tw588060113993927406:=trivial
def tw5157689749123003059:=trivial
def tw15540930552158335846:=trivial
def tw946777019899333237:=trivial
def tw1641558418534178232:=trivial
def tw4741621901456100718:=trivial
def tw8487294366874302242:=trivial
def tw1487993133416136503:=trivial
def tw8479601966357830188:=trivial
def tw5388664499524046560:=trivial
def tw2211458930283265308:=trivial
def tw14463743610003733052:=trivial
def tw1998586855564158530:=trivial
def tw11150641856692131316:=trivial
def tw18173548843774458251:=trivial
def tw15149476180952244434:=trivial
def tw11377089262552054413:=trivial
def tw14378562613748877080:=trivial
def tw12954150340251997145:=trivial
def tw18444373428838234044:=trivial
def tw7208141328642397743:=trivial
def tw1211210895548712392:=trivial
def tw16626175572725045709:=trivial
def tw10857493261959894801:=trivial
def tw12175296367018254671:=trivial
def tw13239465495624432551:=trivial
def tw6021392342821345799:=trivial
def tw5612763954620473919:=trivial
def tw14583075024821423884:=trivial
def tw17483640306689222558:=trivial
def tw9647018990324175934:=trivial
def tw7524275643945393421:=trivial
def tw11778319399139567500:=trivial
def tw7074550809911384324:=trivial
def tw17186385805060504274:=trivial
def tw12937706204052109687:=trivial
def tw442437909378513202:=trivial
def tw8868036743638739585:=trivial
def tw968445919669600295:=trivial
def tw6099948035421569410:=trivial
def tw13581105542088602814:=trivial
def tw126993115708007158:=trivial
def tw15827591142395760920:=trivial
def tw13101503314873811071:=trivial
def tw11094642279713886077:=trivial
def tw13021577216561698643:=trivial
def tw8277913954310079821:=trivial
def tw6652202946816904609:=trivial
def tw5963862227669754989:=trivial
def tw17688283731003296025:=trivial
def tw7365659210328178343:=trivial
def tw6078616617364984930:=trivial
def tw10646990354113604444:=trivial
def tw13141325513009736609:=trivial
def tw5747300760130429926:=trivial
def tw12226562031502706924:=trivial
def tw16429049428039839098:=trivial
def tw6513799739427502332:=trivial
def tw13325186871592805570:=trivial
def tw8853479555487312152:=trivial
def tw10731984657497823554:=trivial
def tw8173458393010410748:=trivial
def tw15024979727152603011:=trivial
def tw15250876664562674016:=trivial
def tw15019795194939926873:=trivial
def tw13213013598718919440:=trivial
def tw1803125434645763891:=trivial
def tw7003686744512726684:=trivial
def tw11939801579846004583:=trivial
def tw4617354075255786122:=trivial
def tw15764562982969524042:=trivial
def tw808342770974821986:=trivial
def tw11258994447454129951:=trivial
def tw6606189357330566633:=trivial
def tw14460668295681311975:=trivial
def tw18444657206121453192:=trivial
def tw1783668877000349528:=trivial
def tw8031764988072721432:=trivial
def tw9026012738212075628:=trivial
def tw11708872750074090409:=trivial
def tw13799425317952102626:=trivial
def tw1871970194589967417:=trivial
def tw92873878023794468:=trivial
def tw13469831324596930918:=trivial
def tw3078046699073658670:=trivial
def tw3411626611186790669:=trivial
def tw5504414447690209883:=trivial
def tw16203193603161860628:=trivial
def tw2912013598900314379:=trivial
def tw15659056102392419681:=trivial
def tw13771704459358101680:=trivial
def tw15442042244614023937:=trivial
def tw14939106150802551914:=trivial
def tw6356220027440261893:=trivial
def tw6520526208332782336:=trivial
def tw15643196951214062856:=trivial
def tw3592256334527025158:=trivial
def tw1936580141433337872:=trivial
def tw14173949207617691322:=trivial
def tw193699731683025895:=trivial
def tw9412034336346956176:=trivial
def tw9432407884984472825:=trivial
def tw16460862051528260208:=trivial
def tw12229378526614923886:=trivial
def tw857024437348241640:=trivial
def tw17256799783979781130:=trivial
def tw2607839260514243218:=trivial
def tw2485266345759135058:=trivial
def tw15938857721293186339:=trivial
def tw6265652351789197008:=trivial
def tw9339836366938862430:=trivial
def tw11254190795350978920:=trivial
def tw16862591326016651358:=trivial
def tw1792078365110270199:=trivial
def tw2241761981979232978:=trivial
def tw5799628158899308401:=trivial
def tw11160150884656632274:=trivial
def tw11621532488456473153:=trivial
def tw17352694902036973269:=trivial
def tw17998634874297689066:=trivial
def tw11583712128969733065:=trivial
def tw11823027757129604019:=trivial
def tw25026081249844763:=trivial
def tw14451108917598119150:=trivial
def tw5154079732869208588:=trivial
def tw12007371183327447016:=trivial
def tw10930257988299636656:=trivial
def tw6351480616566569266:=trivial
def tw10668632344812982287:=trivial
def tw4261252690511850220:=trivial
def tw6900306526992494106:=trivial
def tw6992309078652746196:=trivial
def tw16849239772615303807:=trivial
def tw436927327098921250:=trivial
def tw4845814310748984190:=trivial
def tw15522798443048791134:=trivial
def tw18041031319107123821:=trivial
def tw2540859960811514562:=trivial
def tw11737545909418092516:=trivial
def tw13371568837388601855:=trivial
def tw7836925393732892194:=trivial
def tw18140075164832072410:=trivial
def tw418115344891709793:=trivial
def tw7155746458452974403:=trivial
def tw15839039488350803851:=trivial
def tw11185096702445722711:=trivial
def tw915075377055881387:=trivial
def tw6746322178267647127:=trivial
def tw12838309556727460828:=trivial
def tw15187806177651599402:=trivial
def tw12919322551131280720:=trivial
def tw15933734492795565956:=trivial
def tw5241436838299719490:=trivial
def tw13698465056333070374:=trivial
def tw1120664223347379034:=trivial
def tw7914839896980178894:=trivial
def tw12831621809653311080:=trivial
def tw14922340889075608249:=trivial
def tw4624051250568133816:=trivial
end PySem.W.Fast
set_option bootstrap.genMatcherCode false
noncomputable section
abbrev gQm:=@List.getElem?_map
abbrev lQm:=@List.length_map
abbrev mQg:=@List.mem_of_getElem?
abbrev oQm:=@Option.map_eq_some_iff
abbrev gQe:=@List.getElem?_eq_getElem
abbrev gQs:=@List.getElem?_eq_some_iff
abbrev lQa:=@List.length_append
abbrev nQl:=@Nat.le_of_lt
abbrev mQa:=@List.mem_append
abbrev Qaq:=@PySem.wpAny_bind
abbrev Qbq:=@Option.bind_some
abbrev Qcq:=@PySem.Heap.get?_push_of_some
abbrev Qdq:=@decide_eq_false
abbrev Qeq:=@decide_eq_true
abbrev Qfq:=@List.mem_singleton
abbrev Qgq:=@PySem.wpAny_pure
abbrev Qhq:=@if_pos
abbrev Qiq:=@PySem.Heap.lt_size
abbrev Qjq:=@List.size_toArray
abbrev Qkq:=@List.mem_map
abbrev Qlq:=@List.getD_eq_getElem?_getD
abbrev Qmq:=@Nat.le_refl
abbrev Qnq:=@List.length_cons
abbrev Qoq:=@List.mem_append_right
abbrev Qpq:=@List.mem_cons_of_mem
abbrev Qqq:=@Nat.lt_of_lt_of_le
abbrev Qrq:=@PySem.Heap.get?_push_size
abbrev Qsq:=@List.mem_cons
abbrev Qtq:=@Bool.false_ne_true
abbrev Quq:=@if_neg
abbrev Qvq:=@List.append_assoc
abbrev Qwq:=@Nat.ne_of_lt
abbrev Qxq:=@List.length_take
abbrev Qyq:=@List.getElem?_set_self
abbrev Qzq:=@List.map_append
abbrev QAq:=@Nat.le_trans
abbrev QBq:=@List.mem_cons_self
abbrev QCq:=@Bool.and_eq_true
abbrev QDq:=@List.map_cons
abbrev QEq:=@List.take_length
abbrev QFq:=@PySem.W.mg_none_of
abbrev QGq:=@List.length_nil
abbrev QHq:=@List.getElem?_append_left
abbrev QIq:=@List.length_replicate
abbrev QJq:=@List.Perm.append_right
abbrev QKq:=@List.getElem?_set_ne
abbrev QLq:=@PySem.wpAny_holding
abbrev QMq:=@PySem.wpAny_field
abbrev QNq:=@List.replicate_succ
abbrev QOq:=@List.mem_flatMap
abbrev QPq:=@List.map_map
abbrev QQq:=@List.getElem?_append_right
abbrev QRq:=@PySem.wpAny_mono
abbrev QSq:=@List.flatMap_cons
abbrev QTq:=@List.mem_or_eq_of_mem_set
abbrev QUq:=@List.all_eq_true
abbrev QVq:=@List.length_range
abbrev QWq:=@List.drop_eq_getElem_cons
abbrev QXq:=@List.not_mem_nil
abbrev QYq:=@List.take_add_one
namespace L2
open PySem PySem.Spec PyProof.Rows
abbrev Key:=Sum Int Str
def qC:Key->Value->Bool
 |.inl k,v=>Value.isInt k v
 |.inr x,v=>Value.isStrOf x v
def MN(w:World):Key->Int
 |.inl k=>hashInt k
 |.inr x=>hashStr w x
def dG:∀{k:Key} {v:Value},qC k v=true->(∃i t,k=Sum.inl i/\v=Value.int i t)\/(∃x t,k=Sum.inr x/\v=Value.str x t)
 | .inl i,v,h=>by
   obtain⟨t,e⟩:=Value.isInt_shape (k:=i) (v:=v) h
   exact .inl ⟨i,t,rfl,e⟩
 | .inr x,v,h=>by
   obtain⟨t,e⟩:=Value.isStrOf_shape (x:=x) (v:=v) h
   exact .inr ⟨x,t,rfl,e⟩
def DQ(i:Int)(t:Tok):qC (.inl i) (.int i t)=true:=by simp[qC,Value.isInt]
def qp(x:Str)(t:Tok):qC (.inr x) (.str x t)=true:=by simp[qC,Value.isStrOf]
def IZ(a b:Int):decide ((Sum.inl a:Key)=Sum.inl b)=(a==b):=by
 by_cases e:a=b
 ·subst e;simp
 ·have h:¬(Sum.inl a:Key)=Sum.inl b:=fun q=>e (Sum.inl.inj q)
  rw[Qdq h]
  exact(beq_eq_false_iff_ne.mpr e).symm
def KA(a b:Str):decide ((Sum.inr a:Key)=Sum.inr b)=decide (a=b):=by
 by_cases e:a=b
 ·subst e;simp
 ·have h:¬(Sum.inr a:Key)=Sum.inr b:=fun q=>e (Sum.inr.inj q)
  rw[Qdq h,Qdq e]
def J3(a:Int)(b:Str):decide ((Sum.inl a:Key)=Sum.inr b)=false:=Qdq (fun q=>nomatch q)
def I_(a:Str)(b:Int):decide ((Sum.inr a:Key)=Sum.inl b)=false:=Qdq (fun q=>nomatch q)
noncomputable def cq(prog:Program)(w:World):PySem.KeyKind prog w Key where
 is:=qC
 hash:=MN w
 inj:=fun v a b ha hb=>by
  rcases dG ha with⟨i,t,rfl,rfl⟩|⟨x,t,rfl,rfl⟩
  ·rcases dG hb with⟨j,u,rfl,e⟩|⟨y,u,rfl,e⟩
   ·injection e with e1 _;rw[e1]
   ·exact nomatch e
  ·rcases dG hb with⟨j,u,rfl,e⟩|⟨y,u,rfl,e⟩
   ·exact nomatch e
   ·injection e with e1 _;rw[e1]
 byValue:=fun k v h=>by
  rcases dG h with⟨i,t,rfl,rfl⟩|⟨x,t,rfl,rfl⟩ <;>rfl
 pyHash:=fun hv h=>by
  rcases dG hv with⟨i,t,rfl,rfl⟩|⟨x,t,rfl,rfl⟩
  ·exact wpAny_pyHash_int h
  ·exact wpAny_pyHash_str h
 eqBool:=fun hu hv h=>by
  rcases dG hu with⟨i,t,rfl,rfl⟩|⟨x,t,rfl,rfl⟩
  ·rcases dG hv with⟨j,u,rfl,rfl⟩|⟨y,u,rfl,rfl⟩
   ·rw[IZ] at h;exact wpAny_eqBool_int h
   ·rw[J3] at h;exact SeqAt.EqAt.int_str i t y u _ _ _ _ h
  ·rcases dG hv with⟨j,u,rfl,rfl⟩|⟨y,u,rfl,rfl⟩
   ·rw[I_] at h;exact SeqAt.EqAt.str_int x t j u _ _ _ _ h
   ·rw[KA] at h;exact wpAny_eqBool_str h
 «strs»:=fun k x t v h=>by
  rcases dG h with⟨i,u,rfl,e⟩|⟨y,u,rfl,e⟩
  ·exact nomatch e
  ·injection e with e1 _
   subst e1
   cases v <;>rfl
def Ac(prog:Program)(w:World)(i:Int)(t:Tok):(cq prog w).is (.inl i) (.int i t)=true:=DQ i t
def AD(prog:Program)(w:World)(x:Str)(t:Tok):(cq prog w).is (.inr x) (.str x t)=true:=qp x t
inductive V where
 |non|bl (b:Bool)|int (i:Int)|str (x:Str)|byt (b:Array UInt8)|flt (b:UInt64)|ref (a:Addr)|ty (n:String)
 deriving DecidableEq
def RelV:V->Value->Prop
 |.non,u=>u=Value.none
 |.bl b,u=>u=Value.bool b
 |.int i,u=>∃t,u=Value.int i t
 |.str x,u=>∃t,u=Value.str x t
 |.byt b,u=>∃t,u=Value.bytes b t
 |.flt b,u=>∃t,u=Value.float b t
 |.ref a,u=>u=Value.ref a
 |.ty n,u=>u=Value.type n
abbrev bM:List V->List Value->Prop:=Paired RelV
def bM.length{xs:List V}{us:List Value}(r:bM xs us):xs.length=us.length:=Paired.length r
theorem bM.get:∀{xs:List V} {us:List Value} {i:Nat} {x:V},bM xs us->xs[i]?=some x->∃u,us[i]?=some u/\RelV x u
 |_,_,_,_,.nil,e=>by simp at e
 |_,_,0,_,.cons r _,e=>by simp at e;subst e;exact⟨_,rfl,r⟩
 | _,_,i+1,x,.cons _ t,e=>by
   obtain⟨u,h1,h2⟩:=bM.get (i:=i) (x:=x) t (by simpa using e)
   exact⟨u,by simpa using h1,h2⟩
theorem bM.set{x:V}{u:Value}(r:RelV x u):∀{xs:List V} {us:List Value} (i:Nat),bM xs us->bM (xs.set i x) (us.set i u)
 |_,_,_,.nil=>.nil
 |_,_,0,.cons _ t=>.cons r t
 |_,_,i+1,.cons q t=>.cons q (bM.set r i t)
theorem bM.append:∀{xs ys:List V} {us ws:List Value},bM xs us->bM ys ws->bM (xs++ys) (us++ws)
 |_,_,_,_,.nil,s=>s
 |_,_,_,_,.cons r t,s=>.cons r (bM.append t s)
theorem bM.take:∀{xs:List V} {us:List Value} (n:Nat),bM xs us->bM (xs.take n) (us.take n)
 |_,_,0,_=>.nil
 |_,_,_+1,.nil=>.nil
 |_,_,n+1,.cons r t=>.cons r (bM.take n t)
theorem bM.drop:∀{xs:List V} {us:List Value} (n:Nat),bM xs us->bM (xs.drop n) (us.drop n)
 |_,_,0,r=>r
 |_,_,_+1,.nil=>.nil
 |_,_,n+1,.cons _ t=>bM.drop n t
def tX:Option V->Option Value->Prop
 |some v,some u=>RelV v u
 |none,none=>True
 |_,_=>False
def KV{κ:Type}:List (κ×V)->List (κ×Value)->Prop:=Paired fun(p:κ×V) (q:κ×Value)=>p.1=q.1/\RelV p.2 q.2
def kV:Key->V
 |.inl i=>.int i
 |.inr x=>.str x
inductive HO where
 |lst (xs:List V)
 |tup (xs:List V)
 |dK (kvs:List (Key×V))|dT (kvs:List (List Key×V))
 |set (S:Int->Bool) (n:Nat)
 |ins (C dx:Addr) (fs:List (Str×V))
 |own (x:Addr)
 |xd (fs:List (Str×V))
 |met (f x:Addr)
 |rng (lo hi:Int)
 |frz (o:Obj) (u:HO)
 |tbl (ps:Array Value)
 |ext (φ:Heap->Prop)
abbrev Hp:=Addr->Option HO
def upd(H:Hp)(a:Addr)(o:HO):Hp:=fun b=>if b=a then some o else H b
def cj{H:Hp}{a:Addr}{o:HO}:upd H a o a=some o:=by unfold upd;rw[Qhq rfl]
def bA{H:Hp}{a b:Addr}{o:HO}(h:b≠a):upd H a o b=H b:=by unfold upd;rw[Quq h]
def GD{H:Hp}{a b:Addr}{o u:HO}(h:H a=some o)(h':H b=some u)(d:o≠u):a≠b:=by
 intro e;subst e;rw[h] at h';exact d (Option.some.inj h')
def gd{H:Hp}{a b:Addr}{o:HO}(h:H a=some o)(h':H b=none):a≠b:=by
 intro e;subst e;rw[h] at h';cases h'
def zA(h:Heap)(a:Addr)(items:Array Value):Prop:=∃o,h.get? a=some o/\o.cls=.type "tuple" /\o.dict=none/\∃n,o.data=.seq items n
def zA.it{h:Heap}{a:Addr}{items:Array Value}(x:zA h a items):IsTup h a items:=by
 obtain⟨o,e,c,_,d⟩:=x
 exact⟨o,e,c,d⟩
def zA.new(h:Heap)(items:Array Value):zA (h.push {cls:=.type "tuple",data:=.seq items}) h.objs.size items:=⟨_,Qrq _ rfl,rfl,rfl,_,rfl⟩
section
variable(P:Program)(w:World)
def dA(H:Hp)(h:Heap)(a:Addr):HO->Prop
 |.lst xs=>xs.length<=sizeLine/\∃(its:List Value) (n:Nat),bM xs its/\h.get? a=some {cls:=.type "list",data:=.seq its.toArray n}
 |.tup xs=>xs.length<=sizeLine/\∃its:List Value,bM xs its/\zA h a its.toArray
 |.dK kvs=>kvs.length<=sizeLine/\(a==sysModules)=false/\∃vs,KV kvs vs/\h.DictOf (cq P w) a vs
 |.dT kvs=>kvs.length<=sizeLine/\(a==sysModules)=false/\∃xs:List (List Key×Addr×Value),
   Paired (fun(p:List Key×V) (q:List Key×Addr×Value)=>p.1=q.1/\H q.2.1=some (.tup (p.1.map kV))/\RelV p.2 q.2.2) kvs xs∧
   ∃o es ep,h.get? a=some o/\o.ExactDict/\o.data=.dict es ep/\es.toList=xs.map (entryOfKey (tupleKind (cq P w)))/\(xs.map (·.1)).Nodup
 |.set S n=>h.SetOf (intKind P w) a S n
 |.ins C dx fs=>H dx=some (.own a)/\fs.length<=1000/\dx≠a/\h.get? a=some (PySem.W.instObj C dx)∧
   ∃mA,h.Ns1 dx mA/\(∀f,tX (fs.lookup f) (mA f))/\PySem.Within mA (fs.map (·.1))
 |.own _=>∃o,h.get? a=some o
 |.xd fs=>∃mA,h.Ns1 a mA/\∀f,tX (fs.lookup f) (mA f)
 |.rng lo hi=>∃t u v,h.get? a=some {cls:=.type "range",data:=.fields #[.int lo t,.int hi u,.int 1 v]}
 |.frz o u=>h.get? a=some o/\dA H h a u
 |.tbl ps=>h.get? a=some {cls:=.none,data:=.fields ps}
 |.met f x=>h.get? a=some (PySem.W.methodObj (.ref f) (.ref x))
 |.ext φ=>φ h/\(∃o,h.get? a=some o)/\∀h1 h2:Heap,φ h1->(∀o,h1.get? a=some o->h2.get? a=some o)->φ h2
def oh(H:Hp)(h:Heap):Prop:=∀a o,H a=some o->dA P w H h a o
end
section
variable{P:Program}{w:World}{H H':Hp}{h h':Heap}{a:Addr}{o:HO}
theorem dA.lt(x:dA P w H h a o):a<h.objs.size:=by
 cases o with
 |lst xs=>obtain⟨_,_,_,_,e⟩:=x;exact Qiq e
 |tup xs=>obtain⟨_,_,_,p⟩:=x;exact p.it.lt
 |dK kvs=>obtain⟨_,_,_,_,o,_,_,e,_⟩:=x;exact Qiq e
 |dT kvs=>obtain⟨_,_,_,_,o,_,_,e,_⟩:=x;exact Qiq e
 |set S n=>obtain⟨o,_,_,_,e,_⟩:=x;exact Qiq e
 |ins C dx fs=>obtain⟨_,_,_,e,_⟩:=x;exact Qiq e
 |own y=>obtain⟨_,e⟩:=x;exact Qiq e
 |xd fs=>obtain⟨_,⟨_,_,_,e,_⟩,_⟩:=x;exact Qiq e
 |rng lo hi=>obtain⟨_,_,_,e⟩:=x;exact Qiq e
 |frz ob u=>obtain⟨e,_⟩:=x;exact Qiq e
 |tbl ps=>exact Qiq (show h.get? a=some _ from x)
 |met f y=>exact Qiq (show h.get? a=some _ from x)
 |ext φ=>obtain⟨_,⟨_,e⟩,_⟩:=x;exact Qiq e
theorem Paired.mapP{α β:Type}{F G:α->β->Prop}:∀{l₁:List α} {l₂:List β},Paired F l₁ l₂->(∀a b,F a b->G a b)->Paired G l₁ l₂
 |_,_,.nil,_=>.nil
 |_,_,.cons r t,f=>.cons (f _ _ r) (Paired.mapP t f)
def dA.stay(x:dA P w H h a o)(k:∀b u,(b=a\/H b=some (.own a))->h.get? b=some u->h'.get? b=some u)
  (ho:∀b,H b=some (.own a)->H' b=some (.own a)) (ht:∀b xs,H b=some (.tup xs)->H' b=some (.tup xs)):dA P w H' h' a o:=by
 induction o with
 |lst xs=>obtain⟨z,its,n,r,e⟩:=x;exact⟨z,its,n,r,k _ _ (.inl rfl) e⟩
 |tup xs=>obtain⟨z,its,r,ob,e,c⟩:=x;exact⟨z,its,r,ob,k _ _ (.inl rfl) e,c⟩
 |dK kvs=>obtain⟨z,y,vs,r,ob,es,ep,e,c⟩:=x;exact⟨z,y,vs,r,ob,es,ep,k _ _ (.inl rfl) e,c⟩
 | dT kvs=>
   obtain⟨z,y,xs,r,ob,es,ep,e,c⟩:=x
   exact⟨z,y,xs,Paired.mapP r fun p q z=>⟨z.1,ht _ _ z.2.1,z.2.2⟩,ob,es,ep,k _ _ (.inl rfl) e,c⟩
 |set S n=>obtain⟨ob,es,ep,t,e,c⟩:=x;exact⟨ob,es,ep,t,k _ _ (.inl rfl) e,c⟩
 | ins C dx fs=>
   obtain⟨d,z,ne,e,mA,⟨od,es,ep,e2,c⟩,r⟩:=x
   exact⟨ho _ d,z,ne,k _ _ (.inl rfl) e,mA,⟨od,es,ep,k _ _ (.inr d) e2,c⟩,r⟩
 |own y=>obtain⟨ob,e⟩:=x;exact⟨ob,k _ _ (.inl rfl) e⟩
 |xd fs=>obtain⟨mA,⟨od,es,ep,e,c⟩,r⟩:=x;exact⟨mA,⟨od,es,ep,k _ _ (.inl rfl) e,c⟩,r⟩
 |rng lo hi=>obtain⟨t,u,v,e⟩:=x;exact⟨t,u,v,k _ _ (.inl rfl) e⟩
 |frz ob u ih=>obtain⟨e,q⟩:=x;exact⟨k _ _ (.inl rfl) e,ih q⟩
 | tbl ps=>
   have e:h.get? a=some {cls:=.none,data:=.fields ps}:=x
   show h'.get? a=some {cls:=.none,data:=.fields ps}
   exact k a _ (.inl rfl) e
 | met f y=>
   have e:h.get? a=some (PySem.W.methodObj (.ref f) (.ref y)):=x
   show h'.get? a=some (PySem.W.methodObj (.ref f) (.ref y))
   exact k a _ (.inl rfl) e
 |ext φ=>obtain⟨p,⟨o,e⟩,st⟩:=x;exact⟨st _ _ p fun o q=>k _ _ (.inl rfl) q,⟨o,k _ _ (.inl rfl) e⟩,st⟩
def oh.lt(x:oh P w H h)(e:H a=some o):a<h.objs.size:=(x a o e).lt
def oh.fresh(x:oh P w H h)(e:h.objs.size<=a):H a=none:=by
 cases q:H a with
 |none=>rfl
 |some u=>exact absurd (Qqq (x.lt q) e) (Nat.lt_irrefl _)
def oh.kept(x:oh P w H h)(k:∀b u,h.get? b=some u->h'.get? b=some u):oh P w H h':=fun a o e=>
 (x a o e).stay (fun b u _ q=>k b u q) (fun _ q=>q) fun _ _ q=>q
def oh.laid(x:oh P w H h)(k:∀b u,h.get? b=some u->h'.get? b=some u)(hp:h.objs.size<=a)(new:dA P w (upd H a o) h' a o):oh P w (upd H a o) h':=fun b u e=>by
 have hn:=x.fresh hp
 by_cases hb:b=a
 ·subst hb;rw[cj] at e;cases e;exact new
 ·rw[bA hb] at e
  exact(x b u e).stay (fun c v _ q=>k c v q) (fun c q=>by rw[bA (gd q hn)];exact q) fun c xs q=>by rw[bA (gd q hn)];exact q
end
def Rd(H:Hp)(a:Addr)(u:HO):Prop:=H a=some u\/∃o,H a=some (.frz o u)
def Rd.ok{P:Program}{w:World}{H:Hp}{h:Heap}{a:Addr}{u:HO}(r:Rd H a u)(x:oh P w H h):dA P w H h a u:=by
 rcases r with r|⟨o,r⟩
 ·exact x a u r
 ·obtain⟨_,q⟩:=x a _ r
  exact q
def K2:Option HO->Prop
 |some (.lst _)=>True
 |some (.dK _)=>True
 |some (.dT _)=>True
 |some (.set _ _)=>True
 |some (.ins _ _ _)=>True
 |some (.ext _)=>True
 |_=>False
section
variable{P:Program}{w:World}{H:Hp}{h h':Heap}{x e:Addr}{o':HO}
def oh.write(ok:oh P w H h)(mu:K2 (H x))(he:e=x\/H e=some (.own x))(k:∀b u,b≠e->h.get? b=some u->h'.get? b=some u)(heo:∃u,h'.get? e=some u)
  (new:dA P w (upd H x o') h' x o'):oh P w (upd H x o') h':=fun b u q=>by
 have nown:∀c y,H c=some (.own y)->c≠x:=fun c y r z=>by subst z;rw[r] at mu;exact mu
 have ntup:∀c xs,H c=some (.tup xs)->c≠x:=fun c xs r z=>by subst z;rw[r] at mu;exact mu
 by_cases hb:b=x
 ·subst hb;rw[cj] at q;cases q;exact new
 ·rw[bA hb] at q
  by_cases hbe:b=e
  ·have q':H b=some (.own x):=by
    rcases he with z|z
    ·exact absurd (hbe.trans z) hb
    ·rw[hbe];exact z
   rw[q] at q';cases q'
   obtain⟨v,hv⟩:=heo
   exact⟨v,by rw[hbe];exact hv⟩
  ·refine(ok b u q).stay (fun c v hc r=>k c v ?_ r) (fun c r=>by rw[bA (nown c b r)];exact r) fun c xs r=>by rw[bA (ntup c xs r)];exact r
   rcases hc with rfl|hc
   ·exact hbe
   ·rintro rfl
    rcases he with z|z
    ·exact nown c b hc z
    ·rw[hc] at z;cases z;exact hb rfl
end
structure Un(fs ex:List Addr)(H H':Hp)(h h':Heap):Prop where
 keep:∀b o,h.get? b=some o->H b=none->b∉fs->b∉ex->h'.get? b=some o
 slot:∀b o,h.get? b=some o->H b=none->b∈fs->b∉ex->∃sl,h'.get? b=some {o with slots:=sl}
 free:∀b o,h.get? b=some o->H b=none->b∉ex->H' b=none
 there:∀b o,h.get? b=some o->b∉ex->∃o',h'.get? b=some o'
 tups:∀b xs,H b=some (.tup xs)->H' b=some (.tup xs)
 frzs:∀b o u,H b=some (.frz o u)->H' b=some (.frz o u)
 tbls:∀b ps,H b=some (.tbl ps)->∃more,H' b=some (.tbl (ps++more))
section
variable{fs fs' ex ex':List Addr}{H H1 H2:Hp}{h h1 h2 h':Heap}{a x e:Addr}{o:HO}
def Un.any(u:Un fs ex H H1 h h1){b:Addr}{ob:Obj}(q:h.get? b=some ob)(n:H b=none)(hx:b∉ex):∃sl,h1.get? b=some {ob with slots:=sl}:=by
 by_cases hb:b∈fs
 ·exact u.slot b ob q n hb hx
 ·exact⟨ob.slots,u.keep b ob q n hb hx⟩
def Un.kept(k:∀b u,h.get? b=some u->h'.get? b=some u):Un fs ex H H h h':=
 ⟨fun b ob q _ _ _=>k b ob q,fun b ob q _ _ _=>⟨ob.slots,k b ob q⟩,fun _ _ _ n _=>n,fun b ob q _=>⟨ob,k b ob q⟩,fun _ _ q=>q,fun _ _ _ q=>q,fun _ ps q=>⟨#[],by rw[q];simp⟩⟩
def Un.refl:Un fs ex H H h h:=Un.kept fun _ _ q=>q
def Un.laid(k:∀b u,h.get? b=some u->h'.get? b=some u)(hp:h.objs.size<=a)(hn:H a=none):Un fs ex H (upd H a o) h h' where
 keep:=fun b u q _ _ _=>k b u q
 slot:=fun b u q _ _ _=>⟨u.slots,k b u q⟩
 free:=fun b u q n _=>by rw[bA (Qwq (Qqq (Qiq q) hp))];exact n
 there:=fun b u q _=>⟨u,k b u q⟩
 tups:=fun b xs q=>by rw[bA (gd q hn)];exact q
 frzs:=fun b u xs q=>by rw[bA (gd q hn)];exact q
 tbls:=fun b ps q=>⟨#[],by rw[bA (gd q hn),q];simp⟩
def Un.write(mu:K2 (H x))(he:e=x\/H e=some (.own x))(k:∀b u,b≠e->h.get? b=some u->h'.get? b=some u)(heo:∃u,h'.get? e=some u):Un fs ex H (upd H x o) h h':=by
 have hx:∀b,H b=none->b≠x:=fun b n z=>by subst z;rw[n] at mu;exact mu
 have hb:∀b,H b=none->b≠e:=fun b n z=>by
  subst z
  rcases he with r|r
  ·exact hx b n r
  ·rw[n] at r;cases r
 have hm:∀b u,H b=some u->¬K2 (some u)->b≠x:=fun b u q nm z=>by subst z;rw[q] at mu;exact nm mu
 refine⟨fun b u q n _ _=>k b u (hb b n) q,fun b u q n _ _=>⟨u.slots,k b u (hb b n) q⟩,fun b u q n _=>by rw[bA (hx b n)];exact n,fun b u q _=> ?_,
  fun b xs q=>by rw[bA (hm b _ q fun z=>z)];exact q,fun b u xs q=>by rw[bA (hm b _ q fun z=>z)];exact q,fun b ps q=>⟨#[],by rw[bA (hm b _ q fun z=>z),q];simp⟩⟩
 by_cases hbe:b=e
 ·subst hbe;exact heo
 ·exact⟨u,k b u hbe q⟩
end
def Mz(h:Heap)(H:Hp):List Addr:=(List.range h.objs.size).filter fun a=>(H a).isSome
def wZ(h:Heap)(H:Hp):Heap:=PySem.W.hideAll h (Mz h H)
def DB(h:Heap)(H:Hp):(wZ h H).objs.size=h.objs.size:=PySem.W.hideAll_size _ _
def FH{h:Heap}{H:Hp}{b:Addr}{o:Obj}(e:h.get? b=some o)(n:H b=none):(wZ h H).get? b=some o:=
 PySem.W.hideAll_get _ e fun hm=>by
  have q:(H b).isSome=true:=(List.mem_filter.mp hm).2
  rw[n] at q;simp at q
def Ic{h:Heap}{H:Hp}{b:Addr}{o:Obj}(e:(wZ h H).get? b=some o):h.get? b=some o/\H b=none:=by
 have e':h.get? b=some o:=PySem.W.of_hideAll (Mz h H) e
 refine⟨e',?_⟩
 cases q:H b with
 |none=>rfl
 | some x=>
   have hm:b∈Mz h H:=List.mem_filter.mpr ⟨List.mem_range.mpr (Qiq e'),by simp[q]⟩
   have z:(wZ h H).get? b=none:=PySem.W.hideAll_none (Mz h H) hm
   rw[z] at e;cases e
structure Mod(K:PySem.W.Frag)(mg:Str->Option Value)(base:Heap):Prop where
 kin:K.In base
 glob:base.Ns mainGlobals mg
 blt:∃mb,base.Ns builtinsNs mb/\∀x:Str,x≠"__name__" ->mb x=bootBuiltins x
 nolimit:base.NoLimit
structure Cx where
 prog:Program
 w:World
 K:PySem.W.Frag
 mg:Str->Option Value
 base:Heap
 A:Around
 N:List Str
 s₀:Shared
 H₀:Hp
 env:Env
 outer:List Env
 stack:List Env
 ex:List Addr
 fn:Str->Bool
 calm:Bool
 pn:List (Addr×Obj)
 xe:Value->Shared->Prop
def FA(l:List Env):List Addr:=l.filterMap (·.frame)
abbrev Cx.fs(X:Cx):List Addr:=FA X.outer
def IA(sc:Scope)(x:Str):Prop:=sc.names.lookup x=some .local\/sc.names.lookup x=some .cell\/sc.names.lookup x=some .free
def Loc(sc:Scope)(x:Str):Prop:=sc.names.lookup x=some .local\/sc.names.lookup x=some .cell
def Look(env:Env)(h:Heap)(m:Str->Option Value)(x:Str)(u:Value):Prop:=
 (env.kindOf x=some .local/\m x=some u)\/((env.kindOf x=some .cell\/env.kindOf x=some .free)/\∃c,env.cells.lookup x=some c/\h.IsCell c (some u))
structure Cx.Ok(X:Cx):Prop where
 mod:Mod X.K X.mg X.base
 kind:X.env.scope.kind=.function
 glob:X.env.globals=mainGlobals
 blt:X.env.builtins=builtinsNs
 above:X.s₀.heap.objs.size<=X.env.locals
 inj:∀x y c,X.env.cells.lookup x=some c->X.env.cells.lookup y=some c->x=y
 has:∀x,(X.env.kindOf x=some .cell\/X.env.kindOf x=some .free)->∃c,X.env.cells.lookup x=some c
 cab:∀x c,X.fn x=true->X.env.cells.lookup x=some c->X.s₀.heap.objs.size<=c
 hd:X.calm=true->X.A.handled=none
 frames:X.A.frames=some X.stack
 stk:X.stack=X.outer\/(X.stack=X.env::X.outer/\X.env.frame=some X.env.locals)
 exf:∀b∈X.ex,b≠X.env.locals/\∀x c,X.env.cells.lookup x=some c->c≠b
 bs:∀b o,X.base.get? b=some o->X.s₀.heap.get? b=some o/\X.H₀ b=none
 bsz:X.base.objs.size<=X.s₀.heap.objs.size
 noex:∀b o,X.base.get? b=some o->b∉X.ex
 exfs:∀b∈X.ex,b∉X.fs
 funs:X.s₀.heap.FunFrames X.base X.outer
 frf:∀b∈X.fs,X.H₀ b=none
structure Inv(X:Cx)(pins:List (Addr×Obj))(σ:List (Option V))(H:Hp)(s:Shared):Prop where
 ok:X.Ok
 os:s.os=X.s₀.os
 bare:AllBare s.gens
 base:Un X.fs X.ex X.H₀ H X.s₀.heap s.heap
 loc:∃m,s.heap.Ns X.env.locals m/\∀(i:Nat) (x:Str) (v:V),X.N[i]?=some x->σ[i]?=some (some v)->IA X.env.scope x->∃u,RelV v u/\Look X.env s.heap m x u
 cell:∀x c,X.env.cells.lookup x=some c->∃v,s.heap.IsCell c v
 free:H X.env.locals=none
 freeC:∀x c,X.env.cells.lookup x=some c->H c=none
 pin:∀p∈X.pn++pins,s.heap.get? p.1=some p.2/\H p.1=none/\p.1≠X.env.locals/\p.1∉X.fs/\∀v,p.2.data≠.cell v
 hok:oh X.prog X.w H s.heap
 len:σ.length=X.N.length
section
variable{X:Cx}{pins:List (Addr×Obj)}{σ:List (Option V)}{H H':Hp}{s:Shared}{h':Heap}
def Cx.Ok.nofr(ok:X.Ok){b:Addr}{o:Obj}(e:X.base.get? b=some o):b∉X.fs:=fun hb=>by
 have:=(ok.funs.mem hb).1
 rw[e] at this;cases this
def Inv.bs(I:Inv X pins σ H s):∀b o,X.base.get? b=some o->s.heap.get? b=some o/\H b=none:=fun b o e=>
 ⟨I.base.keep b o (I.ok.bs b o e).1 (I.ok.bs b o e).2 (I.ok.nofr e) (I.ok.noex b o e),I.base.free b o (I.ok.bs b o e).1 (I.ok.bs b o e).2 (I.ok.noex b o e)⟩
def Inv.bk(I:Inv X pins σ H s):∀b o,X.base.get? b=some o->s.heap.get? b=some o:=fun b o e=>(I.bs b o e).1
def Inv.mod(I:Inv X pins σ H s):Mod X.K X.mg X.base:=I.ok.mod
def Inv.kIn(I:Inv X pins σ H s):X.K.In s.heap:=I.ok.mod.kin.keeps I.bk
def Inv.lt(I:Inv X pins σ H s):X.env.locals<s.heap.objs.size:=let ⟨_,hn,_⟩:=I.loc;hn.lt
def Inv.sz(I:Inv X pins σ H s):X.s₀.heap.objs.size<=s.heap.objs.size:=QAq I.ok.above (nQl I.lt)
def Inv.nofs(I:Inv X pins σ H s){a:Addr}(h:s.heap.objs.size<=a):a∉X.fs:=fun hb=>by
 obtain⟨_,o,ho,_⟩:=I.ok.funs.mem hb
 exact absurd (Qqq (Qiq ho) (QAq I.sz h)) (Nat.lt_irrefl _)
def Inv.cne(I:Inv X pins σ H s):∀x c,X.env.cells.lookup x=some c->c≠X.env.locals:=fun x c e z=>by
 obtain⟨v,o,ho,hd⟩:=I.cell x c e
 obtain⟨m,⟨o',es,ep,ho',hd',_⟩,_⟩:=I.loc
 rw[z,ho'] at ho;cases ho;rw[hd'] at hd;cases hd
theorem Inv.funs(I:Inv X pins σ H s):s.heap.FunFrames X.base X.outer:=by
 have all:∀(l:List Env),(∀b∈FA l,b∈X.fs)->X.s₀.heap.FunFrames X.base l->s.heap.FunFrames X.base l:=by
  intro l
  induction l with
  |nil=>intro _ _;trivial
  | cons env r ih=>
    intro hs hl
    obtain⟨hk,⟨L,o,hf,hn,ho,hd⟩,hr⟩:=hl
    have hL:L∈X.fs:=hs L (by unfold FA;rw[List.filterMap_cons,hf];exact QBq)
    obtain⟨sl,e⟩:=I.base.slot L o ho (I.ok.frf L hL) hL fun z=>I.ok.exfs L z hL
    exact⟨hk,⟨L,_,hf,hn,e,hd⟩,ih (fun b hb=>hs b (by unfold FA;rw[List.filterMap_cons,hf];exact Qpq _ hb)) hr⟩
 exact all X.outer (fun _ hb=>hb) I.ok.funs
def Inv.stack(I:Inv X pins σ H s):s.heap.FunFrames X.base X.stack:=by
 rcases I.ok.stk with e|⟨e,hf⟩
 ·rw[e];exact I.funs
 ·rw[e]
  obtain⟨m,hn,_⟩:=I.loc
  refine .cons (by rw[I.ok.kind];decide) hf hn ?_ I.funs
  exact Heap.get?_none_of_le (QAq I.ok.bsz I.ok.above)
def Inv.stkSub(I:Inv X pins σ H s):∀b∈FA X.stack,b∈X.env.locals::X.fs:=fun b hb=>by
 rcases I.ok.stk with e|⟨e,hf⟩
 ·rw[e] at hb;exact Qpq _ hb
 ·rw[e] at hb
  unfold FA at hb
  rw[List.filterMap_cons,hf] at hb
  exact hb
def Inv.stkFree(I:Inv X pins σ H s):∀b∈FA X.stack,H b=none:=fun b hb=>by
 rcases Qsq.mp (I.stkSub b hb) with e|hb
 ·rw[e];exact I.free
 ·obtain⟨_,o,ho,_⟩:=I.ok.funs.mem hb
  exact I.base.free b o ho (I.ok.frf b hb) fun z=>I.ok.exfs b z hb
def Inv.step{g':Array GenState}{t':Nat}{d':Drawn}{ch:List Addr}(I:Inv X pins σ H s)
  (hch:∀b∈ch,(b∈X.ex\/X.s₀.heap.objs.size<=b)/\b≠X.env.locals/\(∀x c,X.env.cells.lookup x=some c->c≠b)/\∀p∈X.pn++pins,p.1≠b)
  (keep:∀b o,b≠X.env.locals->b∉X.fs->b∉ch->s.heap.get? b=some o->H b=none->h'.get? b=some o)
  (slot:∀b o,b≠X.env.locals->b∈X.fs->b∉ch->s.heap.get? b=some o->H b=none->∃sl,h'.get? b=some {o with slots:=sl}) (free:∀b o,b∉ch->s.heap.get? b=some o->H b=none->H' b=none)
  (there:∀b o,b∉ch->s.heap.get? b=some o->∃o',h'.get? b=some o')
  (tups:∀b xs,H b=some (.tup xs)->H' b=some (.tup xs)) (frzs:∀b o u,H b=some (.frz o u)->H' b=some (.frz o u)) (tbls:∀b ps,H b=some (.tbl ps)->∃more,H' b=some (.tbl (ps++more)))
  (ns:∀m,s.heap.Ns X.env.locals m->h'.Ns X.env.locals m) (hok:oh X.prog X.w H' h') (hg:AllBare g'):
  Inv X pins σ H' {s with heap:=h',gens:=g',drawn:=d',toks:=t'}:=by
 have neL:∀b o,X.s₀.heap.get? b=some o->b≠X.env.locals:=fun b o e=>Qwq (Qqq (Qiq e) I.ok.above)
 have neC:∀b o,X.s₀.heap.get? b=some o->b∉X.ex->b∉ch:=fun b o e hx hb=>by
  rcases(hch b hb).1 with z|z
  ·exact hx z
  ·exact absurd (Qqq (Qiq e) z) (Nat.lt_irrefl _)
 have cellK:∀x c,X.env.cells.lookup x=some c->∀v,s.heap.IsCell c v->h'.IsCell c v:=fun x c e v qq=>by
  obtain⟨o,ho,hd⟩:=qq
  have nch:c∉ch:=fun z=>(hch c z).2.2.1 x c e rfl
  by_cases hc:c∈X.fs
  ·obtain⟨sl,q⟩:=slot c o (I.cne x c e) hc nch ho (I.freeC x c e)
   exact⟨_,q,hd⟩
  ·exact⟨o,keep c o (I.cne x c e) hc nch ho (I.freeC x c e),hd⟩
 refine⟨I.ok,I.os,hg,⟨fun b o e n hb hx=> ?_,fun b o e n hb hx=> ?_,fun b o e n hx=> ?_,fun b o e hx=> ?_,fun b xs e=>tups b xs (I.base.tups b xs e),fun b o xs e=>frzs b o xs (I.base.frzs b o xs e),fun b ps e=> ?_⟩,?_,fun x c e=> ?_,?_,fun x c e=> ?_,fun p hp=> ?_,hok,I.len⟩
 ·exact keep b o (neL b o e) hb (neC b o e hx) (I.base.keep b o e n hb hx) (I.base.free b o e n hx)
 ·obtain⟨sl,e1⟩:=I.base.slot b o e n hb hx
  obtain⟨sl',e2⟩:=slot b _ (neL b o e) hb (neC b o e hx) e1 (I.base.free b o e n hx)
  exact⟨sl',e2⟩
 ·obtain⟨o',e1⟩:=I.base.there b o e hx
  exact free b o' (neC b o e hx) e1 (I.base.free b o e n hx)
 ·obtain⟨o',e1⟩:=I.base.there b o e hx
  exact there b o' (neC b o e hx) e1
 ·obtain⟨m1,e1⟩:=I.base.tbls b ps e
  obtain⟨m2,e2⟩:=tbls b _ e1
  exact⟨m1++m2,by rw[e2,Array.append_assoc]⟩
 ·obtain⟨m,hn,hl⟩:=I.loc
  refine⟨m,ns m hn,fun i x v e1 e2 e3=> ?_⟩
  obtain⟨u,r,l⟩:=hl i x v e1 e2 e3
  refine⟨u,r,?_⟩
  rcases l with l|⟨k,c,e,z⟩
  ·exact .inl l
  ·exact .inr ⟨k,c,e,cellK x c e _ z⟩
 ·obtain⟨v,z⟩:=I.cell x c e
  exact⟨v,cellK x c e v z⟩
 ·obtain⟨m,⟨o,_,_,ho,_⟩,_⟩:=I.loc
  exact free _ o (fun z=>(hch _ z).2.1 rfl) ho I.free
 ·obtain⟨v,o,ho,hd⟩:=I.cell x c e
  exact free c o (fun z=>(hch c z).2.2.1 x c e rfl) ho (I.freeC x c e)
 ·obtain⟨e,n,ne,nf,d⟩:=I.pin p hp
  have nch:p.1∉ch:=fun z=>(hch p.1 z).2.2.2 p hp rfl
  exact⟨keep p.1 p.2 ne nf nch e n,free p.1 p.2 nch e n,ne,nf,d⟩
def Inv.un{t':Nat}(I:Inv X pins σ H s)(u:Un X.fs [] H H' s.heap h')(hok:oh X.prog X.w H' h'):Inv X pins σ H' {s with heap:=h',toks:=t'}:=by
 obtain⟨m,⟨o,es,ep,ho,r⟩,_⟩:=id I.loc
 obtain⟨sl,hL⟩:=u.any ho I.free (by simp)
 exact I.step (g':=s.gens) (d':=s.drawn) (ch:= []) (fun _ z=>nomatch z) (fun b o _ hb _ e n=>u.keep b o e n hb (by simp)) (fun b o _ hb _ e n=>u.slot b o e n hb (by simp)) (fun b o _ e n=>u.free b o e n (by simp)) (fun b o _ e=>u.there b o e (by simp)) u.tups u.frzs u.tbls (fun m' hm=>by
  obtain⟨o',es',ep',ho',r'⟩:=hm
  rw[ho] at ho';cases ho'
  exact⟨_,es',ep',hL,r'⟩) hok I.bare
def Inv.call{g':Array GenState}{t':Nat}{d':Drawn}{ch:List Addr}(I:Inv X pins σ H s)(u:Un (FA X.stack) ch H H' s.heap h')(hok:oh X.prog X.w H' h')(hg:AllBare g')
  (hch:∀b∈ch,(b∈X.ex\/X.s₀.heap.objs.size<=b)/\b≠X.env.locals/\(∀x c,X.env.cells.lookup x=some c->c≠b)/\∀p∈X.pn++pins,p.1≠b):
  Inv X pins σ H' {s with heap:=h',gens:=g',drawn:=d',toks:=t'}:=by
 obtain⟨m,⟨o,es,ep,ho,r⟩,_⟩:=id I.loc
 obtain⟨sl,hL⟩:=u.any ho I.free fun z=>(hch _ z).2.1 rfl
 exact I.step (ch:=ch) hch (fun b o hL hb hc e n=>u.keep b o e n (fun z=>(Qsq.mp (I.stkSub b z)).elim hL hb) hc) (fun b o _ _ hc e n=>u.any e n hc) (fun b o hc e n=>u.free b o e n hc) (fun b o hc e=>u.there b o e hc) u.tups u.frzs u.tbls (fun m' hm=>by
  obtain⟨o',es',ep',ho',r'⟩:=hm
  rw[ho] at ho';cases ho'
  exact⟨_,es',ep',hL,r'⟩) hok hg
def Inv.turned{t':Nat}{it:Addr}(I:Inv X pins σ H s)(k:∀b o,b≠it->s.heap.get? b=some o->h'.get? b=some o)(hn:H it=none)(hL:it≠X.env.locals)
  (h1:it∈X.ex\/X.s₀.heap.objs.size<=it) (h2:∀x c,X.env.cells.lookup x=some c->c≠it) (h3:∀p∈X.pn++pins,p.1≠it):Inv X pins σ H {s with heap:=h',toks:=t'}:=by
 have nit:∀b u,H b=some u->b≠it:=fun b u e z=>by rw[z,hn] at e;cases e
 refine I.step (g':=s.gens) (d':=s.drawn) (ch:= [it]) (fun b hb=> ?_) (fun b o _ _ hc e _=>k b o (fun z=>hc (by simp[z])) e) (fun b o _ _ hc e _=>⟨o.slots,k b o (fun z=>hc (by simp[z])) e⟩) (fun _ _ _ _ n=>n)
  (fun b o hc e=>⟨o,k b o (fun z=>hc (by simp[z])) e⟩) (fun _ _ e=>e) (fun _ _ _ e=>e) (fun b ps e=>⟨#[],by rw[e];simp⟩) (fun m hm=> ?_) (fun b u e=> ?_) I.bare
 ·have e:b=it:=by simpa using hb
  subst e
  exact⟨h1,hL,h2,h3⟩
 ·obtain⟨o,es,ep,ho,r⟩:=hm
  exact⟨o,es,ep,k _ o (Ne.symm hL) ho,r⟩
 ·refine(I.hok b u e).stay (fun c v hc q=>k c v ?_ q) (fun _ q=>q) fun _ _ q=>q
  rcases hc with z|z
  ·rw[z];exact nit b u e
  ·exact nit c _ z
def Inv.tok(I:Inv X pins σ H s)(t:Nat):Inv X pins σ H {s with toks:=t}:=I.un (h':=s.heap) (t':=t) Un.refl I.hok
def Inv.kept{t':Nat}(I:Inv X pins σ H s)(k:∀b u,s.heap.get? b=some u->h'.get? b=some u):Inv X pins σ H {s with heap:=h',toks:=t'}:=I.un (Un.kept k) (I.hok.kept k)
def Inv.laid{a:Addr}{o:HO}{t':Nat}(I:Inv X pins σ H s)(k:∀b u,s.heap.get? b=some u->h'.get? b=some u)(hp:s.heap.objs.size<=a)(new:dA X.prog X.w (upd H a o) h' a o):
  Inv X pins σ (upd H a o) {s with heap:=h',toks:=t'}:=I.un (Un.laid k hp (I.hok.fresh hp)) (I.hok.laid k hp new)
def Inv.write{x e:Addr}{o:HO}{t':Nat}(I:Inv X pins σ H s)(mu:K2 (H x))(he:e=x\/H e=some (.own x))(k:∀b u,b≠e->s.heap.get? b=some u->h'.get? b=some u)(heo:∃u,h'.get? e=some u)
  (new:dA X.prog X.w (upd H x o) h' x o):Inv X pins σ (upd H x o) {s with heap:=h',toks:=t'}:=I.un (Un.write mu he k heo) (I.hok.write mu he k heo new)
def Inv.pins_of{pins':List (Addr×Obj)}(I:Inv X pins σ H s)(h:∀p∈pins',s.heap.get? p.1=some p.2/\H p.1=none/\p.1≠X.env.locals/\p.1∉X.fs/\∀v,p.2.data≠.cell v):Inv X pins' σ H s:=
 ⟨I.ok,I.os,I.bare,I.base,I.loc,I.cell,I.free,I.freeC,fun p hp=>(mQa.mp hp).elim (fun z=>I.pin p (List.mem_append_left _ z)) (h p),I.hok,I.len⟩
def Aw{N:List Str}(hN:N.Nodup){i j:Nat}{x:Str}(a:N[i]?=some x)(b:N[j]?=some x):i=j:=by
 obtain⟨h1,e1⟩:=gQs.mp a
 obtain⟨h2,e2⟩:=gQs.mp b
 exact(List.getElem_inj hN).mp (e1.trans e2.symm)
def Eb{M:Model}{A:Around}{E:Value->Shared->Prop}{i:Nat}{x:Str}{v:V}{u:Value}{Q:Unit->Shared->Prop}(I:Inv X pins σ H s)(hN:X.N.Nodup)(hi:X.N[i]?=some x)(hx:Loc X.env.scope x)(r:RelV v u)
  (h:∀s',Inv X pins (σ.set i (some v)) H s'->(∃a,Heap.SameBut a s.heap s'.heap/\(a=X.env.locals\/X.env.cells.lookup x=some a))->Q () s') (hf:X.fn x=true\/X.env.scope.names.lookup x=some .local:=by first|exact .inl rfl|exact .inr rfl|assumption):wpAny M A (storeName X.env x u) Q E s:=by
 obtain⟨m,hn,hl⟩:=id I.loc
 have hcls:(X.env.scope.kind==.class||(X.env.scope.kind==.module&&X.env.locals !=X.env.globals))=false:=by rw[I.ok.kind];rfl
 have hiσ:i<σ.length:=by rw[I.len];exact(gQs.mp hi).1
 have cne:=I.cne
 have tracked:∀{a:Addr} {h':Heap},(∃o,s.heap.get? a=some o/\H a=none)->Heap.SameBut a s.heap h'->oh X.prog X.w H h':=fun{a h'} ha hs b ob e=>by
  obtain⟨_,_,hfree⟩:=ha
  refine(I.hok b ob e).stay (fun c w' hc q=>(hs.2 c ?_).trans q) (fun _ q=>q) fun _ _ q=>q
  rintro rfl
  rcases hc with rfl|hc
  ·rw[hfree] at e;cases e
  ·rw[hfree] at hc;cases hc
 rcases hx with hk|hk
 ·refine wpAny_storeName_local hk hn (fun h' hn' hs=> ?_) hcls
  obtain⟨oL,_,_,hoL,_⟩:=id hn
  refine h _ ⟨I.ok,I.os,I.bare,⟨fun b o e n hb hx=> ?_,fun b o e n hb hx=> ?_,I.base.free,fun b o e hx=> ?_,I.base.tups,I.base.frzs,I.base.tbls⟩,⟨_,hn',fun j y v' e1 e2 e3=> ?_⟩,fun y c e=> ?_,I.free,I.freeC,fun p hp=> ?_,tracked ⟨oL,hoL,I.free⟩ hs,by simpa using I.len⟩ ⟨_,hs,.inl rfl⟩
  ·exact(hs.2 b (Qwq (Qqq (Qiq e) I.ok.above))).trans (I.base.keep b o e n hb hx)
  ·obtain⟨sl,e1⟩:=I.base.slot b o e n hb hx
   exact⟨sl,(hs.2 b (Qwq (Qqq (Qiq e) I.ok.above))).trans e1⟩
  ·obtain⟨o',e1⟩:=I.base.there b o e hx
   exact⟨o',(hs.2 b (Qwq (Qqq (Qiq e) I.ok.above))).trans e1⟩
  ·by_cases hj:j=i
   ·subst hj
    rw[hi] at e1;cases e1
    rw[Qyq hiσ] at e2
    cases e2
    exact⟨u,r,.inl ⟨hk,by simp⟩⟩
   ·rw[QKq (Ne.symm hj)] at e2
    obtain⟨u',r',q⟩:=hl j y v' e1 e2 e3
    refine⟨u',r',?_⟩
    rcases q with⟨k,e⟩|⟨k,c,e,z⟩
    ·refine .inl ⟨k,?_⟩
     have:y≠x:=fun e=>hj (Aw hN e1 (e▸hi))
     simp[this,e]
    ·exact .inr ⟨k,c,e,z.sameBut hs (cne y c e)⟩
  ·obtain⟨w',z⟩:=I.cell y c e
   exact⟨w',z.sameBut hs (cne y c e)⟩
  ·obtain⟨e,n,ne,nf,d⟩:=I.pin p hp
   exact⟨(hs.2 p.1 ne).trans e,n,ne,nf,d⟩
 ·have hfn:X.fn x=true:=by
   rcases hf with z|z
   ·exact z
   ·rw[z] at hk;cases hk
  obtain⟨c,hc⟩:=I.ok.has x (.inl hk)
  obtain⟨w',z⟩:=I.cell x c hc
  refine wpAny_storeName_cell I.ok.kind hk hc z (fun h' hc' hs=> ?_)
  obtain⟨oc,hoc,hocd⟩:=id z
  refine h {s with heap:=h'} ⟨I.ok,I.os,I.bare,⟨fun b o e n hb hx=> ?_,fun b o e n hb hx=> ?_,I.base.free,fun b o e hx=> ?_,I.base.tups,I.base.frzs,I.base.tbls⟩,⟨m,hn.sameBut hs (Ne.symm (cne x c hc)),fun j y v' e1 e2 e3=> ?_⟩,fun y c' e=> ?_,I.free,I.freeC,fun p hp=> ?_,tracked ⟨oc,hoc,I.freeC x c hc⟩ hs,by simpa using I.len⟩ ⟨c,hs,.inr hc⟩
  ·exact(hs.2 b (Qwq (Qqq (Qiq e) (I.ok.cab x c hfn hc)))).trans (I.base.keep b o e n hb hx)
  ·obtain⟨sl,e1⟩:=I.base.slot b o e n hb hx
   exact⟨sl,(hs.2 b (Qwq (Qqq (Qiq e) (I.ok.cab x c hfn hc)))).trans e1⟩
  ·obtain⟨o',e1⟩:=I.base.there b o e hx
   exact⟨o',(hs.2 b (Qwq (Qqq (Qiq e) (I.ok.cab x c hfn hc)))).trans e1⟩
  ·by_cases hj:j=i
   ·subst hj
    rw[hi] at e1;cases e1
    rw[Qyq hiσ] at e2
    cases e2
    exact⟨u,r,.inr ⟨.inl hk,c,hc,hc'⟩⟩
   ·rw[QKq (Ne.symm hj)] at e2
    obtain⟨u',r',q⟩:=hl j y v' e1 e2 e3
    refine⟨u',r',?_⟩
    rcases q with q|⟨k,c',e,z'⟩
    ·exact .inl q
    ·refine .inr ⟨k,c',e,z'.sameBut hs ?_⟩
     rintro rfl
     exact hj (Aw hN e1 (I.ok.inj _ _ _ e hc▸hi))
  ·by_cases hcc:c'=c
   ·subst hcc;exact⟨_,hc'⟩
   ·obtain⟨w2,z2⟩:=I.cell y c' e
    exact⟨w2,z2.sameBut hs hcc⟩
  ·obtain⟨e,n,ne,nf,d⟩:=I.pin p hp
   refine⟨(hs.2 p.1 ?_).trans e,n,ne,nf,d⟩
   intro q
   rw[q,hoc] at e
   have q':oc=p.2:=Option.some.inj e
   exact d w' (by rw[←q'];exact hocd)
def oo{M:Model}{A:Around}{E:Value->Shared->Prop}{i:Nat}{x:Str}{v:V}{u:Value}{Q:Unit->Shared->Prop}(I:Inv X pins σ H s)(hN:X.N.Nodup)(hi:X.N[i]?=some x)(hx:Loc X.env.scope x)(r:RelV v u)
  (h:∀s',Inv X pins (σ.set i (some v)) H s'->Q () s') (hf:X.fn x=true\/X.env.scope.names.lookup x=some .local:=by first|exact .inl rfl|exact .inr rfl|assumption):wpAny M A (storeName X.env x u) Q E s:=
 Eb I hN hi hx r (fun s' I' _=>h s' I') hf
def Inv.call'{s':Shared}{ch:List Addr}(I:Inv X pins σ H s)(ho:s'.os=s.os)(u:Un (FA X.stack) ch H H' s.heap s'.heap)(hok:oh X.prog X.w H' s'.heap)(hg:AllBare s'.gens)
  (hch:∀b∈ch,(b∈X.ex\/X.s₀.heap.objs.size<=b)/\b≠X.env.locals/\(∀x c,X.env.cells.lookup x=some c->c≠b)/\∀p∈X.pn++pins,p.1≠b):Inv X pins σ H' s':=by
 obtain⟨h',g',d',t',o'⟩:=s'
 have e:o'=s.os:=ho
 subst e
 exact I.call (g':=g') (t':=t') (d':=d') u hok hg hch
end
abbrev XK:=Value->Option Addr->Hp->Prop
abbrev St:=List (Option V)
abbrev VK:=V->Hp->Prop
abbrev TE:=St->Hp->VK->Prop
abbrev TT:=St->Hp->(Bool->Hp->Prop)->Prop
abbrev TA:=St->Hp->(List V->Hp->Prop)->Prop
structure Ends where
 nx:St->Hp->Prop
 rt:VK
 bk:St->Hp->Prop:=fun _ _=>False
 ct:St->Hp->Prop:=fun _ _=>False
abbrev TS:=Ends->St->Hp->Prop
def EP(X:Cx)(pins:List (Addr×Obj))(σ:St)(Q:VK)(u:Value)(s':Shared):Prop:=∃v H',Inv X pins σ H' s'/\RelV v u/\Q v H'
def TP(X:Cx)(pins:List (Addr×Obj))(σ:St)(Q:Bool->Hp->Prop)(b:Bool)(s':Shared):Prop:=∃H',Inv X pins σ H' s'/\Q b H'
def AP(X:Cx)(pins:List (Addr×Obj))(σ:St)(Q:List V->Hp->Prop)(us:List Value)(s':Shared):Prop:=∃vs H',Inv X pins σ H' s'/\bM vs us/\Q vs H'
def SP(X:Cx)(pins:List (Addr×Obj))(D:Ends)(f:Flow)(s':Shared):Prop:=
 match f with
 |.next=>∃σ' H',Inv X pins σ' H' s'/\D.nx σ' H'
 |.brk=>∃σ' H',Inv X pins σ' H' s'/\D.bk σ' H'
 |.cont=>∃σ' H',Inv X pins σ' H' s'/\D.ct σ' H'
 |.ret u=>∃v σ' H',Inv X pins σ' H' s'/\RelV v u/\D.rt v H'
def PE(X:Cx)(e:Expr)(t:TE):Prop:=
 ∀(pins:List (Addr×Obj)) (s:Shared) (σ:St) (H:Hp) (Q:VK),Inv X pins σ H s->t σ H Q->wpAny (model X.prog X.w) X.A (eval e X.env) (EP X pins σ Q) X.xe s
def PT(X:Cx)(e:Expr)(t:TT):Prop:=
 ∀(pins:List (Addr×Obj)) (s:Shared) (σ:St) (H:Hp) (Q:Bool->Hp->Prop),Inv X pins σ H s->t σ H Q->wpAny (model X.prog X.w) X.A (isTrue e X.env (eval e X.env)) (TP X pins σ Q) X.xe s
def PW(X:Cx)(e:Expr)(t:TT):Prop:=
 ∀(whole:Sem Value) (pins:List (Addr×Obj)) (s:Shared) (σ:St) (H:Hp) (Q:Bool->Hp->Prop),Inv X pins σ H s->t σ H Q->wpAny (model X.prog X.w) X.A (isTrue e X.env whole) (TP X pins σ Q) X.xe s
def PW.pt{X:Cx}{e:Expr}{t:TT}(h:PW X e t):PT X e t:=h _
def PA(X:Cx)(es:List Expr)(t:TA):Prop:=
 ∀(pos:Pos) (pins:List (Addr×Obj)) (s:Shared) (σ:St) (H:Hp) (Q:List V->Hp->Prop),Inv X pins σ H s->t σ H Q->wpAny (model X.prog X.w) X.A (spliced (backTo pos (starEach es X.env))) (AP X pins σ Q) X.xe s
def PS(X:Cx)(st:Stmt)(t:TS):Prop:=
 ∀(pins:List (Addr×Obj)) (s:Shared) (σ:St) (H:Hp) (D:Ends),Inv X pins σ H s->t D σ H->wpAny (model X.prog X.w) X.A (exec st X.env) (SP X pins D) X.xe s
def sk(X:Cx)(st:List Stmt)(t:TS):Prop:=
 ∀(pins:List (Addr×Obj)) (s:Shared) (σ:St) (H:Hp) (D:Ends),Inv X pins σ H s->t D σ H->wpAny (model X.prog X.w) X.A (execs st X.env) (SP X pins D) X.xe s
def di{α:Type}{t:Sem α}{Q Q':α->Shared->Prop}{M:Model}{A:Around}{E:Value->Shared->Prop}{s:Shared}(h:wpAny M A t Q E s)(hQ:∀a s,Q a s->Q' a s):wpAny M A t Q' E s:=QRq h hQ fun _ _ x=>x
section
variable{X:Cx}
def JV(i:Nat):TE:=fun σ H Q=>∃v,σ[i]?=some (some v)/\Q v H
def tC(v:V):TE:=fun _ H Q=>Q v H
def FV{i:Nat}{x:Str}{pos:Pos}(hN:X.N[i]?=some x)(hv:IA X.env.scope x)(hd:(x==("__debug__":Str))=false:=by decide)(hcd:(x==("__classdict__":Str))=false:=by decide):PE X (.Name x pos) (JV i):=by
 intro pins s σ H Q I h
 obtain⟨v,e,h⟩:=h
 obtain⟨m,hn,hl⟩:=I.loc
 obtain⟨u,r,l⟩:=hl i x v hN e hv
 have fin:EP X pins σ Q u s:=⟨v,H,I,r,h⟩
 rcases l with⟨hk,hm⟩|⟨hk,c,hc,hcell⟩
 ·exact wpAny_Name (wpAny_loadName_local I.ok.kind hk hn hm fin) hd
 ·rcases hk with hk|hk
  ·exact wpAny_Name (wpAny_loadName_cell I.ok.kind hk hc hcell fin) hd
  ·exact wpAny_Name (wpAny_loadName_free I.ok.kind hk hc hcell fin hcd) hd
def Kc{i j pos}:PE X (.Constant (.int i) j pos) (tC (.int i)):=fun _ _ _ H _ I h=>wpAny_Constant_int ⟨.int i,H,I.tok _,⟨_,rfl⟩,h⟩
def La{b j pos}:PE X (.Constant (.bool b) j pos) (tC (.bl b)):=fun _ _ _ H _ I h=>Constant_bool ⟨.bl b,H,I,rfl,h⟩
def Kb{j pos}:PE X (.Constant .none j pos) (tC .non):=fun _ _ _ H _ I h=>Constant_none ⟨.non,H,I,rfl,h⟩
def Kj{x j pos}:PE X (.Constant (.str x) j pos) (tC (.str x)):=fun _ _ _ H _ I h=>Calls.Constant_str ⟨.str x,H,I.tok _,⟨_,rfl⟩,h⟩
def Gl(X:Cx)(x:Str):Prop:=X.env.kindOf x=some .globalImplicit
def xI{E:Value->Shared->Prop}{pins:List (Addr×Obj)}{s:Shared}{σ:St}{H:Hp}{x:Str}{u:Value}{pos:Pos}{Q:Value->Shared->Prop}(I:Inv X pins σ H s)(hg:Gl X x)(hm:X.mg x=some u)(h:Q u s)
  (hd:(x==("__debug__":Str))=false:=by decide):wpAny (model X.prog X.w) X.A (eval (.Name x pos) X.env) Q E s:=
 Calls.Name_function_global I.ok.kind hg (Calls.loadGlobal_global (by rw[I.ok.glob];exact I.mod.glob.keeps I.bk) hm h) hd
def nc{E:Value->Shared->Prop}{pins:List (Addr×Obj)}{s:Shared}{σ:St}{H:Hp}{x:Str}{u:Value}{pos:Pos}{Q:Value->Shared->Prop}(I:Inv X pins σ H s)(hg:Gl X x)(hm:X.mg x=none)(hv:bootBuiltins x=some u)(h:Q u s)
  (hn:x≠"__name__":=by decide) (hd:(x==("__debug__":Str))=false:=by decide):wpAny (model X.prog X.w) X.A (eval (.Name x pos) X.env) Q E s:=by
 obtain⟨mb,h1,h2⟩:=I.mod.blt
 exact Calls.Name_function_global I.ok.kind hg (Calls.loadGlobal_builtin (by rw[I.ok.glob];exact I.mod.glob.keeps I.bk) hm (by rw[I.ok.blt];exact h1.keeps I.bk) ((h2 x hn).trans hv) h) hd
def fq{x:Str}{v:V}{u:Value}{pos:Pos}(hg:Gl X x)(hm:X.mg x=some u)(r:RelV v u)(hd:(x==("__debug__":Str))=false:=by decide):PE X (.Name x pos) (tC v):=
 fun _ _ _ H _ I h=>xI I hg hm ⟨v,H,I,r,h⟩ hd
def CF{x:Str}{v:V}{u:Value}{pos:Pos}(hg:Gl X x)(hm:X.mg x=none)(hv:bootBuiltins x=some u)(r:RelV v u)(hn:x≠"__name__":=by decide)(hd:(x==("__debug__":Str))=false:=by decide):PE X (.Name x pos) (tC v):=
 fun _ _ _ H _ I h=>nc I hg hm hv ⟨v,H,I,r,h⟩ hn hd
variable{a b:Expr}{ta tb:TE}{pos:Pos}
variable{tA tB':TT}{rest:List Expr}
def MW(t u:TT):TT:=fun σ H Q=>t σ H fun c H1=>if c=true then u σ H1 Q else Q false H1
def NL(t u:TT):TT:=fun σ H Q=>t σ H fun c H1=>if c=true then Q true H1 else u σ H1 Q
def MY(t:TT):TT:=fun σ H Q=>t σ H fun c H1=>Q (!c) H1
def Hm(ha:PT X a tA):PW X (.BoolOp .And [a] pos) tA:=by
 intro wh pins s σ H Q I h
 refine isTrue_and (di (ha pins s σ H Q I h) fun c s1 e=> ?_)
 cases c with
 |true=>exact isTrue_and_nil e
 |false=>exact e
def JM(ha:PT X a tA):PW X (.BoolOp .Or [a] pos) tA:=by
 intro wh pins s σ H Q I h
 refine isTrue_or (di (ha pins s σ H Q I h) fun c s1 e=> ?_)
 cases c with
 |false=>exact isTrue_or_nil e
 |true=>exact e
def JA(ha:PT X a tA)(hb:PW X (.BoolOp .And (b::rest) pos) tB'):PW X (.BoolOp .And (a::b::rest) pos) (MW tA tB'):=by
 intro wh pins s σ H Q I h
 refine isTrue_and (di (ha pins s σ H _ I h) fun c s1 qr=> ?_)
 obtain⟨H1,I1,q1⟩:=qr
 cases c with
 |true=>exact hb wh pins s1 σ H1 Q I1 q1
 |false=>exact⟨H1,I1,q1⟩
def Lm(ha:PT X a tA)(hb:PW X (.BoolOp .Or (b::rest) pos) tB'):PW X (.BoolOp .Or (a::b::rest) pos) (NL tA tB'):=by
 intro wh pins s σ H Q I h
 refine isTrue_or (di (ha pins s σ H _ I h) fun c s1 qr=> ?_)
 obtain⟨H1,I1,q1⟩:=qr
 cases c with
 |true=>exact⟨H1,I1,q1⟩
 |false=>exact hb wh pins s1 σ H1 Q I1 q1
def Kv(ha:PT X a tA):PT X (.UnaryOp .Not a pos) (MY tA):=by
 intro pins s σ H Q I h
 exact isTrue_not (ha pins s σ H (fun c H1=>Q (!c) H1) I h)
def LK(ta tb:TE):TE:=fun σ H Q=>ta σ H fun x H1=>∃c,x=.bl c/\if c=true then tb σ H1 Q else Q (.bl false) H1
def MF(ta tb:TE):TE:=fun σ H Q=>ta σ H fun x H1=>∃c,x=.bl c/\if c=true then Q (.bl true) H1 else tb σ H1 Q
def Kw{op}{t:TE}(h:PE X a t):PE X (.BoolOp op [a] pos) t:=fun pins s σ H Q I hw=>BoolOp_one (h pins s σ H Q I hw)
def JG(ha:PE X a ta)(hb:PE X (.BoolOp .And (b::rest) pos) tb):PE X (.BoolOp .And (a::b::rest) pos) (LK ta tb):=by
 intro pins s σ H Q I h
 refine BoolOp_and (di (ha pins s σ H _ I h) fun v s1 qr=> ?_)
 obtain⟨x,H1,I1,r1,q1⟩:=qr
 obtain⟨c,rfl,q1⟩:=q1
 cases r1
 refine wpAny_truthy_bool ?_
 cases c with
 |true=>exact hb pins s1 σ H1 Q I1 q1
 |false=>exact⟨.bl false,H1,I1,rfl,q1⟩
def Lb(ha:PE X a ta)(hb:PE X (.BoolOp .Or (b::rest) pos) tb):PE X (.BoolOp .Or (a::b::rest) pos) (MF ta tb):=by
 intro pins s σ H Q I h
 refine BoolOp_or (di (ha pins s σ H _ I h) fun v s1 qr=> ?_)
 obtain⟨x,H1,I1,r1,q1⟩:=qr
 obtain⟨c,rfl,q1⟩:=q1
 cases r1
 refine wpAny_truthy_bool ?_
 cases c with
 |false=>exact hb pins s1 σ H1 Q I1 q1
 |true=>exact⟨.bl true,H1,I1,rfl,q1⟩
def NF(t:TT)(ta tb:TE):TE:=fun σ H Q=>t σ H fun c H1=>if c=true then ta σ H1 Q else tb σ H1 Q
def FI{c:Expr}(hc:PT X c tA)(ha:PE X a ta)(hb:PE X b tb):PE X (.IfExp c a b pos) (NF tA ta tb):=by
 intro pins s σ H Q I h
 refine wpAny_IfExp (di (hc pins s σ H _ I h) fun d s1 qr=> ?_)
 obtain⟨H1,I1,q1⟩:=qr
 cases d with
 |true=>exact ha pins s1 σ H1 Q I1 q1
 |false=>exact hb pins s1 σ H1 Q I1 q1
end
def iK(K:PySem.W.Frag)(H:Hp)(a:Addr)(xs:List V):Prop:=
 Rd H a (.lst xs)∨
  ∃(o:Obj) (its:Array Value) (n:Nat),K.lookup a=some o/\o.cls=.type "list" /\o.dict=none/\o.data=.seq its n/\its.size<=sizeLine/\bM xs its.toList
def hZ(K:PySem.W.Frag)(H:Hp)(a:Addr)(xs:List V):Prop:=
 Rd H a (.tup xs)∨
  ∃(o:Obj) (its:Array Value) (n:Nat),K.lookup a=some o/\o.cls=.type "tuple" /\o.data=.seq its n/\its.size<=sizeLine/\bM xs its.toList
noncomputable def M3:Value->Option V
 |.none=>some .non
 |.bool b=>some (.bl b)
 |.int i _=>some (.int i)
 |.str x _=>some (.str x)
 |.bytes b _=>some (.byt b)
 |.float b _=>some (.flt b)
 |.ref a=>some (.ref a)
 |.type n=>some (.ty n)
 |_=>none
def RelV.abs{x:V}{u:Value}(r:RelV x u):M3 u=some x:=by
 cases x with
 |non=>cases r;rfl
 |bl _=>cases r;rfl
 |int _=>obtain⟨t,rfl⟩:=r;rfl
 |str _=>obtain⟨t,rfl⟩:=r;rfl
 |byt _=>obtain⟨t,rfl⟩:=r;rfl
 |flt _=>obtain⟨t,rfl⟩:=r;rfl
 |ref _=>cases r;rfl
 |ty _=>cases r;rfl
def RelV.inj{x y:V}{u:Value}(r:RelV x u)(q:RelV y u):x=y:=Option.some.inj (r.abs.symm.trans q.abs)
theorem bM.inj:∀{xs ys:List V} {us:List Value},bM xs us->bM ys us->xs=ys
 |_,_,_,.nil,.nil=>rfl
 |_,_,_,.cons r t,.cons r' t'=>by rw[r.inj r',bM.inj t t']
section
variable{X:Cx}{pins:List (Addr×Obj)}{σ:St}{H:Hp}{s:Shared}{a:Addr}{xs ys:List V}
def iK.of{K:PySem.W.Frag}(h:H a=some (.lst xs)):iK K H a xs:=.inl (.inl h)
def hZ.of{K:PySem.W.Frag}(h:H a=some (.tup xs)):hZ K H a xs:=.inl (.inl h)
def Inv.list(I:Inv X pins σ H s)(h:iK X.K H a xs):∃its:List Value,bM xs its/\PlainL s.heap a its.toArray/\xs.length<=sizeLine:=by
 rcases h with h|⟨o,its,n,hk,hc,hd,hs,hz,r⟩
 ·obtain⟨z,its,n,r,e⟩:=h.ok I.hok
  exact⟨its,r,⟨_,n,e,rfl,rfl,rfl⟩,z⟩
 ·refine⟨its.toList,r,⟨o,n,I.kIn a o hk,hc,hd,by simpa using hs⟩,?_⟩
  have e:=r.length
  simp only[Array.length_toList] at e
  omega
def Inv.tuple(I:Inv X pins σ H s)(h:hZ X.K H a xs):∃its:List Value,bM xs its/\IsTup s.heap a its.toArray/\xs.length<=sizeLine:=by
 rcases h with h|⟨o,its,n,hk,hc,hs,hz,r⟩
 ·obtain⟨z,its,r,p⟩:=h.ok I.hok
  exact⟨its,r,p.it,z⟩
 ·refine⟨its.toList,r,⟨o,I.kIn a o hk,hc,n,by simpa using hs⟩,?_⟩
  have e:=r.length
  simp only[Array.length_toList] at e
  omega
def Inv.list_inj(I:Inv X pins σ H s)(h:iK X.K H a xs)(h':iK X.K H a ys):xs=ys:=by
 obtain⟨its,r,⟨o,n,e,_,_,d⟩,_⟩:=I.list h
 obtain⟨its',r',⟨o',n',e',_,_,d'⟩,_⟩:=I.list h'
 rw[e] at e';cases e'
 rw[d] at d'
 injection d' with d1 _
 have:its=its':=by simpa using congrArg Array.toList d1
 subst this
 exact r.inj r'
def Inv.tuple_inj(I:Inv X pins σ H s)(h:hZ X.K H a xs)(h':hZ X.K H a ys):xs=ys:=by
 obtain⟨its,r,⟨o,e,_,n,d⟩,_⟩:=I.tuple h
 obtain⟨its',r',⟨o',e',_,n',d'⟩,_⟩:=I.tuple h'
 rw[e] at e';cases e'
 rw[d] at d'
 injection d' with d1 _
 have:its=its':=by simpa using congrArg Array.toList d1
 subst this
 exact r.inj r'
end
abbrev Cx.wish(X:Cx)(E:Value->Shared->Prop):Cx:={X with xe:=E}
abbrev Cx.nox(X:Cx):Cx:=X.wish fun _ _=>False
def Cx.Ok.wish{X:Cx}(ok:X.Ok)(E:Value->Shared->Prop):(X.wish E).Ok:=
 ⟨ok.mod,ok.kind,ok.glob,ok.blt,ok.above,ok.inj,ok.has,ok.cab,ok.hd,ok.frames,ok.stk,ok.exf,ok.bs,ok.bsz,ok.noex,ok.exfs,ok.funs,ok.frf⟩
def Cx.Ok.unwish{X:Cx}{E:Value->Shared->Prop}(ok:(X.wish E).Ok):X.Ok:=
 ⟨ok.mod,ok.kind,ok.glob,ok.blt,ok.above,ok.inj,ok.has,ok.cab,ok.hd,ok.frames,ok.stk,ok.exf,ok.bs,ok.bsz,ok.noex,ok.exfs,ok.funs,ok.frf⟩
section
variable{X:Cx}{pins:List (Addr×Obj)}{σ:St}{H:Hp}{s:Shared}{E:Value->Shared->Prop}
def Inv.wish(I:Inv X pins σ H s)(E:Value->Shared->Prop):Inv (X.wish E) pins σ H s:=⟨I.ok.wish E,I.os,I.bare,I.base,I.loc,I.cell,I.free,I.freeC,I.pin,I.hok,I.len⟩
def Inv.unwish(I:Inv (X.wish E) pins σ H s):Inv X pins σ H s:=⟨I.ok.unwish,I.os,I.bare,I.base,I.loc,I.cell,I.free,I.freeC,I.pin,I.hok,I.len⟩
theorem SP.unwish{D:Ends}{f:Flow}{s':Shared}(h:SP (X.wish E) pins D f s'):SP X pins D f s':=by
 cases f with
 |next=>obtain⟨σ',H',I,q⟩:=h;exact⟨σ',H',I.unwish,q⟩
 |brk=>obtain⟨σ',H',I,q⟩:=h;exact⟨σ',H',I.unwish,q⟩
 |cont=>obtain⟨σ',H',I,q⟩:=h;exact⟨σ',H',I.unwish,q⟩
 |ret u=>obtain⟨v,σ',H',I,r,q⟩:=h;exact⟨v,σ',H',I.unwish,r,q⟩
def sk.nox{st:List Stmt}{t:TS}(h:sk X.nox st t):sk X st t:=fun pins s σ H D I hw=>
 QRq (h pins s σ H D (I.wish _) hw) (fun _ _ q=>q.unwish) fun _ _ z=>False.elim z
end
section
variable{X:Cx}{st:Stmt}{rest:List Stmt}{t u:TS}{e:Expr}{te:TE}{pos:Pos}
def Ll:TS:=fun D σ H=>D.nx σ H
def Nc(t u:TS):TS:=fun D σ H=>t {D with nx:=u D} σ H
def G6:sk X [] Ll:=fun _ _ σ H _ I h=>wpAny_execs_nil ⟨σ,H,I,h⟩
def FW(h1:PS X st t)(h2:sk X rest u):sk X (st::rest) (Nc t u):=by
 intro pins s σ H D I h
 refine wpAny_execs_cons (di (h1 pins s σ H {D with nx:=u D} I h) fun f s1 q=> ?_)
 cases f with
 | next=>
   obtain⟨σ',H',I',q⟩:=q
   exact h2 pins s1 σ' H' D I' q
 |ret v=>exact q
 |brk=>exact q
 |cont=>exact q
def Ib(h1:PS X st t):sk X [st] t:=by
 intro pins s σ H D I h
 refine wpAny_execs_cons (di (h1 pins s σ H D I h) fun f s1 q=> ?_)
 cases f with
 |next=>exact wpAny_execs_nil q
 |ret v=>exact q
 |brk=>exact q
 |cont=>exact q
def Inv.quiet{pins:List (Addr×Obj)}{σ:St}{H:Hp}{s:Shared}(I:Inv X pins σ H s):interactive X.env=false:=by simp[interactive,I.ok.kind]
def LO(te:TE):TS:=fun D σ H=>te σ H fun _ H1=>D.nx σ H1
def Hg(he:PE X e te)(hs:swapsWith e none pos.line X.env=pure false:=by rfl):PS X (.Expr e pos) (LO te):=by
 intro pins s σ H D I h
 exact wpAny_Expr_any (di (he pins s σ H _ I h) fun v s1 ⟨x,H1,I1,r1,q1⟩=>⟨σ,H1,I1,q1⟩) I.quiet hs
def Nh(te:TE):TS:=fun D σ H=>te σ H D.rt
def Fg(he:PE X e te):PS X (.Return (some e) pos) (Nh te):=by
 intro pins s σ H D I h
 exact wpAny_Return_some (di (he pins s σ H _ I h) fun v s1 ⟨x,H1,I1,r1,q1⟩=>⟨x,σ,H1,I1,r1,q1⟩)
def ME(c:TT)(t u:TS):TS:=fun D σ H=>c σ H fun b H1=>if b=true then t D σ H1 else u D σ H1
def L0{c:Expr}{a b:List Stmt}{tc:TT}(hc:PT X c tc)(ha:sk X a t)(hb:sk X b u):PS X (.If c a b pos) (ME tc t u):=by
 intro pins s σ H D I h
 refine wpAny_If (di (hc pins s σ H _ I h) fun d s1 qr=> ?_)
 obtain⟨H1,I1,q1⟩:=qr
 cases d with
 |true=>exact ha pins s1 σ H1 D I1 q1
 |false=>exact hb pins s1 σ H1 D I1 q1
def JB:TS:=fun _ _ _=>False
def Gc:PS X st JB:=fun _ _ _ _ _ _ h=>h.elim
end
abbrev TG:=V->St->Hp->(St->Hp->Prop)->Prop
abbrev HH:=List V->St->Hp->(St->Hp->Prop)->Prop
def PG(X:Cx)(target:Expr)(t:TG):Prop:=
 ∀ (pins:List (Addr×Obj)) (s:Shared) (σ:St) (H:Hp) (v:V) (u:Value) (Q:St->Hp->Prop),Inv X pins σ H s->RelV v u->t v σ H Q→
   wpAny (model X.prog X.w) X.A (assign target X.env u) (fun _ s'=>∃σ' H',Inv X pins σ' H' s'/\Q σ' H') X.xe s
def GN(X:Cx)(ts:List Expr)(t:HH):Prop:=
 ∀ (pins:List (Addr×Obj)) (s:Shared) (σ:St) (H:Hp) (vs:List V) (us:List Value) (Q:St->Hp->Prop),Inv X pins σ H s->bM vs us->t vs σ H Q→
   wpAny (model X.prog X.w) X.A (assignInOrder ((assignEach ts X.env).map (·.2)) us) (fun _ s'=>∃σ' H',Inv X pins σ' H' s'/\Q σ' H') X.xe s
abbrev FC:=V->V->V->Hp->(Hp->Prop)->Prop
def J2(X:Cx)(t:FC):Prop:=
 ∀ (pins:List (Addr×Obj)) (s:Shared) (σ:St) (H:Hp) (o i v:V) (ov iv u:Value) (Q:Hp->Prop),Inv X pins σ H s->RelV o ov->RelV i iv->RelV v u->t o i v H Q→
   wpAny (model X.prog X.w) X.A (setItem ov iv u) (fun _ s'=>∃H',Inv X pins σ H' s'/\Q H') X.xe s
abbrev Mn:=V->V->Hp->VK->Prop
def Nj(X:Cx)(op:Operator)(t:Mn):Prop:=
 ∀ (pins:List (Addr×Obj)) (s:Shared) (σ:St) (H:Hp) (x y:V) (v u:Value) (Q:VK),Inv X pins σ H s->RelV x v->RelV y u->t x y H Q→
   wpAny (model X.prog X.w) X.A (inplaceOp op v u) (EP X pins σ Q) X.xe s
section
variable{X:Cx}{pos:Pos}
def uj(i:Nat):TG:=fun v σ H Q=>Q (σ.set i (some v)) H
def xj{i:Nat}{x:Str}(hN:X.N.Nodup)(hi:X.N[i]?=some x)(hx:Loc X.env.scope x)(hf:X.fn x=true\/X.env.scope.names.lookup x=some .local:=by first|exact .inl rfl|exact .inr rfl|assumption):PG X (.Name x pos) (uj i):=by
 intro pins s σ H v u Q I r h
 exact wpAny_assign_Name (oo I hN hi hx r (fun s' I'=>⟨_,H,I',h⟩) hf)
def MH:HH:=fun vs σ H Q=>vs= []/\Q σ H
def Lg(t:TG)(u:HH):HH:=fun vs σ H Q=>∃v r,vs=v::r/\t v σ H fun σ' H'=>u r σ' H' Q
def HU:GN X [] MH:=by
 intro pins s σ H vs us Q I r h
 obtain⟨e,h⟩:=h
 subst e
 cases r
 exact assignInOrder_nil ⟨σ,H,I,h⟩
def Ga{e:Expr}{es:List Expr}{t:TG}{u:HH}(h1:PG X e t)(h2:GN X es u)
  (hs:(assignEach (e::es) X.env).map (·.2)=assign e X.env::(assignEach es X.env).map (·.2):=by rfl):GN X (e::es) (Lg t u):=by
 intro pins s σ H vs us Q I r h
 obtain⟨v,vr,e1,h⟩:=h
 subst e1
 cases r with
 | cons r rr=>
   rw[hs]
   refine assignInOrder_cons (di (h1 pins s σ H _ _ _ I r h) fun _ s1 qr=> ?_)
   obtain⟨σ1,H1,I1,q1⟩:=qr
   exact h2 pins s1 σ1 H1 _ _ Q I1 rr q1
def MO(K:PySem.W.Frag)(n:Nat)(t:HH):TG:=fun v σ H Q=>∃a xs,v=.ref a/\hZ K H a xs/\xs.length=n/\t xs σ H Q
def Jc{es:List Expr}{k:Nat}{t:HH}{n:Nat}(hc:X.calm=true)(h:GN X es t)
  (hn:(assignEach es X.env).length=n:=by rfl) (hst:(assignEach es X.env).findIdx? (·.1)=none:=by rfl):PG X (.Tuple es k pos) (MO X.K n t):=by
 intro pins s σ H v u Q I r hw
 obtain⟨a,xs,e1,hq,hl,hw⟩:=hw
 subst e1
 cases r
 obtain⟨its,rv,ht,hz⟩:=I.tuple hq
 refine assign_Tuple_tuple (I.ok.hd hc) ht (by simp[hn,←hl,rv.length]) hst fun h' hx=> ?_
 have I1:Inv X pins σ H {s with heap:=h'}:=I.kept (t':=s.toks) fun b o e=>hx b o (Qwq (Qiq e)) e
 exact h pins _ σ H xs _ Q I1 (by simpa using rv) hw
def LG(to ti:TE)(t:FC):TG:=fun v σ H Q=>to σ H fun o H1=>ti σ H1 fun i H2=>t o i v H2 fun H3=>Q σ H3
def JN{o i:Expr}{to ti:TE}{t:FC}(ho:PE X o to)(hi:PE X i ti)(hs:J2 X t)
  (ha:∀v,assign (.Subscript o i pos) X.env v=(do
   let ov←holding [v] (eval o X.env)
   let iv←holding [v,ov] (eval i X.env)
   standAt pos
   holding [v,ov,iv] (setItem ov iv v)
   release [v,ov,iv] []):=by intro _;rfl):PG X (.Subscript o i pos) (LG to ti t):=by
 intro pins s σ H v u Q I r h
 rw[ha]
 refine Qaq (QLq (di (ho pins s σ H _ I h) fun ov s1 qr=> ?_))
 obtain⟨x,H1,I1,r1,q1⟩:=qr
 refine Qaq (QLq (di (hi pins s1 σ H1 _ I1 q1) fun iv s2 qr=> ?_))
 obtain⟨y,H2,I2,r2,q2⟩:=qr
 refine Qaq (wpAny_standAt (Qaq (QLq (di (hs pins s2 σ H2 x y v ov iv u _ I2 r1 r2 r q2) fun _ s3 qr=> ?_))))
 obtain⟨H3,I3,q3⟩:=qr
 exact wpAny_release ⟨σ,H3,I3,q3⟩
def Eg(te:TE)(g:TG):TS:=fun D σ H=>te σ H fun x H1=>g x σ H1 D.nx
def Kx{tg e:Expr}{te:TE}{g:TG}(he:PE X e te)(hg:PG X tg g)(hs:swapsWithSole [tg] e pos.line X.env=pure false:=by rfl)(hw:swappedStores [tg] e X.env=pure none:=by rfl)
  (h1:(assignEach [tg] X.env).map (·.2)= [assign tg X.env]:=by rfl):PS X (.Assign [tg] e pos) (Eg te g):=by
 intro pins s σ H D I h
 refine wpAny_Assign_stores (di (he pins s σ H _ I h) fun v s1 ⟨x,H1,I1,r1,q1⟩=> ?_) hs hw
 rw[h1]
 exact di (hg pins s1 σ H1 x v _ I1 r1 q1) fun _ s2 q=>q
def Js{i:Nat}{x:Str}{e:Expr}{te:TE}{pos':Pos}(hN:X.N.Nodup)(hi:X.N[i]?=some x)(hx:Loc X.env.scope x)(he:PE X e te)(hs:swapsWith e (some (.Name x pos')) pos.line X.env=pure false:=by rfl)(hf:X.fn x=true\/X.env.scope.names.lookup x=some .local:=by first|exact .inl rfl|exact .inr rfl|assumption):
  PS X (.Assign [.Name x pos'] e pos) (Eg te (uj i)):=by
 intro pins s σ H D I h
 refine wpAny_Assign_Name (di (he pins s σ H _ I h) fun v s1 ⟨y,H1,I1,r1,q1⟩=> ?_) hs
 exact oo I1 hN hi hx r1 (fun s2 I2=>⟨_,H1,I2,q1⟩) hf
def Ly(i j:Nat)(ta:TA):TS:=fun D σ H=>ta σ H fun vs H1=>∃v w,vs= [v,w]/\D.nx ((σ.set i (some v)).set j (some w)) H1
def Kk{i j:Nat}{x y:Str}{a b:Expr}{ta:TA}{px py pt:Pos}{kt k2 pt2}(hc:X.calm=true)(hN:X.N.Nodup)(hi:X.N[i]?=some x)(hj:X.N[j]?=some y)(hij:i≠j)
  (hx:X.env.scope.names.lookup x=some .local) (hy:X.env.scope.names.lookup y=some .local) (ha:PA X [a,b] ta)
  (hw:swappedStores [.Tuple [.Name x px,.Name y py] kt pt] (.Tuple [a,b] k2 pt2) X.env=pure (some [x,y]))
  (hs:swapsWithSole [.Tuple [.Name x px,.Name y py] kt pt] (.Tuple [a,b] k2 pt2) pos.line X.env=pure false:=by rfl):
  PS X (.Assign [.Tuple [.Name x px,.Name y py] kt pt] (.Tuple [a,b] k2 pt2) pos) (Ly i j ta):=by
 intro pins s σ H D I h
 rw[exec_Assign_arm]
 refine Qaq (wpAny_standAt ?_)
 rw[hs]
 refine Qaq (Qgq ?_)
 rw[Quq (by decide)]
 refine Qaq (Tuple_ (di (ha _ pins s σ H _ I h) fun us s1 qr=> ?_))
 obtain⟨vs,H1,I1,r1,q1⟩:=qr
 obtain⟨v,w,e1,q1⟩:=q1
 subst e1
 obtain⟨u1,u2,rfl,rv,rw'⟩:∃u1 u2,us= [u1,u2]/\RelV v u1/\RelV w u2:=by
  cases r1 with
  | cons p q=>
    cases q with
    | cons p' q'=>
      cases q'
      exact⟨_,_,rfl,p,p'⟩
 refine wpAny_newObj_type ?_ (by show 2<=_;decide)
 have I2:Inv X pins σ H1 {s1 with heap:=s1.heap.push {cls:=.type "tuple",data:=.seq [u1,u2].toArray}}:=I1.kept (t':=s1.toks) fun b o e=>Qcq _ e
 rw[hw]
 refine Qaq (Qgq ?_)
 show wpAny (model X.prog X.w) X.A (do rule "assign.swapped-stores";let items←unpackItems (.ref s1.heap.objs.size) 2 none;assignInOrder [fun v=>bindName X.env y v,fun v=>bindName X.env x v] items.reverse;pure Flow.next) _ _ _
 refine Qaq (wpAny_rule (Qaq (unpackItems_tuple (items:= #[u1,u2]) (I.ok.hd hc) (IsTup.new s1.heap _) fun h' hx'=> ?_)))
 have I3:=I2.kept (h':=h') (t':=s1.toks) fun b o e=>hx' b o (Qwq (Qiq e)) e
 show wpAny _ _ (assignInOrder [fun v=>bindName X.env y v,fun v=>bindName X.env x v] [u2,u1] >>= fun _=>pure Flow.next) _ _ _
 refine Qaq (assignInOrder_cons (wpAny_bindName (oo I3 hN hj (.inl hy) rw' (fun s2 I4=> ?_) (.inr hy))))
 refine assignInOrder_cons (wpAny_bindName (oo I4 hN hi (.inl hx) rv (fun s3 I5=>assignInOrder_nil (Qgq ?_)) (.inr hx)))
 rw[List.set_comm _ _ (Ne.symm hij)] at I5
 exact⟨_,H1,I5,q1⟩
def LN(to ti te:TE)(tget:V->V->Hp->VK->Prop)(tip:Mn)(tset:FC):TS:=fun D σ H=>to σ H fun o H1=>ti σ H1 fun i H2=>tget o i H2 fun x H3=>te σ H3 fun y H4=>tip x y H4 fun z H5=>tset o i z H5 fun H6=>D.nx σ H6
def K9(X:Cx)(t:V->V->Hp->VK->Prop):Prop:=
 ∀ (pins:List (Addr×Obj)) (s:Shared) (σ:St) (H:Hp) (o i:V) (ov iv:Value) (Q:VK),Inv X pins σ H s->RelV o ov->RelV i iv->t o i H Q→
   wpAny (model X.prog X.w) X.A (getItem ov iv) (EP X pins σ Q) X.xe s
def Hq{o i e:Expr}{to ti te:TE}{tget:V->V->Hp->VK->Prop}{tip:Mn}{tset:FC}{op:Operator}{tpos:Pos}(ho:PE X o to)(hi:PE X i ti)(hg:K9 X tget)(he:PE X e te)(hp:Nj X op tip)(hs:J2 X tset)
  (ha:∀ov iv new,augStore i ov iv new=(do holding [new,ov,iv] (setItem ov iv new);release [new,ov,iv] [];pure .next):=by intros;rfl):PS X (.AugAssign (.Subscript o i tpos) op e pos) (LN to ti te tget tip tset):=by
 intro pins s σ H D I h
 refine wpAny_AugAssign_SubscriptAny (di (ho pins s σ H _ I h) fun ov s1 ⟨x1,H1,I1,r1,q1⟩=> ?_) ha
 refine di (hi pins s1 σ H1 _ I1 q1) fun iv s2 qr=> ?_
 obtain⟨x2,H2,I2,r2,q2⟩:=qr
 refine di (hg pins s2 σ H2 x1 x2 ov iv _ I2 r1 r2 q2) fun old s3 qr=> ?_
 obtain⟨x3,H3,I3,r3,q3⟩:=qr
 refine di (he pins s3 σ H3 _ I3 q3) fun v s4 qr=> ?_
 obtain⟨x4,H4,I4,r4,q4⟩:=qr
 refine di (hp pins s4 σ H4 x3 x4 old v _ I4 r3 r4 q4) fun new s5 qr=> ?_
 obtain⟨x5,H5,I5,r5,q5⟩:=qr
 exact di (hs pins s5 σ H5 x1 x2 x5 ov iv new _ I5 r1 r2 r5 q5) fun _ s6 ⟨H6,I6,q6⟩=>⟨σ,H6,I6,q6⟩
def NC(f:Int->Int->Int):Mn:=fun x y H Q=>∃i j,x=.int i/\y=.int j/\Q (.int (f i j)) H
def JY:Nj X .Add (NC fun i j=>i+j):=by
 intro pins s σ H x y v u Q I r1 r2 h
 obtain⟨i,j,e1,e2,q⟩:=h
 subst e1;subst e2
 obtain⟨t,rfl⟩:=r1
 obtain⟨t',rfl⟩:=r2
 exact iadd_int ⟨.int _,H,I.tok _,⟨_,rfl⟩,q⟩
end
section
variable{X:Cx}{pos:Pos}
def KB(c:TT)(tb:TS):TS:=fun D σ H=>∃W:Nat->St->Hp->Prop,(∃m,W m σ H)/\∀m σ H,W m σ H→
 c σ H fun b H1=>if b=true then∃N:St->Hp->Prop,(∀σ' H',N σ' H'->∃m',m'<m/\W m' σ' H')/\tb {D with nx:=N,ct:=N,bk:=D.nx} σ H1 else D.nx σ H1
def EC{c:Expr}{body:List Stmt}{tc:TT}{tb:TS}(hp:PassesOwn (model X.prog X.w) X.A X.env X.xe)(hc:PT X c tc)(hb:sk X body tb):PS X (.While c body [] pos) (KB tc tb):=by
 intro pins s σ H D I h
 obtain⟨W,⟨m0,w0⟩,turn⟩:=h
 refine wpAny_While (codeAny_whileLoop (fun n s'=>∃σ' H',Inv X pins σ' H' s'/\W n σ' H') ?_ m0 ⟨σ,H,I,w0⟩)
 rintro n s1 ⟨σ1,H1,I1,w1⟩
 refine wpAny_passesOwn hp (di (hc pins s1 σ1 H1 _ I1 (turn n σ1 H1 w1)) fun b s2 qr=> ?_)
 obtain⟨H2,I2,q2⟩:=qr
 cases b with
 | true=>
   obtain⟨N,hN,q2⟩:=q2
   rw[Qhq rfl]
   refine wpAny_passesOwn hp (di (hb pins s2 σ1 H2 _ I2 q2) fun f s3 q3=> ?_)
   cases f with
   | next=>
     obtain⟨σ3,H3,I3,n3⟩:=q3
     obtain⟨m',hm,w3⟩:=hN σ3 H3 n3
     exact⟨m',hm,σ3,H3,I3,w3⟩
   | cont=>
     obtain⟨σ3,H3,I3,n3⟩:=q3
     obtain⟨m',hm,w3⟩:=hN σ3 H3 n3
     exact⟨m',hm,σ3,H3,I3,w3⟩
   |brk=>exact q3
   |ret v=>exact q3
 | false=>
   rw[Quq Qtq]
   exact wpAny_execs_nil ⟨σ1,H2,I2,q2⟩
end
structure It where
 go:Nat->Hp->Prop
 yld:Nat->Hp->V->Hp->Prop
 stop:Nat->Hp->Prop
def qv(X:Cx)(pins:List (Addr×Obj))(H:Hp)(b:Addr):Prop:=
 H b=none/\b≠X.env.locals/\b∉X.fs/\(b∈X.ex\/X.s₀.heap.objs.size<=b)/\(∀x c,X.env.cells.lookup x=some c->c≠b)/\∀p∈X.pn++pins,p.1≠b
def Inv.fpOk{X:Cx}{pins:List (Addr×Obj)}{σ:St}{H H':Hp}{s:Shared}{b:Addr}(I:Inv X pins σ H s)(hb:s.heap.objs.size<=b)(hn:H' b=none):qv X pins H' b:=by
 refine⟨hn,Nat.ne_of_gt (Qqq I.lt hb),I.nofs hb,.inr (QAq I.sz hb),fun x c e z=> ?_,fun p hp z=> ?_⟩
 ·obtain⟨v,q⟩:=I.cell x c e
  exact absurd (Qqq q.lt (by rw[z];exact hb)) (Nat.lt_irrefl _)
 ·exact absurd (Qqq (Qiq (I.pin p hp).1) (by rw[z];exact hb)) (Nat.lt_irrefl _)
structure Turn(P:Program)(w:World)(K:PySem.W.Frag)(tg:Expr)(J:It)(fp:List Addr)(it:Addr)(tn:Nat->Heap->Prop):Prop where
 mem:it∈fp
 obj:∀i h,tn i h->∀b∈fp,∃o,h.get? b=some o/\∀v,o.data≠.cell v
 keep:∀i h h',tn i h->(∀b∈fp,∀o,h.get? b=some o->h'.get? b=some o)->tn i h'
 item:∀(X:Cx),X.prog=P->X.w=w->X.K=K->X.calm=true->∀(i:Nat) (pins:List (Addr×Obj)) (s:Shared) (σ:St) (H:Hp) (E:Value->Shared->Prop),Inv X pins σ H s->(∀b∈fp,qv X pins H b)->tn i s.heap->J.go i H→
  wpAny (model P w) X.A (pyNext (.ref it)) (fun r s1=>∃u,r=some u∧
   wpAny (model P w) X.A (letOwnedTupleGo tg (.ref it) u) (fun _ s2=>∃x H',Inv X pins σ H' s2/\RelV x u/\J.yld i H x H'/\tn (i+1) s2.heap/\∀b∈fp,H' b=none) E s1) E s
 done:∀(X:Cx),X.prog=P->X.w=w->X.K=K->X.calm=true->∀(i:Nat) (pins:List (Addr×Obj)) (s:Shared) (σ:St) (H:Hp) (E:Value->Shared->Prop),Inv X pins σ H s->(∀b∈fp,qv X pins H b)->tn i s.heap->J.stop i H→
  wpAny (model P w) X.A (pyNext (.ref it)) (fun r s1=>r=none/\Inv X pins σ H s1) E s
 self:∀(A:Around) (i:Nat) (s:Shared) (Q:Value->Shared->Prop) (E:Value->Shared->Prop),tn i s.heap->Q (.ref it) s->wpAny (model P w) A (pyIter (.ref it)) Q E s
abbrev TI:=St->Hp->(It->Hp->Prop)->Prop
def Nq(X:Cx)(pins:List (Addr×Obj))(σ:St)(tg:Expr)(R:It->Hp->Prop)(itv:Value)(s2:Shared):Prop:=
 ∃(it:Addr) (fp:List Addr) (tn:Nat->Heap->Prop) (J:It) (H':Hp),itv=.ref it/\Inv X pins σ H' s2/\Turn X.prog X.w X.K tg J fp it tn/\tn 0 s2.heap/\(∀b∈fp,qv X pins H' b)/\R J H'
def PI(X:Cx)(tg iter:Expr)(wi:TI):Prop:=
 ∀ (pins:List (Addr×Obj)) (s:Shared) (σ:St) (H:Hp) (R:It->Hp->Prop),Inv X pins σ H s->wi σ H R→
   wpAny (model X.prog X.w) X.A (eval iter X.env) (fun v s1=>wpAny (model X.prog X.w) X.A (pyIter v) (Nq X pins σ tg R) X.xe s1) X.xe s
def EU{M:Model}{A:Around}{E:Value->Shared->Prop}{s:Shared}{tg:Expr}{it:Addr}{u:Value}{o:Obj}{n:String}{vs:Array Value}{Q:Unit->Shared->Prop}(ho:s.heap.get? it=some o)(hc:o.cls=.type n)(hd:o.data=.fields vs)
    (hn: ["enumerate","zip","dict_itemiterator","dict_reverseitemiterator","odict_iterator","itertools.zip_longest","itertools.pairwise"].contains n=false) (hQ:Q () s):wpAny M A (letOwnedTupleGo tg (.ref it) u) Q E s:=by
  unfold letOwnedTupleGo
  cases tg <;>first
    |exact Qgq hQ
    |(cases u <;>first
        |exact Qgq hQ
        |(refine Qaq (wpAny_load ho ?_)
          rw[hc,hd]
          show wpAny M A (if (["enumerate","zip","dict_itemiterator","dict_reverseitemiterator","odict_iterator","itertools.zip_longest","itertools.pairwise"].contains n&&vs[0]? ==some (rawInt _))=true then _ else _) Q E s
          rw[Quq (by intro h;rw[hn,Bool.false_and] at h;cases h)]
          exact Qgq hQ))
noncomputable def Nn(K:PySem.W.Frag)(a:Addr):It:=
 ⟨fun i H=>∃xs x,iK K H a xs/\xs[i]?=some x,fun i H x H'=>H'=H/\∀xs,iK K H a xs->xs[i]?=some x,fun i H=>∃xs,iK K H a xs/\xs.length<=i⟩
noncomputable def Nr(K:PySem.W.Frag)(a:Addr):It:=
 ⟨fun i H=>∃xs x,hZ K H a xs/\xs[i]?=some x,fun i H x H'=>H'=H/\∀xs,hZ K H a xs->xs[i]?=some x,fun i H=>∃xs,hZ K H a xs/\xs.length<=i⟩
def Mv(lo:Int)(n:Nat):It:=⟨fun i _=>i<n,fun i H x H'=>H'=H/\x=.int (lo+i),fun i _=>n<=i⟩
def DH{P:Program}{w:World}{K:PySem.W.Frag}{tg:Expr}(a it:Addr):Turn P w K tg (Nn K a) [it] it (fun i h=>h.IsListIter it a i) where
 mem:=by simp
 obj:=fun i h st b hb=>by
  have e:b=it:=by simpa using hb
  subst e
  obtain⟨o,e,c,d⟩:=st
  exact⟨o,e,fun v z=>by rw[d] at z;cases z⟩
 keep:=fun i h h' st k=>st.at fun o e=>k it (by simp) o e
 item:=by
  intro X hP hw hK hc i pins s σ H E I hf st hg
  subst hP hw hK
  obtain⟨xs,x,hq,hx⟩:=hg
  obtain⟨its,rv,p,hz⟩:=I.list hq
  obtain⟨u,hu,ru⟩:=rv.get hx
  obtain⟨f0,f1,f2,f3,f4,f5⟩:=hf it (by simp)
  refine wpAny_pyNext_list_item st p.isList (x:=u) (by simpa using hu) fun h' st' sb=> ?_
  have I1:Inv X pins σ H {s with heap:=h'}:=I.turned (t':=s.toks) (fun b o hb e=>(sb.2 b hb).trans e) f0 f1 f3 f4 f5
  obtain⟨o,e,c,d⟩:=id st'
  exact⟨u,rfl,EU (s:={s with heap:=h'}) e c d (by decide) ⟨x,H,I1,ru,⟨rfl,fun ys hy=>by rw[I.list_inj hy hq];exact hx⟩,st',fun b hb=>(hf b hb).1⟩⟩
 done:=by
  intro X hP hw hK hc i pins s σ H E I hf st hg
  subst hP hw hK
  obtain⟨xs,hq,hx⟩:=hg
  obtain⟨its,rv,p,hz⟩:=I.list hq
  obtain⟨f0,f1,f2,f3,f4,f5⟩:=hf it (by simp)
  have hl:=rv.length
  exact wpAny_pyNext_list_end (I.ok.hd hc) st p.isList (by simp;omega) fun h' eb=>⟨rfl,I.turned (t':=s.toks) (fun b o hb e=>eb b o hb e) f0 f1 f3 f4 f5⟩
 self:=fun _ _ _ _ _ st h=>wpAny_pyIter_listiter st h
def BU{P:Program}{w:World}{K:PySem.W.Frag}{tg:Expr}(a it:Addr):Turn P w K tg (Nr K a) [it] it (fun i h=>h.IsTupleIter it a i) where
 mem:=by simp
 obj:=fun i h st b hb=>by
  have e:b=it:=by simpa using hb
  subst e
  obtain⟨o,e,c,d⟩:=st
  exact⟨o,e,fun v z=>by rw[d] at z;cases z⟩
 keep:=fun i h h' st k=>st.at fun o e=>k it (by simp) o e
 item:=by
  intro X hP hw hK hc i pins s σ H E I hf st hg
  subst hP hw hK
  obtain⟨xs,x,hq,hx⟩:=hg
  obtain⟨its,rv,p,hz⟩:=I.tuple hq
  obtain⟨u,hu,ru⟩:=rv.get hx
  obtain⟨f0,f1,f2,f3,f4,f5⟩:=hf it (by simp)
  refine wpAny_pyNext_tuple_item st (show s.heap.IsTuple a its.toArray from p) (x:=u) (by simpa using hu) fun h' st' sb=> ?_
  have I1:Inv X pins σ H {s with heap:=h'}:=I.turned (t':=s.toks) (fun b o hb e=>(sb.2 b hb).trans e) f0 f1 f3 f4 f5
  obtain⟨o,e,c,d⟩:=id st'
  exact⟨u,rfl,EU (s:={s with heap:=h'}) e c d (by decide) ⟨x,H,I1,ru,⟨rfl,fun ys hy=>by rw[I.tuple_inj hy hq];exact hx⟩,st',fun b hb=>(hf b hb).1⟩⟩
 done:=by
  intro X hP hw hK hc i pins s σ H E I hf st hg
  subst hP hw hK
  obtain⟨xs,hq,hx⟩:=hg
  obtain⟨its,rv,p,hz⟩:=I.tuple hq
  obtain⟨f0,f1,f2,f3,f4,f5⟩:=hf it (by simp)
  have hl:=rv.length
  exact wpAny_pyNext_tuple_end (I.ok.hd hc) st (show s.heap.IsTuple a its.toArray from p) (by simp;omega) fun h' eb=>⟨rfl,I.turned (t':=s.toks) (fun b o hb e=>eb b o hb e) f0 f1 f3 f4 f5⟩
 self:=fun _ _ _ _ _ st h=>wpAny_pyIter_tupleiter st h
def Bs{P:Program}{w:World}{K:PySem.W.Frag}{tg:Expr}(it:Addr)(lo:Int)(n:Nat):Turn P w K tg (Mv lo n) [it] it (fun i h=>IsRangeIter h it (lo+(i:Nat)*1) ((n:Int)-(i:Nat)) 1) where
 mem:=by simp
 obj:=fun i h st b hb=>by
  have e:b=it:=by simpa using hb
  subst e
  exact⟨_,st,fun v z=>by
   have z':Data.fields _=Data.cell v:=z
   cases z'⟩
 keep:=fun i h h' st k=>k it (by simp) _ st
 item:=by
  intro X hP hw hK hc i pins s σ H E I hf st hg
  subst hP hw hK
  obtain⟨f0,f1,f2,f3,f4,f5⟩:=hf it (by simp)
  have W:=Walks.range (prog:=X.prog) (w:=X.w) (I.ok.hd hc) it lo 1 n
  refine W.item i s _ _ hg st fun v h' tk hv st' kk=> ?_
  obtain⟨t,rfl⟩:=hv
  have I1:Inv X pins σ H {s with heap:=h',toks:=tk}:=I.turned (fun b o hb e=>kk b o (by simpa using hb) e) f0 f1 f3 f4 f5
  refine⟨_,rfl,EU (s:={s with heap:=h',toks:=tk}) (n:="range_iterator") st' rfl rfl (by decide) ⟨.int (lo+i),H,I1,⟨t,?_⟩,⟨rfl,rfl⟩,st',fun b hb=>(hf b hb).1⟩⟩
  rw[Int.mul_one]
 done:=by
  intro X hP hw hK hc i pins s σ H E I hf st hg
  subst hP hw hK
  obtain⟨f0,f1,f2,f3,f4,f5⟩:=hf it (by simp)
  exact wpAny_pyNext_range_end (I.ok.hd hc) st (by have:n<=i:=hg;omega) fun h' eb=>⟨rfl,I.turned (t':=s.toks) (fun b o hb e=>eb b o hb e) f0 f1 f3 f4 f5⟩
 self:=fun _ _ _ _ _ st h=>wpAny_pyIter_rangeiter st h
section
variable{X:Cx}{tg:Expr}
def EZ{pins:List (Addr×Obj)}{σ:St}{H:Hp}{s:Shared}{R:It->Hp->Prop}{E:Value->Shared->Prop}{lo hi:Int}{t u v:Tok}{tk:Nat}(I:Inv X pins σ H s)(h1: -(2^62)<=lo)(h2:lo<2^62)(h3: -(2^62)<=hi)(h4:hi<2^62)
  (q:R (Mv lo (hi-lo).toNat) H):wpAny (model X.prog X.w) X.A (pyIter (.ref s.heap.objs.size)) (Nq X pins σ tg R) E {s with heap:=s.heap.push {cls:=.type "range",data:=.fields #[.int lo t,.int hi u,.int 1 v]},toks:=tk}:=by
 refine wpAny_pyIter_range (IsRange.new ..) (small_one h1 h2 h3 h4) ?_
 have I1:Inv X pins σ H {s with heap:=s.heap.push {cls:=.type "range",data:=.fields #[.int lo t,.int hi u,.int 1 v]},toks:=tk}:=I.kept fun b o e=>Qcq _ e
 refine⟨(s.heap.push {cls:=.type "range",data:=.fields #[.int lo t,.int hi u,.int 1 v]}).objs.size,[(s.heap.push {cls:=.type "range",data:=.fields #[.int lo t,.int hi u,.int 1 v]}).objs.size],_,_,H,rfl,
  I1.kept (t':=tk) fun b o e=>Qcq _ e,Bs _ lo (hi-lo).toNat,?_,fun b hb=> ?_,q⟩
 ·have e1:lo+((0:Nat):Int)*1=lo:=by simp
  have e2:(((hi-lo).toNat:Nat):Int)-((0:Nat):Int)=Builtin.Range.rangeSize lo hi 1:=by rw[rangeSize_one];split <;>omega
  show IsRangeIter _ _ (lo+((0:Nat):Int)*1) ((((hi-lo).toNat:Nat):Int)-((0:Nat):Int)) 1
  rw[e1,e2]
  exact Qrq _ rfl
 ·have e:b=(s.heap.push {cls:=.type "range",data:=.fields #[.int lo t,.int hi u,.int 1 v]}).objs.size:=by simpa using hb
  subst e
  exact I1.fpOk (Qmq _) (I1.hok.fresh (Qmq _))
def L7(ta:TA):TI:=fun σ H R=>ta σ H fun vs H1=>∃j:Int,vs= [.int j]/\ -(2^62)<=j/\j<2^62/\R (Mv 0 j.toNat) H1
def DK{a:Expr}{ta:TA}{p pos:Pos}(hg:Gl X "range")(hm:X.mg "range"=none)(ha:PA X [a] ta)(hs:starEach [a] X.env= [(false,eval a X.env)]:=by rfl):PI X tg (.Call (.Name "range" p) [a] [] pos) (L7 ta):=by
 intro pins s σ H R I h
 refine Call_ (nc I hg hm boot_range (PyProof.Rows.callWith_type1 (di (ha pos pins s σ H _ I h) fun us s1 ⟨vs,H1,I1,r1,q1⟩=> ?_) hs rfl))
 obtain⟨j,e,q1,q2,q⟩:=q1
 subst e
 cases r1 with
 | cons r rr=>
   cases rr
   obtain⟨t,rfl⟩:=r
   exact call_range_1 (EZ I1 (by omega) (by omega) q1 q2 (by simpa using q))
def M9(wi:TI)(g:TG)(tb:TS):TS:=fun D σ H=>wi σ H fun J H1=>∃W:Nat->Nat->St->Hp->Prop,(∃m,W 0 m σ H1)/\∀i m σ H,W i m σ H→
 (J.stop i H/\D.nx σ H)\/(J.go i H/\∃N:St->Hp->Prop,(∀σ' H',N σ' H'->∃m',m'<m/\W (i+1) m' σ' H')/\∀x H',J.yld i H x H'->g x σ H' fun σ2 H2=>tb {D with nx:=N,ct:=N,bk:=D.nx} σ2 H2)
def nR(fp:List Addr)(h:Heap):List (Addr×Obj):=fp.filterMap fun b=>(h.get? b).map fun o=>(b,o)
def dZ{fp:List Addr}{h:Heap}{b:Addr}{o:Obj}(hb:b∈fp)(e:h.get? b=some o):(b,o)∈nR fp h:=List.mem_filterMap.mpr ⟨b,hb,by rw[e];rfl⟩
def D3{fp:List Addr}{h:Heap}{p:Addr×Obj}(hp:p∈nR fp h):p.1∈fp/\h.get? p.1=some p.2:=by
 obtain⟨b,hb,e⟩:=List.mem_filterMap.mp hp
 cases q:h.get? b with
 |none=>rw[q] at e;cases e
 | some o=>
   rw[q] at e
   have e':(b,o)=p:=Option.some.inj e
   subst e'
   exact⟨hb,q⟩
def Inv.pinned{pins:List (Addr×Obj)}{σ:St}{H:Hp}{s:Shared}{fp:List Addr}(I:Inv X pins σ H s)(hf:∀b∈fp,qv X pins H b)(ho:∀b∈fp,∃o,s.heap.get? b=some o/\∀v,o.data≠.cell v):Inv X (pins++nR fp s.heap) σ H s:=
 I.pins_of fun p hp=>(mQa.mp hp).elim (fun z=>I.pin p (Qoq _ z)) fun z=>by
  obtain⟨hb,e⟩:=D3 z
  obtain⟨f0,f1,f2,_⟩:=hf p.1 hb
  obtain⟨o,e',d⟩:=ho p.1 hb
  rw[e] at e';cases e'
  exact⟨e,f0,f1,f2,d⟩
def Inv.unpinned{pins pl:List (Addr×Obj)}{σ:St}{H:Hp}{s:Shared}(I:Inv X (pins++pl) σ H s):Inv X pins σ H s:=I.pins_of fun p hp=>I.pin p (Qoq _ (List.mem_append_left _ hp))
def Jj{iter:Expr}{body:List Stmt}{wi:TI}{g:TG}{tb:TS}{pos:Pos}(hp:PassesOwn (model X.prog X.w) X.A X.env X.xe)(hc:X.calm=true)(hi:PI X tg iter wi)(hg:PG X tg g)(hb:sk X body tb)
  (hs:∀x,foldedSetIterable iter X.env x=pure x:=by intro _;rfl):PS X (.For tg iter body [] pos) (M9 wi g tb):=by
 intro pins s σ H D I h
 refine wpAny_For (di (hi pins s σ H _ I h) fun v s1 h1=>di h1 fun itv s2 h2=> ?_) hs
 obtain⟨it,fp,tn,J,H2,e,I2,T,st2,f2,W,⟨m0,w0⟩,turn⟩:=h2
 subst e
 have stat:∀{H':Hp},(∀b∈fp,H' b=none)->∀b∈fp,qv X pins H' b:=fun hn b hb=>⟨hn b hb,(f2 b hb).2⟩
 refine codeAny_forLoop_any (fun n s'=>∃i σ' H',Inv X pins σ' H' s'/\tn i s'.heap/\(∀b∈fp,H' b=none)/\W i n σ' H') ?_ m0 ⟨0,σ,H2,I2,st2,fun b hb=>(f2 b hb).1,w0⟩
 rintro n s3 ⟨i,σ3,H3,I3,st3,fr3,w3⟩
 rcases turn i n σ3 H3 w3 with⟨stop,qn⟩|⟨go,N,hN,step⟩
 ·refine wpAny_passesOwn hp (di (T.done X rfl rfl rfl hc i pins s3 σ3 H3 X.xe I3 (stat fr3) st3 stop) fun r s4 qr=> ?_)
  obtain⟨hr,I4⟩:=qr
  subst hr
  exact wpAny_execs_nil ⟨σ3,H3,I4,qn⟩
 ·refine wpAny_passesOwn hp (di (T.item X rfl rfl rfl hc i pins s3 σ3 H3 X.xe I3 (stat fr3) st3 go) fun r s4 qr=> ?_)
  obtain⟨u,hr,h4⟩:=qr
  subst hr
  refine wpAny_passesOwn hp (di h4 fun _ s5 qr=> ?_)
  obtain⟨x,H5,I5,r5,y5,st5,fr5⟩:=qr
  have I5':=I5.pinned (stat fr5) (T.obj _ _ st5)
  refine wpAny_passesOwn hp (di (hg _ s5 σ3 H5 x u _ I5' r5 (step x H5 y5)) fun _ s6 qr=> ?_)
  obtain⟨σ6,H6,I6,q6⟩:=qr
  refine wpAny_passesOwn hp (di (hb _ s6 σ6 H6 _ I6 q6) fun f s7 q7=> ?_)
  have again:∀{σ7:St} {H7:Hp},Inv X (pins++nR fp s5.heap) σ7 H7 s7->N σ7 H7->∃m,m<n/\∃i σ' H',Inv X pins σ' H' s7/\tn i s7.heap/\(∀b∈fp,H' b=none)/\W i m σ' H':=fun{σ7 H7} I7 n7=>by
   obtain⟨m',hm,w7⟩:=hN σ7 H7 n7
   refine⟨m',hm,i+1,σ7,H7,I7.unpinned,T.keep _ _ _ st5 fun b hb o e=>(I7.pin (b,o) (Qoq _ (Qoq _ (dZ hb e)))).1,fun b hb=> ?_,w7⟩
   obtain⟨o,e,d⟩:=T.obj _ _ st5 b hb
   exact(I7.pin (b,o) (Qoq _ (Qoq _ (dZ hb e)))).2.1
  cases f with
  |next=>obtain⟨σ7,H7,I7,n7⟩:=q7;exact again I7 n7
  |cont=>obtain⟨σ7,H7,I7,n7⟩:=q7;exact again I7 n7
  |brk=>obtain⟨σ7,H7,I7,q7⟩:=q7;exact⟨σ7,H7,I7.unpinned,q7⟩
  |ret v=>obtain⟨x7,σ7,H7,I7,r7,q7⟩:=q7;exact⟨x7,σ7,H7,I7.unpinned,r7,q7⟩
end
abbrev R2:=V->V->Hp->VK->Prop
def jf(X:Cx)(f:Value->Value->Sem Value)(r:R2):Prop:=
 ∀ (pins:List (Addr×Obj)) (s:Shared) (σ:St) (H:Hp) (x y:V) (v u:Value) (Q:VK),Inv X pins σ H s->RelV x v->RelV y u->r x y H Q→
   wpAny (model X.prog X.w) X.A (f v u) (EP X pins σ Q) X.xe s
def MT(X:Cx)(f:Value->Sem Value)(r:V->Hp->VK->Prop):Prop:=
 ∀ (pins:List (Addr×Obj)) (s:Shared) (σ:St) (H:Hp) (x:V) (v:Value) (Q:VK),Inv X pins σ H s->RelV x v->r x H Q→
   wpAny (model X.prog X.w) X.A (f v) (EP X pins σ Q) X.xe s
def i4(X:Cx)(f:Value)(r:List V->Hp->VK->Prop):Prop:=
 ∀ (pins:List (Addr×Obj)) (s:Shared) (σ:St) (H:Hp) (xs:List V) (us:List Value) (Q:VK),Inv X pins σ H s->bM xs us->r xs H Q→
   wpAny (model X.prog X.w) X.A (call f us) (EP X pins σ Q) X.xe s
def M1(X:Cx)(r:V->Hp->(Bool->Hp->Prop)->Prop):Prop:=
 ∀ (pins:List (Addr×Obj)) (s:Shared) (σ:St) (H:Hp) (x:V) (v:Value) (Q:Bool->Hp->Prop),Inv X pins σ H s->RelV x v->r x H Q→
   wpAny (model X.prog X.w) X.A (truthy v) (TP X pins σ Q) X.xe s
def GO(r:R2)(ta tb:TE):TE:=fun σ H Q=>ta σ H fun x H1=>tb σ H1 fun y H2=>r x y H2 Q
def NI(r:V->Hp->VK->Prop)(ta:TE):TE:=fun σ H Q=>ta σ H fun x H1=>r x H1 Q
def rI(C:Int->Int->Prop)(g:Int->Int->V):R2:=fun x y H Q=>∃i j,x=.int i/\y=.int j/\C i j/\Q (g i j) H
def D2(g:Int->Int->V):R2:=fun x y H Q=>∃i j,x=.int i/\y=.int j/\Q (g i j) H
def rU(g:Int->V):V->Hp->VK->Prop:=fun x H Q=>∃i,x=.int i/\Q (g i) H
section
variable{X:Cx}{a b c:Expr}{ta tb tc:TE}{pos:Pos}
def KC(ha:PE X a ta)(hb:PE X b tb){pins:List (Addr×Obj)}{s:Shared}{σ:St}{H:Hp}{R:V->V->Hp->Prop}(I:Inv X pins σ H s)
  (h:ta σ H fun x H1=>tb σ H1 fun y H2=>R x y H2) {Q:Value->Shared->Prop} {f:Value->Value->Sem Value}
  (hf:∀v u s2 x y H2,Inv X pins σ H2 s2->RelV x v->RelV y u->R x y H2->wpAny (model X.prog X.w) X.A (f v u) Q X.xe s2):
  wpAny (model X.prog X.w) X.A (eval a X.env) (fun v s₁=>wpAny (model X.prog X.w) X.A (eval b X.env) (fun u s₂=>wpAny (model X.prog X.w) X.A (f v u) Q X.xe s₂) X.xe s₁) X.xe s:=by
 refine di (ha pins s σ H _ I h) fun v s1 qr=> ?_
 obtain⟨x,H1,I1,r1,q1⟩:=qr
 refine di (hb pins s1 σ H1 _ I1 q1) fun u s2 qr=> ?_
 obtain⟨y,H2,I2,r2,q2⟩:=qr
 exact hf v u s2 x y H2 I2 r1 r2 q2
def qM{op:Operator}{r:R2}(ho:jf X (binaryOp op) r)(ha:PE X a ta)(hb:PE X b tb):PE X (.BinOp a op b pos) (GO r ta tb):=by
 intro pins s σ H Q I h
 exact wpAny_BinOp (KC ha hb I h fun v u s2 x y H2 I2 rx ry q=>ho pins s2 σ H2 x y v u Q I2 rx ry q)
def L8{op:UnaryOp}{r:V->Hp->VK->Prop}(ho:MT X (unaryOp op) r)(ha:PE X a ta):PE X (.UnaryOp op a pos) (NI r ta):=by
 intro pins s σ H Q I h
 exact UnaryOp_ (di (ha pins s σ H _ I h) fun v s1 ⟨x,H1,I1,r1,q1⟩=>ho pins s1 σ H1 x v Q I1 r1 q1)
def Mq{f:Value->Value->Sem Value}{C:Int->Int->Prop}{g:Int->Int->Int}
  (rule:∀(i j:Int) (t u:Tok) (s:Shared) (Q:Value->Shared->Prop) (E:Value->Shared->Prop),C i j->Q (.int (g i j) s.toks) {s with toks:=s.toks+1}->wpAny (model X.prog X.w) X.A (f (.int i t) (.int j u)) Q E s):
  jf X f (rI C fun i j=>.int (g i j)):=by
 intro pins s σ H x y v u Q I rx ry h
 obtain⟨i,j,rfl,rfl,hc,q⟩:=h
 obtain⟨t,rfl⟩:=rx
 obtain⟨t',rfl⟩:=ry
 exact rule i j t t' s _ _ hc ⟨.int (g i j),H,I.tok _,⟨_,rfl⟩,q⟩
def KL{f:Value->Value->Sem Value}{g:Int->Int->Int}
  (rule:∀(i j:Int) (t u:Tok) (s:Shared) (Q:Value->Shared->Prop) (E:Value->Shared->Prop),Q (.int (g i j) s.toks) {s with toks:=s.toks+1}->wpAny (model X.prog X.w) X.A (f (.int i t) (.int j u)) Q E s):
  jf X f (D2 fun i j=>.int (g i j)):=by
 intro pins s σ H x y v u Q I rx ry h
 obtain⟨i,j,rfl,rfl,q⟩:=h
 obtain⟨t,rfl⟩:=rx
 obtain⟨t',rfl⟩:=ry
 exact rule i j t t' s _ _ ⟨.int (g i j),H,I.tok _,⟨_,rfl⟩,q⟩
def HP{f:Value->Value->Sem Value}{g:Int->Int->Bool}
  (rule:∀(i j:Int) (t u:Tok) (s:Shared) (Q:Value->Shared->Prop) (E:Value->Shared->Prop),Q (.bool (g i j)) s->wpAny (model X.prog X.w) X.A (f (.int i t) (.int j u)) Q E s):
  jf X f (D2 fun i j=>.bl (g i j)):=by
 intro pins s σ H x y v u Q I rx ry h
 obtain⟨i,j,rfl,rfl,q⟩:=h
 obtain⟨t,rfl⟩:=rx
 obtain⟨t',rfl⟩:=ry
 exact rule i j t t' s _ _ ⟨.bl (g i j),H,I,rfl,q⟩
def Gm(i j:Int):Prop:=0<j/\j<1073741824
def Ge(i j:Int):Prop:=0<=j/\j<=1000000/\i.natAbs<2^64
def Ig(i j:Int):Prop:=(-(2^64)<i/\i<2^64)\/(-(2^64)<j/\j<2^64)
def Ig.ok{i j:Int}(h:Ig i j):IntMulOk i j:=by
 rcases h with⟨h1,h2⟩|⟨h1,h2⟩
 ·exact .of_left (intBits_le_64 h1 h2)
 ·exact .of_right (intBits_le_64 h1 h2)
def Jx:jf X (binaryOp .Add) (D2 fun i j=>.int (i+j)):=KL fun _ _ _ _ _ _ _ q=>add_int q
def Jr:jf X (binaryOp .Sub) (D2 fun i j=>.int (i-j)):=KL fun _ _ _ _ _ _ _ q=>sub_int q
def GX:jf X (binaryOp .FloorDiv) (rI Gm fun i j=>.int (i/j)):=Mq fun i j _ _ _ _ _ hc q=>by
 have h1:(0:Int)<j:=hc.1
 have h2:j<1073741824:=hc.2
 exact floordiv_int (by omega) (by rw[Int.fdiv_eq_ediv_of_nonneg i (by omega)];exact q) (.inl (PyProof.noPylong_small (by omega)))
def Jg:jf X (binaryOp .Mod) (rI (fun _ j=>0<j) fun i j=>.int (i%j)):=Mq fun i j _ _ _ _ _ hc q=>by
 have h1:(0:Int)<j:=hc
 exact mod_int' (by omega) (by rw[Int.fmod_eq_emod_of_nonneg i (by omega)];exact q)
def JT:jf X (binaryOp .Pow) (rI Ge fun i j=>.int (i^j.toNat)):=Mq fun _ _ _ _ _ _ _ hc q=>pow_int_small hc.1 hc.2.1 hc.2.2 q
def NJ{f:Value->Sem Value}{g:Int->Int}
  (rule:∀(i:Int) (t:Tok) (s:Shared) (Q:Value->Shared->Prop) (E:Value->Shared->Prop),Q (.int (g i) s.toks) {s with toks:=s.toks+1}->wpAny (model X.prog X.w) X.A (f (.int i t)) Q E s):
  MT X f (rU fun i=>.int (g i)):=by
 intro pins s σ H x v Q I rx h
 obtain⟨i,rfl,q⟩:=h
 obtain⟨t,rfl⟩:=rx
 exact rule i t s _ _ ⟨.int (g i),H,I.tok _,⟨_,rfl⟩,q⟩
def I0:MT X (unaryOp .USub) (rU fun i=>.int (-i)):=NJ fun _ _ _ _ _ q=>neg_int q
end
noncomputable def yL:V->V->Bool
 |.non,.non=>true|.non,.int _=>true|.int _,.non=>true|.non,.bl _=>true|.bl _,.non=>true|.non,.str _=>true|.str _,.non=>true
 |.int _,.int _=>true|.bl _,.bl _=>true|.str _,.str _=>true|.byt _,.byt _=>true
 |.int _,.str _=>true|.str _,.int _=>true|.bl _,.str _=>true|.str _,.bl _=>true
 |_,_=>false
def MR:R2:=fun x y H Q=>yL x y=true/\Q (.bl (decide (x=y))) H
def MJ:R2:=fun x y H Q=>yL x y=true/\Q (.bl (!decide (x=y))) H
def CH{i j:Int}:decide (V.int i=V.int j)=(i==j):=by
 rw[Bool.eq_iff_iff]
 simp
def FR{i j:Bool}:decide (V.bl i=V.bl j)=(i==j):=by
 rw[Bool.eq_iff_iff]
 simp
def C1{i j:Str}:decide (V.str i=V.str j)=(i==j):=by
 rw[Bool.eq_iff_iff]
 simp
def B4{i j:Array UInt8}:decide (V.byt i=V.byt j)=(i.toList==j.toList):=by
 rw[Bool.eq_iff_iff]
 cases i
 cases j
 simp
section
variable{X:Cx}{a b c:Expr}{ta tb tc:TE}{pos:Pos}
def cy{pins:List (Addr×Obj)}{σ:St}{H:Hp}{s:Shared}{Q:VK}{k k':Bool}(I:Inv X pins σ H s)(q:Q (.bl k) H)(e:k=k'):EP X pins σ Q (.bool k') s:=by
 subst e
 exact⟨.bl k,H,I,rfl,q⟩
def cI:jf X (compareOp .Eq) MR:=by
 intro pins s σ H x y v u Q I rx ry h
 obtain⟨hs,q⟩:=h
 cases x with
 | non=>
   cases rx
   cases y with
   |non=>cases ry;exact PySem.EqNone.eq_none_none (cy I q (by simp))
   |bl j=>cases ry;exact PySem.EqNone.eq_none_bool (cy I q (by simp))
   |int j=>obtain⟨t',rfl⟩:=ry;exact PySem.EqNone.eq_none_int (cy I q (by simp))
   |str j=>obtain⟨t',rfl⟩:=ry;exact PySem.EqNone.eq_none_str (cy I q (by simp))
   |_=>exact absurd (show false=true from hs) Qtq
 | bl i=>
   cases rx
   cases y with
   |non=>cases ry;exact PySem.EqNone.eq_bool_none (cy I q (by simp))
   |bl j=>cases ry;exact eq_bool (cy I q FR)
   |str j=>obtain⟨t',rfl⟩:=ry;exact PySem.EqMixed.eq_bool_str (cy I q (by simp))
   |_=>exact absurd (show false=true from hs) Qtq
 | int i=>
   obtain⟨t,rfl⟩:=rx
   cases y with
   |non=>cases ry;exact PySem.EqNone.eq_int_none (cy I q (by simp))
   |int j=>obtain⟨t',rfl⟩:=ry;exact eq_int (cy I q CH)
   |str j=>obtain⟨t',rfl⟩:=ry;exact PySem.EqMixed.eq_int_str (cy I q (by simp))
   |_=>exact absurd (show false=true from hs) Qtq
 | str i=>
   obtain⟨t,rfl⟩:=rx
   cases y with
   |non=>cases ry;exact PySem.EqNone.eq_str_none (cy I q (by simp))
   |bl j=>cases ry;exact PySem.EqMixed.eq_str_bool (cy I q (by simp))
   |int j=>obtain⟨t',rfl⟩:=ry;exact PySem.EqMixed.eq_str_int (cy I q (by simp))
   |str j=>obtain⟨t',rfl⟩:=ry;exact eq_str (cy I q C1)
   |_=>exact absurd (show false=true from hs) Qtq
 | byt i=>
   obtain⟨t,rfl⟩:=rx
   cases y with
   |byt j=>obtain⟨t',rfl⟩:=ry;exact PySem.W.eq_bytes (cy I q B4)
   |_=>exact absurd (show false=true from hs) Qtq
 |_=>cases y <;>exact absurd (show false=true from hs) Qtq
def wC:jf X (compareOp .NotEq) MJ:=by
 intro pins s σ H x y v u Q I rx ry h
 obtain⟨hs,q⟩:=h
 cases x with
 | non=>
   cases rx
   cases y with
   |non=>cases ry;exact PySem.EqNone.ne_none_none (cy I q (by simp))
   |bl j=>cases ry;exact PySem.EqNone.ne_none_bool (cy I q (by simp))
   |int j=>obtain⟨t',rfl⟩:=ry;exact PySem.EqNone.ne_none_int (cy I q (by simp))
   |str j=>obtain⟨t',rfl⟩:=ry;exact PySem.EqNone.ne_none_str (cy I q (by simp))
   |_=>exact absurd (show false=true from hs) Qtq
 | bl i=>
   cases rx
   cases y with
   |non=>cases ry;exact PySem.EqNone.ne_bool_none (cy I q (by simp))
   |bl j=>cases ry;exact ne_bool (cy I q (congrArg not FR))
   |str j=>obtain⟨t',rfl⟩:=ry;exact PySem.EqMixed.ne_bool_str (cy I q (by simp))
   |_=>exact absurd (show false=true from hs) Qtq
 | int i=>
   obtain⟨t,rfl⟩:=rx
   cases y with
   |non=>cases ry;exact PySem.EqNone.ne_int_none (cy I q (by simp))
   |int j=>obtain⟨t',rfl⟩:=ry;exact ne_int (cy I q (congrArg not CH))
   |str j=>obtain⟨t',rfl⟩:=ry;exact PySem.EqMixed.ne_int_str (cy I q (by simp))
   |_=>exact absurd (show false=true from hs) Qtq
 | str i=>
   obtain⟨t,rfl⟩:=rx
   cases y with
   |non=>cases ry;exact PySem.EqNone.ne_str_none (cy I q (by simp))
   |bl j=>cases ry;exact PySem.EqMixed.ne_str_bool (cy I q (by simp))
   |int j=>obtain⟨t',rfl⟩:=ry;exact PySem.EqMixed.ne_str_int (cy I q (by simp))
   |str j=>obtain⟨t',rfl⟩:=ry;exact ne_str (cy I q (congrArg not C1))
   |_=>exact absurd (show false=true from hs) Qtq
 | byt i=>
   obtain⟨t,rfl⟩:=rx
   cases y with
   |byt j=>obtain⟨t',rfl⟩:=ry;exact PySem.W.ne_bytes (cy I q (congrArg not B4))
   |_=>exact absurd (show false=true from hs) Qtq
 |_=>cases y <;>exact absurd (show false=true from hs) Qtq
def mf:jf X (compareOp .Lt) (D2 fun i j=>.bl (decide (i<j))):=HP fun _ _ _ _ _ _ _ q=>lt_int q
def Ax:jf X (compareOp .LtE) (D2 fun i j=>.bl (decide (i<=j))):=HP fun _ _ _ _ _ _ _ q=>le_int q
def wV:jf X (compareOp .Gt) (D2 fun i j=>.bl (decide (j<i))):=HP fun _ _ _ _ _ _ _ q=>gt_int q
def IR:jf X (compareOp .GtE) (D2 fun i j=>.bl (decide (j<=i))):=HP fun _ _ _ _ _ _ _ q=>ge_int q
def Jv:jf X (compareOp .Is) (fun x y H Q=>y=.non/\Q (.bl (decide (x=.non))) H):=by
 intro pins s σ H x y v u Q I rx ry h
 obtain⟨rfl,q⟩:=h
 cases ry
 refine is_none_gen (cy I q ?_)
 cases x <;>first
  |(cases rx;rfl)
  |(obtain⟨t,rfl⟩:=rx;rfl)
def HS:jf X (compareOp .IsNot) (fun x y H Q=>y=.non/\Q (.bl (!decide (x=.non))) H):=by
 intro pins s σ H x y v u Q I rx ry h
 obtain⟨rfl,q⟩:=h
 cases ry
 refine isnot_none_gen (cy I q ?_)
 cases x <;>first
  |(cases rx;rfl)
  |(obtain⟨t,rfl⟩:=rx;rfl)
def jf.or{f:Value->Value->Sem Value}{r r':R2}(h:jf X f r)(h':jf X f r'):jf X f (fun x y H Q=>r x y H Q\/r' x y H Q):=by
 intro pins s σ H x y v u Q I rx ry q
 rcases q with q|q
 ·exact h pins s σ H x y v u Q I rx ry q
 ·exact h' pins s σ H x y v u Q I rx ry q
def aR(b:Expr){op:CmpOp}(h:op≠.In:=by decide)(h2:op≠.NotIn:=by decide):behindInMarks op b=false:=by
 have e1:(op==CmpOp.In)=false:=by cases op <;>first|rfl|exact absurd rfl h
 have e2:(op==CmpOp.NotIn)=false:=by cases op <;>first|rfl|exact absurd rfl h2
 cases b <;>simp[behindInMarks,e1,e2]
def HA{op:CmpOp}{r:R2}(ho:jf X (compareOp op) r)(ha:PE X a ta)(hb:PE X b tb)(hm:behindInMarks op b=false):PE X (.Compare a [op] [b] pos) (GO r ta tb):=by
 intro pins s σ H Q I h
 exact wpAny_Compare1 (KC ha hb I h fun v u s2 x y H2 I2 rx ry q=>ho pins s2 σ H2 x y v u Q I2 rx ry q) hm
def GF(t:TE):TT:=fun σ H Q=>t σ H fun x H'=>∃k,x=.bl k/\Q k H'
def mv{op:CmpOp}{r:R2}(ho:jf X (compareOp op) r)(ha:PE X a ta)(hb:PE X b tb)(hm:behindInMarks op b=false):PT X (.Compare a [op] [b] pos) (GF (GO r ta tb)):=by
 intro pins s σ H Q I h
 refine wpAny_isTrue_Compare1 (di (ha pins s σ H _ I h) fun v s1 ⟨x,H1,I1,r1,q1⟩=>di (hb pins s1 σ H1 _ I1 q1) fun u s2 ⟨y,H2,I2,r2,q2⟩=>
  di (ho pins s2 σ H2 x y v u _ I2 r1 r2 q2) fun c s3 ⟨z,H3,I3,r3,k,e,q3⟩=> ?_) hm
 subst e
 cases r3
 exact wpAny_truthy_bool ⟨H3,I3,q3⟩
def Fb(r r':R2)(ta tb tc:TE):TE:=fun σ H Q=>ta σ H fun x H1=>tb σ H1 fun y H2=>r x y H2 fun z H3=>∃k,z=.bl k∧
 (if k=true then tc σ H3 fun w' H4=>r' y w' H4 Q else Q (.bl false) H3)
def FY{op op':CmpOp}{r r':R2}(ho:jf X (compareOp op) r)(ho':jf X (compareOp op') r')(ha:PE X a ta)(hb:PE X b tb)(hc:PE X c tc)
  (hm:lastMarks [op,op'] [b,c]=false:=by with_unfolding_all rfl):PE X (.Compare a [op,op'] [b,c] pos) (Fb r r' ta tb tc):=by
 intro pins s σ H Q I h
 refine Compare_chain (di (ha pins s σ H _ I h) fun v s1 ⟨x,H1,I1,r1,q1⟩=>chain_link (di (hb pins s1 σ H1 _ I1 q1) fun u s2 ⟨y,H2,I2,r2,q2⟩=>
  di (ho pins s2 σ H2 x y v u _ I2 r1 r2 q2) fun d s3 ⟨z,H3,I3,r3,k,e,q3⟩=> ?_)) hm
 subst e
 cases r3
 refine wpAny_truthy_bool ?_
 cases k with
 |false=>exact ite_ff ⟨.bl false,H3,I3,rfl,q3⟩
 |true=>exact ite_tt (chain_last (di (hc pins s3 σ H3 _ I3 q3) fun w' s4 ⟨z',H4,I4,r4,q4⟩=>ho' pins s4 σ H4 y z' u w' Q I4 r2 r4 q4))
def JR(K:PySem.W.Frag)(x:V)(H:Hp)(k:Bool):Prop:=
 match x with
 |.non=>k=false
 |.bl b=>k=b
 |.int i=>k=(i !=0)
 |.str y=>y.length<=sizeLine/\k=((y.length:Int) !=0)
 |.byt y=>y.size<=sizeLine/\k=((y.size:Int) !=0)
 |.ref p=>(∃xs,iK K H p xs/\k= !xs.isEmpty)\/(∃xs,hZ K H p xs/\k= !xs.isEmpty)\/∃kvs,H p=some (.dK kvs)/\k= !kvs.isEmpty
 |_=>False
def BZ{κ:Type}{kvs:List (κ×V)}{vs:List (κ×Value)}(r:KV kvs vs):(!vs.isEmpty)= !kvs.isEmpty:=by
 cases r <;>rfl
def sZ{xs:List V}{its:List Value}(r:bM xs its):(!its.toArray.isEmpty)= !xs.isEmpty:=by
 cases r <;>simp
def mi:(sizeLine:Nat)<2^63:=by rw[sizeLine_eq];decide
def J7:M1 X (fun x H Q=>∃k,JR X.K x H k/\Q k H):=by
 intro pins s σ H x v Q I rx h
 obtain⟨k,e,q⟩:=h
 have hl:=mi
 have hs:sizeLine=16777216:=sizeLine_eq
 cases x with
 | non=>
   cases rx
   have e':k=false:=e
   subst e'
   exact truthy_none ⟨H,I,q⟩
 | bl b=>
   cases rx
   have e':k=b:=e
   subst e'
   exact wpAny_truthy_bool ⟨H,I,q⟩
 | int i=>
   obtain⟨t,rfl⟩:=rx
   have e':k=(i !=0):=e
   subst e'
   exact PySem.P.truthy_int ⟨H,I,q⟩
 | str y=>
   obtain⟨t,rfl⟩:=rx
   obtain⟨hy,e'⟩:y.length<=sizeLine/\k=((y.length:Int) !=0):=e
   subst e'
   exact PySem.P.truthy_str (by omega) ⟨H,I.tok _,q⟩
 | byt y=>
   obtain⟨t,rfl⟩:=rx
   obtain⟨hy,e'⟩:y.size<=sizeLine/\k=((y.size:Int) !=0):=e
   subst e'
   exact PySem.W.truthy_bytes (by omega) ⟨H,I.tok _,q⟩
 | ref p=>
   cases rx
   have e':(∃xs,iK X.K H p xs/\k= !xs.isEmpty)\/(∃xs,hZ X.K H p xs/\k= !xs.isEmpty)\/∃kvs,H p=some (.dK kvs)/\k= !kvs.isEmpty:=e
   rcases e' with⟨xs,hx,e'⟩|⟨xs,hx,e'⟩|⟨kvs,hx,e'⟩
   · subst e'
     obtain⟨its,r,pl,hz⟩:=I.list hx
     have hlen:=r.length
     exact wpAny_truthy_list pl.isList (by simp only[Qjq];omega) ⟨H,I.tok _,by rw[sZ r];exact q⟩
   · subst e'
     obtain⟨its,r,pl,hz⟩:=I.tuple hx
     have hlen:=r.length
     exact truthy_tuple pl (by simp only[Qjq];omega) ⟨H,I.tok _,by rw[sZ r];exact q⟩
   · subst e'
     obtain⟨hz,hS,vs,r,m⟩:kvs.length<=sizeLine/\(p==sysModules)=false/\∃vs,KV kvs vs/\s.heap.DictOf (cq X.prog X.w) p vs:=I.hok p _ hx
     have hlen:kvs.length=vs.length:=Paired.length r
     exact wpAny_truthy_dict hS m (by omega) ⟨H,I.tok _,by rw[BZ r];exact q⟩
 |_=>exact(show False from e).elim
def Fl(ha:PE X a ta)(he:∀whole,isTrue a X.env whole=(do let v←whole;standAt a.pos;holding [v] (truthy v))):
  PT X a (fun σ H Q=>ta σ H fun x H'=>∃k,JR X.K x H' k/\Q k H'):=by
 intro pins s σ H Q I h
 exact isTrue_plain (di (ha pins s σ H _ I h) fun v s1 ⟨x,H1,I1,r1,q1⟩=>J7 pins s1 σ H1 x v Q I1 r1 q1) (he _)
def BF:jf X (binaryOp .Add) (fun x y H Q=>∃i j,x=.str i/\y=.str j/\i.length+j.length<=sizeLine/\Q (.str (i++j)) H):=by
 intro pins s σ H x y v u Q I rx ry h
 obtain⟨i,j,rfl,rfl,hz,q⟩:=h
 obtain⟨t,rfl⟩:=rx
 obtain⟨t',rfl⟩:=ry
 exact add_str (fun t' tk=>⟨.str (i++j),H,I.tok _,⟨_,rfl⟩,q⟩) hz
def vals1{x:V}{us:List Value}(r:bM [x] us):∃u,us= [u]/\RelV x u:=by
 cases r with
 |cons r1 r2=>cases r2;exact⟨_,rfl,r1⟩
def vals2{x y:V}{us:List Value}(r:bM [x,y] us):∃u w',us= [u,w']/\RelV x u/\RelV y w':=by
 cases r with
 | cons r1 r2=>
   cases r2 with
   |cons r3 r4=>cases r4;exact⟨_,_,rfl,r1,r3⟩
def FM:i4 X (.builtin "abs") (fun xs H Q=>∃i,xs= [.int i]/\Q (.int (if i<0 then -i else i)) H):=by
 intro pins s σ H xs us Q I r h
 obtain⟨i,rfl,q⟩:=h
 obtain⟨u,rfl,t,rfl⟩:=vals1 r
 exact call_abs_int fun u tk=>⟨.int (if i<0 then -i else i),H,I.tok _,⟨_,rfl⟩,q⟩
def wL(hc:X.calm=true):i4 X (.builtin "max") (fun xs H Q=>∃i j,xs= [.int i,.int j]/\Q (.int (if j>i then j else i)) H):=by
 intro pins s σ H xs us Q I r h
 obtain⟨i,j,rfl,q⟩:=h
 obtain⟨u,w',rfl,⟨t,rfl⟩,⟨t',rfl⟩⟩:=vals2 r
 refine max_two_ints (I.ok.hd hc) fun h' tk k=>⟨_,H,I.kept k,?_,q⟩
 by_cases hj:j>i
 ·rw[Qhq hj,Qhq hj];exact⟨_,rfl⟩
 ·rw[Quq hj,Quq hj];exact⟨_,rfl⟩
def pZ(hc:X.calm=true):i4 X (.builtin "min") (fun xs H Q=>∃i j,xs= [.int i,.int j]/\Q (.int (if j<i then j else i)) H):=by
 intro pins s σ H xs us Q I r h
 obtain⟨i,j,rfl,q⟩:=h
 obtain⟨u,w',rfl,⟨t,rfl⟩,⟨t',rfl⟩⟩:=vals2 r
 refine min_two_ints (I.ok.hd hc) fun h' tk k=>⟨_,H,I.kept k,?_,q⟩
 by_cases hj:j<i
 ·rw[Qhq hj,Qhq hj];exact⟨_,rfl⟩
 ·rw[Quq hj,Quq hj];exact⟨_,rfl⟩
def iL:i4 X (.type "int") (fun xs H Q=>(∃i,xs= [.int i]/\Q (.int i) H)\/∃k,xs= [.bl k]/\Q (.int (if k then 1 else 0)) H):=by
 intro pins s σ H xs us Q I r h
 rcases h with⟨i,rfl,q⟩|⟨k,rfl,q⟩
 ·obtain⟨u,rfl,t,rfl⟩:=vals1 r
  exact call_int_int ⟨.int i,H,I,⟨_,rfl⟩,q⟩
 ·obtain⟨u,rfl,r1⟩:=vals1 r
  cases r1
  exact call_int_bool ⟨.int (if k then 1 else 0),H,I.tok _,⟨_,rfl⟩,q⟩
end
structure JF(h:Heap)(x dx C:Addr)(mA:Str->Option Value):Prop where
 obj:h.get? x=some (PySem.W.instObj C dx)
 ns:h.Ns1 dx mA
 ne:dx≠x
def DX{h:Heap}{dx:Addr}{mA:Str->Option Value}(n:h.Ns1 dx mA):∃od,h.get? dx=some od/\∀name,PySem.W.lookIn name od=some (mA name):=by
 obtain⟨o,es,ep,ho,hd,hk,_,hm⟩:=n
 refine⟨o,ho,fun name=> ?_⟩
 have e:=hm name
 unfold nsFind findBy at e
 rw[←Array.find?_toList] at e
 unfold PySem.W.lookIn
 rw[hd]
 dsimp only
 split
 ·rename_i y q
  rw[q] at e
  exact congrArg some e
 ·rename_i q
  rw[q] at e
  have a:es.toList.any (·.refKey)=false:=by
   rw[List.any_eq_false]
   intro y hy
   obtain⟨z,t,hkey⟩:=hk y (Array.mem_toList_iff.mp hy)
   simp[DictEntry.refKey,hkey]
  have a':¬es.toList.any (·.refKey)=true:=by rw[a];exact Qtq
  rw[Quq a']
  exact congrArg some e
def JF.look{h:Heap}{x dx C:Addr}{mA:Str->Option Value}(I:JF h x dx C mA):∃od,PySem.W.InstAt h x (PySem.W.instObj C dx) C (some od)/\∀name,PySem.W.lookIn name od=some (mA name):=
 let ⟨od,ho,hl⟩:=DX I.ns
 ⟨od,⟨I.obj,rfl,rfl,ho⟩,hl⟩
def tX.some_of{v:V}{o:Option Value}(r:tX (some v) o):∃u,o=some u/\RelV v u:=by
 cases o with
 |none=>exact(show False from r).elim
 |some u=>exact⟨u,rfl,r⟩
section
variable{P:Program}{w:World}{H H':Hp}{h h':Heap}{a C dx:Addr}{fs fs':List (Str×V)}
def GR(hok:oh P w H h)(e:H a=some (.ins C dx fs)):∃mA,JF h a dx C mA/\(∀f,tX (fs.lookup f) (mA f))/\PySem.Within mA (fs.map (·.1))/\fs.length<=1000/\H dx=some (.own a):=by
 obtain⟨d,z,ne,ob,mA,n,r,q⟩:=(show dA P w H h a (.ins C dx fs) from hok a _ e)
 exact⟨mA,⟨ob,n,ne⟩,r,q,z,d⟩
end
structure Nb(K:PySem.W.Frag)(C:Addr):Prop where
 pg:PySem.W.plainGet K C Str.empty=true
 hd:PySem.W.hasDictIn K C=true
 po:PySem.W.plainOver K C=true
 sa:PySem.W.findIn K (.ref C) "__setattr__"=some (some (.builtin "object.__setattr__"))
def Nb.get{K:PySem.W.Frag}{C:Addr}(c:Nb K C)(f:Str):PySem.W.plainGet K C f=true:=c.pg
section
variable{X:Cx}{pins:List (Addr×Obj)}{σ:St}{H:Hp}{s:Shared}{A:Around}{E:Value->Shared->Prop}{Q:Value->Shared->Prop}{c:Value}{b:Bool}
inductive p6(K:PySem.W.Frag)(H:Hp):V->Value->Prop where
 |non:p6 K H .non (.type "NoneType")
 |bl (x:Bool):p6 K H (.bl x) (.type "bool")
 |int (i:Int):p6 K H (.int i) (.type "int")
 |str (x:Str):p6 K H (.str x) (.type "str")
 |flt (x:UInt64):p6 K H (.flt x) (.type "float")
 |lst {a:Addr} {xs:List V} (e:H a=some (.lst xs)):p6 K H (.ref a) (.type "list")
 |frz {a:Addr} {o:Obj} {xs:List V} (e:H a=some (.frz o (.lst xs))):p6 K H (.ref a) (.type "list")
 |tup {a:Addr} {xs:List V} (e:H a=some (.tup xs)):p6 K H (.ref a) (.type "tuple")
 |dK {a:Addr} {kvs:List (Key×V)} (e:H a=some (.dK kvs)):p6 K H (.ref a) (.type "dict")
 |dT {a:Addr} {kvs:List (List Key×V)} (e:H a=some (.dT kvs)):p6 K H (.ref a) (.type "dict")
 |ins {a C dx:Addr} {fs:List (Str×V)} (e:H a=some (.ins C dx fs)) (cl:Nb K C) (ha:PySem.W.findIn K (.ref C) "__class__"=some (some (.builtin "object.__class__")))
   (hn:PySem.W.specialIn K (.builtin "object.__class__") "__get__"=some (some (.builtin "getset_descriptor.__get__"))) (htk:PySem.W.takesIn K (.builtin "object.__class__")=some true)
   (hm:PySem.W.mroIn K C (.type "object")=some true):p6 K H (.ref a) (.ref C)
def DU{x:V}{u t:Value}(I:Inv X pins σ H s)(rx:RelV x u)(ty:p6 X.K H x t)(e:PySem.W.kitOne X.K t c=some b)(h:∀tk,Q (.bool b) {s with toks:=tk}):
  wpAny (model X.prog X.w) A (call (.builtin "isinstance") [u,c]) Q E s:=by
 cases ty with
 |non=>cases (show u=Value.none from rx);exact PySem.W.kia_one PySem.W.kitx_none I.kIn True.intro e (fun z=>nomatch z) h
 |bl y=>cases (show u=Value.bool y from rx);exact PySem.W.kia_one PySem.W.kitx_bool I.kIn True.intro e (fun z=>nomatch z) h
 |int i=>obtain⟨t,q⟩:=(show∃t,u=Value.int i t from rx);cases q;exact PySem.W.kia_one PySem.W.kitx_int I.kIn True.intro e (fun z=>nomatch z) h
 |str y=>obtain⟨t,q⟩:=(show∃t,u=Value.str y t from rx);cases q;exact PySem.W.kia_one PySem.W.kitx_str I.kIn True.intro e (fun z=>nomatch z) h
 |flt y=>obtain⟨t,q⟩:=(show∃t,u=Value.float y t from rx);cases q;exact PySem.W.kia_one PySem.W.kitx_float I.kIn True.intro e (fun z=>nomatch z) h
 | @lst a xs ea=>
   cases (show u=Value.ref a from rx)
   obtain⟨_,_,n,_,h1⟩:=(show dA X.prog X.w H s.heap a (.lst xs) from I.hok a _ ea)
   exact PySem.W.kia_one PySem.W.kitx_list I.kIn ⟨_,h1,rfl⟩ e (fun z=>nomatch z) h
 | @frz a ob xs ea=>
   cases (show u=Value.ref a from rx)
   obtain⟨_,_,_,n,_,h1⟩:=(show dA X.prog X.w H s.heap a (.frz ob (.lst xs)) from I.hok a _ ea)
   exact PySem.W.kia_one PySem.W.kitx_list I.kIn ⟨_,h1,rfl⟩ e (fun z=>nomatch z) h
 | @tup a xs ea=>
   cases (show u=Value.ref a from rx)
   obtain⟨_,_,_,p⟩:=(show dA X.prog X.w H s.heap a (.tup xs) from I.hok a _ ea)
   obtain⟨o,h1,h2,_⟩:=p
   exact PySem.W.kia_one PySem.W.kitx_tuple I.kIn ⟨o,h1,h2⟩ e (fun z=>nomatch z) h
 | @dK a kvs ea=>
   cases (show u=Value.ref a from rx)
   obtain⟨_,_,vs,_,p⟩:=(show dA X.prog X.w H s.heap a (.dK kvs) from I.hok a _ ea)
   obtain⟨o,es,ep,h1,h2,_⟩:=p
   exact PySem.W.kia_one PySem.W.kitx_dict I.kIn ⟨o,h1,h2.1⟩ e (fun z=>nomatch z) h
 | @dT a kvs ea=>
   cases (show u=Value.ref a from rx)
   obtain⟨_,_,xs,_,o,es,ep,h1,h2,_⟩:=(show dA X.prog X.w H s.heap a (.dT kvs) from I.hok a _ ea)
   exact PySem.W.kia_one PySem.W.kitx_dict I.kIn ⟨o,h1,h2.1⟩ e (fun z=>nomatch z) h
 | @ins a C dx fs ea cl ha hn htk hm=>
   cases (show u=Value.ref a from rx)
   obtain⟨mA,O,_⟩:=GR I.hok ea
   obtain⟨od,J,_⟩:=O.look
   exact PySem.W.kia_one (PySem.W.kitx_own (cl.get _) cl.hd ha hn htk hm) I.kIn J e (fun z=>nomatch z) h
end
structure fS(k:Nat)(A:Around):Prop where
 hd:A.handled=none
 dp:A.depth+3*k+5<recursionLimit
 un:A.units+16*k+200<cLine
def fS.mono{j k:Nat}{A:Around}(r:fS k A)(h:j<=k):fS j A:=⟨r.hd,by have:=r.dp;omega,by have:=r.un;omega⟩
def fS.deeper{k:Nat}{A:Around}(r:fS (k+1) A)(env:Env):fS k (A.deeper env):=
 ⟨r.hd,by have:=r.dp;show A.depth+1+3*k+5<_;omega,by have:=r.un;show A.units+3+16*k+200<_;omega⟩
def fS.depth{k:Nat}{A:Around}(r:fS k A):A.depth<recursionLimit:=by have:=r.dp;omega
def fS.units{k:Nat}{A:Around}(r:fS k A):A.units+64<cLine:=by have:=r.un;omega
def fS.units0{k:Nat}{A:Around}(r:fS k A):A.units<cLine:=by have:=r.un;omega
def J8:TA:=fun _ H Q=>Q [] H
def F8(ta:TE)(tr:TA):TA:=fun σ H Q=>ta σ H fun x H1=>tr σ H1 fun xs H2=>Q (x::xs) H2
section
variable{X:Cx}{e:Expr}{es:List Expr}{te:TE}{t:TA}{pos:Pos}
def fZ:PA X [] J8:=fun _ _ _ _ H Q I h=>Calls.spliced_nil ⟨[],H,I,.nil,h⟩
def dB(ha:PE X e te)(hr:PA X es t)(hs:starEach (e::es) X.env=(false,eval e X.env)::starEach es X.env:=by rfl):PA X (e::es) (F8 te t):=by
 intro pos pins s σ H Q I h
 rw[hs]
 show wpAny _ _ (spliced ((false,eval e X.env)::backTo pos (starEach es X.env))) _ _ s
 refine Calls.spliced_cons (di (ha pins s σ H _ I h) fun u s1 qr=> ?_)
 obtain⟨x,H1,I1,r1,q1⟩:=qr
 exact di (hr pos pins s1 σ H1 _ I1 q1) fun us s2 ⟨xs,H2,I2,r2,q2⟩=>⟨x::xs,H2,I2,.cons r1 r2,q2⟩
def MV(t:TA):TE:=fun σ H Q=>t σ H fun xs H1=>xs.length<=sizeLine/\∀p,H1 p=none->Q (.ref p) (upd H1 p (.tup xs))
def Na(t:TA):TE:=fun σ H Q=>t σ H fun xs H1=>xs.length<=sizeLine/\∀p,H1 p=none->Q (.ref p) (upd H1 p (.lst xs))
def JX{x1}(h:PA X es t):PE X (.Tuple es x1 pos) (MV t):=by
 intro pins s σ H Q I hq
 refine wpAny_Tuple_spliced (di (h pos pins s σ H _ I hq) fun us s1 ⟨xs,H1,I1,r,z,q⟩=>⟨by rw[←r.length];exact z,?_⟩)
 have hf:H1 s1.heap.objs.size=none:=I1.hok.fresh (Qmq _)
 refine⟨.ref s1.heap.objs.size,upd H1 s1.heap.objs.size (.tup xs),I1.laid (t':=s1.toks) (fun b u e=>Qcq _ e) (Qmq _) ?_,rfl,q _ hf⟩
 exact⟨z,us,r,⟨_,Qrq _ rfl,rfl,rfl,_,rfl⟩⟩
def Jd(h:PA X es t):PE X (.List es pos) (Na t):=by
 intro pins s σ H Q I hq
 refine wpAny_List_spliced (di (h pos pins s σ H _ I hq) fun us s1 ⟨xs,H1,I1,r,z,q⟩=>⟨by rw[←r.length];exact z,?_⟩)
 have hf:H1 s1.heap.objs.size=none:=I1.hok.fresh (Qmq _)
 refine⟨.ref s1.heap.objs.size,upd H1 s1.heap.objs.size (.lst xs),I1.laid (t':=s1.toks) (fun b u e=>Qcq _ e) (Qmq _) ?_,rfl,q _ hf⟩
 exact⟨z,us,0,r,Qrq _ rfl⟩
end
abbrev Sp:=List V->Hp->VK->XK->Prop
abbrev Ez:=List Env->Hp->Shared->XK->Value->Shared->Prop
structure Ht(P:Program)(w:World)(K:PySem.W.Frag)(mg:Str->Option Value)(base:Heap)(A:Around)(outer:List Env)(s:Shared)(H:Hp):Prop where
 frames:A.frames=some outer
 mod:Mod K mg base
 bs:∀b o,base.get? b=some o->s.heap.get? b=some o/\H b=none
 bsz:base.objs.size<=s.heap.objs.size
 funs:s.heap.FunFrames base outer
 frf:∀b∈FA outer,H b=none
 hok:oh P w H s.heap
 bare:AllBare s.gens
def CE(outer:List Env)(P:Program)(w:World)(H:Hp)(s:Shared)(Q:VK)(u:Value)(s':Shared):Prop:=
 ∃v H',s'.os=s.os/\AllBare s'.gens/\Un (FA outer) [] H H' s.heap s'.heap/\oh P w H' s'.heap/\RelV v u/\Q v H'
def CR(CX:Ez)(outer:List Env)(P:Program)(w:World)(H:Hp)(s:Shared)(Q:VK)(E:XK)(r:Result)(s':Shared):Prop:=
 match r with
 |.ok (.ret u)=>CE outer P w H s Q u s'
 |.ok _=>False
 |.error e=>CX outer H s E e s'
structure bF(P:Program)(w:World)(K:PySem.W.Frag)(mg:Str->Option Value)(base:Heap)(CX:Ez)(k:Nat)(f:Addr)(fd:FuncData)(ps:List Str)(sp:Sp):Prop where
 len:∀vs H Q E,sp vs H Q E->vs.length=ps.length
 run:∀(A:Around) (outer:List Env) (s:Shared) (H:Hp) (args:Args) (us:List Value) (vs:List V) (Q:VK) (E:XK),fS k A->Ht P w K mg base A outer s H->BindsTo s fd args (ps.zip us)->bM vs us->sp vs H Q E→
  codeAny (model P w) A (.call (.ref f) args) (CR CX outer P w H s Q E) s
def bF.mono{P:Program}{w:World}{K:PySem.W.Frag}{mg:Str->Option Value}{base:Heap}{CX:Ez}{j k:Nat}{f:Addr}{fd:FuncData}{ps:List Str}{sp:Sp}(F:bF P w K mg base CX j f fd ps sp)(h:j<=k):
  bF P w K mg base CX k f fd ps sp:=⟨F.len,fun A outer s H args us vs Q E hr=>F.run A outer s H args us vs Q E (hr.mono h)⟩
def bF.imp{P:Program}{w:World}{K:PySem.W.Frag}{mg:Str->Option Value}{base:Heap}{CX:Ez}{k:Nat}{f:Addr}{fd:FuncData}{ps:List Str}{sp sp':Sp}(F:bF P w K mg base CX k f fd ps sp)
  (h:∀vs H Q E,sp' vs H Q E->sp vs H Q E):bF P w K mg base CX k f fd ps sp':=
 ⟨fun vs H Q E q=>F.len vs H Q E (h _ _ _ _ q),fun A outer s H args us vs Q E hr he hb hv hs=>F.run A outer s H args us vs Q E hr he hb hv (h _ _ _ _ hs)⟩
section
variable{X:Cx}{pins:List (Addr×Obj)}{σ:St}{H:Hp}{s s':Shared}
def Inv.env0(I:Inv X pins σ H s):Ht X.prog X.w X.K X.mg X.base X.A X.stack s H:=
 ⟨I.ok.frames,I.ok.mod,I.bs,QAq I.ok.bsz I.sz,I.stack,I.stkFree,I.hok,I.bare⟩
def Inv.after{Q:VK}{u:Value}(I:Inv X pins σ H s)(h:CE X.stack X.prog X.w H s Q u s'):EP X pins σ Q u s':=by
 obtain⟨v,H',os,bare,un,hok,r,q⟩:=h
 obtain⟨hh,g,d,t,os'⟩:=s'
 obtain rfl:os'=s.os:=os
 exact⟨v,H',I.call (h':=hh) (g':=g) (d':=d) (t':=t) (ch:= []) un hok bare (fun b z=>absurd z (by simp)),r,q⟩
end
def FB(sp:Sp)(dvs:List V)(E:XK)(t:TA):TE:=fun σ H Q=>t σ H fun vs H1=>sp (vs++dvs) H1 Q E
def Binds(K:PySem.W.Frag)(fd:FuncData)(ps:List Str)(ds:List Value):Prop:=
 ∀(s:Shared) (us:List Value),K.In s.heap->(us++ds).length=ps.length->BindsTo s fd ⟨us,[]⟩ (ps.zip (us++ds))
def Binds.all{K:PySem.W.Frag}{fd:FuncData}{ps:List Str}(h:∀us:List Value,us.length=ps.length->bindArgs fd ⟨us,[]⟩=pure (ps.zip us)):Binds K fd ps []:=fun s us _ hl=>by
 rw[List.append_nil] at hl⊢
 exact .of_eq (h us hl)
def BE(CX:Ez)(X:Cx)(E:XK):Prop:=∀(pins:List (Addr×Obj)) (σ:St) (H:Hp) (s:Shared) (e:Value) (s':Shared),Inv X pins σ H s->CX X.stack H s E e s'->X.xe e s'
section
variable{X:Cx}{CX:Ez}{k:Nat}{f C:Addr}{fd:FuncData}{ps:List Str}{sp:Sp}{dvs:List V}{ds:List Value}{E:XK}{x m:Str}{p pos apos:Pos}{e o:Expr}{es:List Expr}{ta:TE}{t:TA}
def Gu{pins:List (Addr×Obj)}{σ:St}{H:Hp}{s:Shared}{Q:VK}{us:List Value}{vs:List V}(F:bF X.prog X.w X.K X.mg X.base CX k f fd ps sp)(hr:fS k X.A)(hb:Binds X.K fd ps ds)(hd:bM dvs ds)(hx:BE CX X E)
  (I:Inv X pins σ H s) (r:bM vs us) (h:sp (vs++dvs) H Q E):wpAny (model X.prog X.w) X.A (call (.ref f) us) (EP X pins σ Q) X.xe s:=by
 have r2:bM (vs++dvs) (us++ds):=r.append hd
 have hl:(us++ds).length=ps.length:=by rw[←r2.length];exact F.len _ _ _ _ h
 refine wpAny_call (codeAny_mono (F.run X.A X.stack s H ⟨us,[]⟩ (us++ds) (vs++dvs) Q E hr I.env0 (hb s us I.kIn hl) r2 h) fun r s' hq=> ?_)
 cases r with
 |error e=>exact hx pins σ H s e s' I hq
 | ok fl=>
   cases fl with
   |ret u=>exact I.after hq
   |next=>exact False.elim hq
   |brk=>exact False.elim hq
   |cont=>exact False.elim hq
def C4(F:bF X.prog X.w X.K X.mg X.base CX k f fd ps sp)(hr:fS k X.A)(hg:Gl X x)(hm:X.mg x=some (.ref f))(hk:PySem.W.keepIn X.K (.ref f)=true)(hb:Binds X.K fd ps ds)(hd:bM dvs ds)(hx:BE CX X E)
  (ha:PA X (e::es) t) (hdb:(x==("__debug__":Str))=false:=by decide) (he:starEach (e::es) X.env=(false,eval e X.env)::starEach es X.env:=by rfl) (hpl:(backTo pos (starEach es X.env)).any (·.1)=false:=by rfl):
  PE X (.Call (.Name x p) (e::es) [] pos) (FB sp dvs E t):=by
 intro pins s σ H Q I h
 refine wpAny_Call_Name_kw (xI I hg hm ?_ hdb)
 refine PySem.W.callWith_K (h₀:=X.base) I.ok.mod.kin hk (di (ha pos pins s σ H _ I h) fun us s1 ⟨vs,H1,I1,r,q⟩=>⟨I1.kIn,?_⟩) he hpl
 exact Gu F hr hb hd hx I1 r q
end
structure aL(N P:List Str)(sc:Scope):Prop where
 kind:sc.kind=.function
 co:sc.isCoroutine=false
 gen:sc.isGenerator=false
 nd:N.Nodup
 pre:N.take P.length=P
 par:∀x∈P,sc.names.lookup x=some .local\/sc.names.lookup x=some .cell
 nofree:∀y∈sc.names,y.2≠.free
theorem wD{kindOf:Str->Option NameKind}{x:Str}:∀{binds:List (Str×Value)} {m:Str->Option Value},(∀v,(x,v)∉binds)->bindL kindOf binds m x=m x
 | [],_,_=>rfl
 | (n,v)::r,m,h=>by
   unfold bindL
   rw[wD fun w hw=>h w (Qpq _ hw)]
   split
   · have:x≠n:=by rintro rfl;exact h v QBq
     simp[this]
   · rfl
theorem wb{kindOf:Str->Option NameKind}{x:Str}:∀{binds:List (Str×Value)} {m:Str->Option Value},(∀v,(x,v)∉binds)->bindC kindOf binds m x=m x
 | [],_,_=>rfl
 | (n,v)::r,m,h=>by
   unfold bindC
   rw[wb fun w hw=>h w (Qpq _ hw)]
   split
   · rfl
   · have:x≠n:=by rintro rfl;exact h v QBq
     simp[this]
theorem wN{kindOf:Str->Option NameKind}{x:Str}{v:Value}:∀{P:List Str} {vs:List Value} {i:Nat} {m:Str->Option Value},P.Nodup->P[i]?=some x->vs[i]?=some v->kindOf x=some .local→
  bindL kindOf (P.zip vs) m x=some v
 | [],_,_,_,_,h,_,_=>by simp at h
 |_::_,[],_,_,_,_,h,_=>by simp at h
 | p::P,w::vs,0,m,nd,h1,h2,hk=>by
   simp at h1 h2;subst h1;subst h2
   show bindL kindOf ((p,w)::P.zip vs) m p=_
   unfold bindL
   rw[wD fun v hv=>(List.nodup_cons.mp nd).1 (List.of_mem_zip hv).1,Qhq hk]
   simp
 | p::P,w::vs,i+1,m,nd,h1,h2,hk=>by
   show bindL kindOf ((p,w)::P.zip vs) m x=_
   unfold bindL
   exact wN (i:=i) (List.nodup_cons.mp nd).2 (by simpa using h1) (by simpa using h2) hk
theorem vt{kindOf:Str->Option NameKind}{x:Str}{v:Value}:∀{P:List Str} {vs:List Value} {i:Nat} {m:Str->Option Value},P.Nodup->P[i]?=some x->vs[i]?=some v->kindOf x≠some .local→
  bindC kindOf (P.zip vs) m x=some v
 | [],_,_,_,_,h,_,_=>by simp at h
 |_::_,[],_,_,_,_,h,_=>by simp at h
 | p::P,w::vs,0,m,nd,h1,h2,hk=>by
   simp at h1 h2;subst h1;subst h2
   show bindC kindOf ((p,w)::P.zip vs) m p=_
   unfold bindC
   rw[wb fun v hv=>(List.nodup_cons.mp nd).1 (List.of_mem_zip hv).1,Quq hk]
   simp
 | p::P,w::vs,i+1,m,nd,h1,h2,hk=>by
   show bindC kindOf ((p,w)::P.zip vs) m x=_
   unfold bindC
   exact vt (i:=i) (List.nodup_cons.mp nd).2 (by simpa using h1) (by simpa using h2) hk
def start(N:List Str)(vs:List V):St:=vs.map some++List.replicate (N.length-vs.length) none
noncomputable def A9(CX:Ez)(P:Program)(w:World)(K:PySem.W.Frag)(mg:Str->Option Value)(base:Heap)(N:List Str)(qual:Str)(scope:Scope)(f:Addr)(cd:Value)(A:Around)(outer:List Env)(s:Shared)(H:Hp)(E:XK):Cx where
 prog:=P
 w:=w
 K:=K
 mg:=mg
 base:=base
 A:=A.deeper (envOfC qual scope s.heap.objs.size f cd)
 N:=N
 s₀:=s
 H₀:=H
 env:=envOfC qual scope s.heap.objs.size f cd
 outer:=outer
 stack:=envOfC qual scope s.heap.objs.size f cd::outer
 ex:= []
 calm:=true
 fn:=fun _=>true
 pn:= []
 xe:=fun e s'=>wpAny (model P w) (A.deeper (envOfC qual scope s.heap.objs.size f cd)) (leaving (envOfC qual scope s.heap.objs.size f cd) e) (fun _ s''=>CX outer H s E e s'') (fun e' s''=>CX outer H s E e' s'') s'
def zD{sc:Scope}{n:Nat}{x:Str}(h:sc.names.lookup x=some .cell):∃c,(cellsFrom n sc.names []).lookup x=some c:=by
 have q:=PySem.W.cellsFrom_some sc.names n [] (.inl h)
 exact Option.isSome_iff_exists.mp q
def DR{CX:Ez}{P:Program}{w:World}{K:PySem.W.Frag}{mg:Str->Option Value}{base:Heap}{N ps:List Str}{qual:Str}{scope:Scope}{f:Addr}{cd:Value}{A:Around}{outer:List Env}{s s1:Shared}{H:Hp}{E:XK}{us:List Value}{vs:List V}
  (S:aL N ps scope) (hd:A.handled=none) (e0:Ht P w K mg base A outer s H) (hl:vs.length=ps.length) (r:bM vs us)
  (x:InCallC s s.heap.objs.size (bindL (envOfC qual scope s.heap.objs.size f cd).kindOf (ps.zip us) fun _=>none) (cellsFrom (s.heap.objs.size+1) scope.names []) (bindC (envOfC qual scope s.heap.objs.size f cd).kindOf (ps.zip us) fun _=>none) s1):
  Inv (A9 CX P w K mg base N qual scope f cd A outer s H E) [] (start N vs) H s1:=by
 have hpl:ps.length<=N.length:=by have:=congrArg List.length S.pre;rw[Qxq] at this;omega
 obtain⟨h1,tk,rfl,hk⟩:=x.done
 have noA:∀b:Addr,b∉(A9 CX P w K mg base N qual scope f cd A outer s H E).ex:=fun b z=>absurd (show b∈([]:List Addr) from z) (by simp)
 refine⟨⟨e0.mod,S.kind,rfl,rfl,Qmq _,fun y z c h1 h2=> ?_,fun y hy=> ?_,fun y c _ h=> ?_,fun _=>hd,Around.frames_deeper e0.frames,.inr ⟨rfl,rfl⟩,fun b z=>absurd z (noA b),e0.bs,e0.bsz,fun b _ _=>noA b,fun b z=>absurd z (noA b),e0.funs,e0.frf⟩,
  rfl,e0.bare,Un.kept hk,⟨_,x.toInCall.ns,fun i y v h1 h2 h3=> ?_⟩,fun y c h=>⟨_,x.cell y c h⟩,e0.hok.fresh (Qmq _),fun y c h=> ?_,fun p hp=>absurd (show p∈([]:List (Addr×Obj)) from hp) (by simp),e0.hok.kept hk,?_⟩
 ·exact name_of_addr x.apart (PySem.mem_of_lookup h1) (PySem.mem_of_lookup h2)
 ·have hy:scope.names.lookup y=some .cell\/scope.names.lookup y=some .free:=hy
  rcases hy with hy|hy
  ·exact zD hy
  ·exact absurd rfl (S.nofree _ (PySem.mem_of_lookup hy))
 ·exact nQl (x.above y c (PySem.mem_of_lookup h))
 ·have hi:i<vs.length:=by
   unfold start at h2
   by_cases hi:i<vs.length
   ·exact hi
   ·rw[QQq (by simpa using hi)] at h2
    rw[List.getElem?_replicate] at h2
    split at h2 <;>cases h2
  have ha:vs[i]?=some v:=by
   unfold start at h2
   rw[QHq (by simpa using hi),gQm] at h2
   cases e:vs[i]? with
   |none=>rw[e] at h2;cases h2
   |some a=>rw[e] at h2;cases h2;rfl
  obtain⟨u,hu,rv⟩:=r.get ha
  have hp:ps[i]?=some y:=by
   rw[←S.pre,List.getElem?_take_of_lt (by omega)];exact h1
  have ndP:ps.Nodup:=by rw[←S.pre];exact S.nd.sublist (List.take_sublist _ _)
  refine⟨u,rv,?_⟩
  rcases S.par y (mQg hp) with k|k
  ·exact .inl ⟨k,wN ndP hp hu k⟩
  ·obtain⟨c,e⟩:=zD (n:=s.heap.objs.size+1) k
   refine .inr ⟨.inl k,c,e,?_⟩
   have q:=x.cell y c e
   rw[vt ndP hp hu (by show scope.names.lookup y≠_;rw[k];decide)] at q
   exact q
 ·exact e0.hok.fresh (nQl (x.above y c (PySem.mem_of_lookup h)))
 ·unfold start
  show _=N.length
  rw[lQa,lQm,QIq]
  omega
def KZ{CX:Ez}{P:Program}{w:World}{K:PySem.W.Frag}{mg:Str->Option Value}{base:Heap}{k:Nat}{f:Addr}{name qual:Str}{params:Arguments}{body:List Stmt}{scope:Scope}{dV kV doc pm cdv ct oc:Value}{an od:Option Addr}
  {osl:Array (Option Value)} {N ps:List Str} {sp:Sp} (lk:K.lookup f=some ⟨oc,od,.func (PySem.W.fnOf name qual params body scope dV kV doc pm an cdv ct),osl⟩) (hcd:PySem.W.codeIn K cdv qual=true) (S:aL N ps scope)
  (len:∀vs H Q E,sp vs H Q E->vs.length=ps.length)
  (hbody:∀(A:Around) (outer:List Env) (s:Shared) (H:Hp) (vs:List V) (Q:VK) (E:XK),fS k (A.deeper (envOfC qual scope s.heap.objs.size f cdv))->sp vs H Q E→
   ∃t,sk (A9 CX P w K mg base N qual scope f cdv A outer s H E) body t/\t {nx:=fun _ H'=>Q .non H',rt:=Q} (start N vs) H):
  bF P w K mg base CX (k+1) f (PySem.W.fnOf name qual params body scope dV kV doc pm an cdv ct) ps sp:=by
 refine⟨len,fun A outer s H args us vs Q E hr e0 hb r hsp=> ?_⟩
 have hl:=len _ _ _ _ hsp
 have KX:K.In s.heap:=e0.mod.kin.keeps fun b o e=>(e0.bs b o e).1
 have lim:s.heap.NoLimit:=e0.mod.nolimit.keeps fun b o e=>(e0.bs b o e).1
 have hkind:∀y∈ps.zip us,scope.names.lookup y.1=some .local\/(scope.names.lookup y.1=some .cell/\((cellsFrom (s.heap.objs.size+1) scope.names []).lookup y.1).isSome=true):=fun⟨n,v⟩ hy=>by
  rcases S.par n (List.of_mem_zip hy).1 with q|q
  ·exact .inl q
  ·exact .inr ⟨q,PySem.W.cellsFrom_some _ _ _ (.inl q)⟩
 refine codeAny_call_function hr.depth (KX _ _ lk) rfl S.co S.gen rfl (PySem.W.codeRec_of KX hcd) (hb _ _ _ _ ?_)
 refine wpAny_newFunctionEnv_cells S.kind hkind fun env he s1 x=> ?_
 subst he
 refine⟨lim.keeps x.toInCall.keep,codeAny_func ?_⟩
 obtain⟨t,ht,hq⟩:=hbody A outer s H vs Q E (hr.deeper _) hsp
 have I:Inv (A9 CX P w K mg base N qual scope f cdv A outer s H E) [] (start N vs) H s1:=DR S hr.hd e0 hl r x
 refine QRq (ht [] s1 (start N vs) H _ I hq) (fun fl s' hs=> ?_) fun e s' hs=>hs
 have fin:∀{σ':St} {H':Hp} {v:V} {u:Value},Inv (A9 CX P w K mg base N qual scope f cdv A outer s H E) [] σ' H' s'->RelV v u->Q v H'->CE outer P w H s Q u s':=
  fun{σ' H' v u} J rv q=>⟨v,H',J.os,J.bare,J.base,J.hok,rv,q⟩
 cases fl with
 | ret u=>
   obtain⟨v,σ',H',J,rv,q⟩:=hs
   exact fin J rv q
 | next=>
   obtain⟨σ',H',J,q⟩:=hs
   exact fin (v:=V.non) (u:=Value.none) J rfl q
 | brk=>
   obtain⟨_,_,_,q⟩:=hs
   exact False.elim q
 | cont=>
   obtain⟨_,_,_,q⟩:=hs
   exact False.elim q
section
variable{X:Cx}{x:Str}{p pos:Pos}{e:Expr}{es:List Expr}{t:TA}{id T:String}{r:List V->Hp->VK->Prop}
def Mi(r:List V->Hp->VK->Prop)(t:TA):TE:=fun σ H Q=>t σ H fun vs H1=>r vs H1 Q
def dJ(hc:i4 X (.builtin id) r)(hg:Gl X x)(hm:X.mg x=none)(hv:bootBuiltins x=some (.builtin id))(ha:PA X (e::es) t)(hn:x≠"__name__":=by decide)(hdb:(x==("__debug__":Str))=false:=by decide)
  (he:starEach (e::es) X.env=(false,eval e X.env)::starEach es X.env:=by rfl) (hpl:(backTo pos (starEach es X.env)).any (·.1)=false:=by rfl):PE X (.Call (.Name x p) (e::es) [] pos) (Mi r t):=by
 intro pins s σ H Q I h
 refine wpAny_Call_Name_kw (nc I hg hm hv ?_ hn hdb)
 exact PyProof.Rows.callWith_builtin1 (di (ha pos pins s σ H _ I h) fun us s1 ⟨vs,H1,I1,r1,q1⟩=>hc pins s1 σ H1 vs us Q I1 r1 q1) he hpl
def g6(hc:i4 X (.type T) r)(hg:Gl X x)(hm:X.mg x=none)(hv:bootBuiltins x=some (.type T))(ha:PA X (e::es) t)(hn:x≠"__name__":=by decide)(hdb:(x==("__debug__":Str))=false:=by decide)
  (he:starEach (e::es) X.env=(false,eval e X.env)::starEach es X.env:=by rfl) (hpl:(backTo pos (starEach es X.env)).any (·.1)=false:=by rfl):PE X (.Call (.Name x p) (e::es) [] pos) (Mi r t):=by
 intro pins s σ H Q I h
 refine wpAny_Call_Name_kw (nc I hg hm hv ?_ hn hdb)
 exact PyProof.Rows.callWith_type1 (di (ha pos pins s σ H _ I h) fun us s1 ⟨vs,H1,I1,r1,q1⟩=>hc pins s1 σ H1 vs us Q I1 r1 q1) he hpl
end
section
variable{κ:Type}[DecidableEq κ]
def pP(kvs:List (κ×V))(k:κ):Option V:=(kvs.find? fun kv=>decide (kv.1=k)).map (·.2)
noncomputable def putK(kvs:List (κ×V))(k:κ)(v:V):List (κ×V):=
 if (kvs.any fun kv=>decide (kv.1=k))=true then kvs.map (fun kv=>if kv.1=k then(kv.1,v) else kv) else kvs++ [(k,v)]
def uN{p:κ×V}{r:List (κ×V)}{k:κ}(e:p.1=k):pP (p::r) k=some p.2:=by simp[pP,List.find?_cons,e]
def sH{p:κ×V}{r:List (κ×V)}{k:κ}(e:¬p.1=k):pP (p::r) k=pP r k:=by simp[pP,List.find?_cons,e]
theorem zr(k:κ):∀kvs:List (κ×V),(kvs.any fun kv=>decide (kv.1=k))=(pP kvs k).isSome
 | []=>rfl
 | p::r=>by
   rw[List.any_cons]
   by_cases e:p.1=k
   · simp only[uN e,Qeq e,Bool.true_or,Option.isSome_some]
   · rw[sH e,Qdq e,Bool.false_or];exact zr k r
def jA(kvs:List (κ×V))(k:κ)(v:V):(putK kvs k v).length<=kvs.length+1:=by
 unfold putK
 split
 ·rw[lQm];omega
 ·rw[lQa,Qnq,QGq];omega
def tX.isSome_eq{o:Option V}{u:Option Value}(r:tX o u):o.isSome=u.isSome:=by
 cases o with
 | none=>cases u with
   |none=>rfl
   |some _=>exact(show False from r).elim
 | some _=>cases u with
   |none=>exact(show False from r).elim
   |some _=>rfl
def KV.val{kvs:List (κ×V)}{vs:List (κ×Value)}(r:KV kvs vs)(k:κ):tX (pP kvs k) (valueAt vs k):=by
 unfold KV at r
 induction r with
 |nil=>exact True.intro
 | @cons p q ps qs h t ih=>
   obtain⟨h1,h2⟩:=h
   by_cases e:p.1=k
   · have e':q.1=k:=h1.symm.trans e
     have b:valueAt (q::qs) k=some q.2:=by simp[valueAt,List.find?_cons,e']
     rw[uN e,b];exact h2
   · have e':¬q.1=k:=fun z=>e (h1.trans z)
     have b:valueAt (q::qs) k=valueAt qs k:=by simp[valueAt,List.find?_cons,e']
     rw[sH e,b];exact ih
theorem KV.any{kvs:List (κ×V)}{vs:List (κ×Value)}(r:KV kvs vs)(k:κ):(kvs.any fun kv=>decide (kv.1=k))=vs.any fun kv=>decide (kv.1=k):=by
 unfold KV at r
 induction r with
 |nil=>rfl
 |cons h t ih=>rw[List.any_cons,List.any_cons,ih,h.1]
def KV.repl{kvs:List (κ×V)}{vs:List (κ×Value)}(r:KV kvs vs)(k:κ){y:V}{u:Value}(ry:RelV y u):
  KV (kvs.map fun kv=>if kv.1=k then(kv.1,y) else kv) (vs.map fun kv=>if kv.1=k then(kv.1,u) else kv):=by
 unfold KV at r⊢
 induction r with
 |nil=>exact .nil
 | @cons p q ps qs h t ih=>
   rw[QDq,QDq]
   refine .cons ?_ ih
   obtain⟨h1,h2⟩:=h
   by_cases e:p.1=k
   · rw[Qhq e,Qhq (h1.symm.trans e)];exact⟨h1,ry⟩
   · rw[Quq e,Quq (fun z=>e (h1.trans z))];exact⟨h1,h2⟩
def KV.put{kvs:List (κ×V)}{vs:List (κ×Value)}(r:KV kvs vs)(k:κ){y:V}{u:Value}(ry:RelV y u):KV (putK kvs k y) (stored vs k u):=by
 unfold putK stored
 rw[r.any k]
 by_cases e:(vs.any fun kv=>decide (kv.1=k))=true
 ·rw[Qhq e,Qhq e];exact r.repl k ry
 ·rw[Quq e,Quq e];exact Paired.snoc r ⟨rfl,ry⟩
def KV.length{kvs:List (κ×V)}{vs:List (κ×Value)}(r:KV kvs vs):kvs.length=vs.length:=Paired.length r
end
def y2{P:Program}{w:World}{k:Key}{u:Value}(r:RelV (kV k) u):(cq P w).is k u=true:=by
 cases k with
 |inl i=>obtain⟨t,e⟩:=(show∃t,u=Value.int i t from r);subst e;exact Ac P w i t
 |inr x=>obtain⟨t,e⟩:=(show∃t,u=Value.str x t from r);subst e;exact AD P w x t
theorem wJ{P:Program}{w:World}:∀{ks:List Key} {us:List Value},bM (ks.map kV) us->ItemsAre (cq P w) ks us
 | [],_,r=>by rw[List.map_nil] at r;cases r;exact .nil
 | k::ks,_,r=>by
   rw[QDq] at r
   cases r with
   |cons h t=>exact .cons (y2 h) (wJ t)
abbrev KT(H:Hp):List (List Key×V)->List (List Key×Addr×Value)->Prop:=Paired fun p q=>p.1=q.1/\H q.2.1=some (.tup (p.1.map kV))/\RelV p.2 q.2.2
def KT.val{H:Hp}{kvs:List (List Key×V)}{xs:List (List Key×Addr×Value)}(r:KT H kvs xs)(k:List Key):tX (pP kvs k) ((atKey xs k).map (·.2)):=by
 induction r with
 |nil=>exact True.intro
 | @cons p q ps qs h t ih=>
   obtain⟨h1,_,h2⟩:=h
   by_cases e:p.1=k
   · have e':q.1=k:=h1.symm.trans e
     have b:atKey (q::qs) k=some q.2:=by simp[atKey,List.find?_cons,e']
     rw[uN e,b];exact h2
   · have e':¬q.1=k:=fun z=>e (h1.trans z)
     have b:atKey (q::qs) k=atKey qs k:=by simp[atKey,List.find?_cons,e']
     rw[sH e,b];exact ih
def KT.repl{H:Hp}{kvs:List (List Key×V)}{xs:List (List Key×Addr×Value)}(r:KT H kvs xs)(k:List Key){y:V}{u:Value}(ry:RelV y u):
  KT H (kvs.map fun kv=>if kv.1=k then(kv.1,y) else kv) (xs.map (putAt k u)):=by
 induction r with
 |nil=>exact .nil
 | @cons p q ps qs h t ih=>
   rw[QDq,QDq]
   refine .cons ?_ ih
   obtain⟨h1,h2,h3⟩:=h
   unfold putAt
   by_cases e:p.1=k
   · rw[Qhq e,Qhq (h1.symm.trans e)];exact⟨h1,h2,ry⟩
   · rw[Quq e,Quq (fun z=>e (h1.trans z))];exact⟨h1,h2,h3⟩
def KT.put{H:Hp}{kvs:List (List Key×V)}{xs:List (List Key×Addr×Value)}(r:KT H kvs xs)(k:List Key){b:Addr}{y:V}{u:Value}(hb:H b=some (.tup (k.map kV)))(ry:RelV y u):
  KT H (putK kvs k y) (storedH xs k b u):=by
 have e:(kvs.any fun kv=>decide (kv.1=k))=(atKey xs k).isSome:=by
  rw[zr,(r.val k).isSome_eq,Option.isSome_map]
 unfold putK storedH
 rw[e]
 by_cases q:(atKey xs k).isSome=true
 ·rw[Qhq q,Qhq q];exact r.repl k ry
 ·rw[Quq q,Quq q];exact Paired.snoc r ⟨rfl,hb,ry⟩
def KT.keeps{H H':Hp}{kvs:List (List Key×V)}{xs:List (List Key×Addr×Value)}(r:KT H kvs xs)(ht:∀b ys,H b=some (.tup ys)->H' b=some (.tup ys)):KT H' kvs xs:=
 Paired.mapP r fun _ _ z=>⟨z.1,ht _ _ z.2.1,z.2.2⟩
section
variable{P:Program}{w:World}{H:Hp}{h:Heap}{a:Addr}
def IJ{u:HO}(ok:oh P w H h)(e:Rd H a u):dA P w H h a u:=e.ok ok
def Fd{kvs:List (Key×V)}(ok:oh P w H h)(e:Rd H a (.dK kvs)):kvs.length<=sizeLine/\(a==sysModules)=false/\∃vs,KV kvs vs/\h.DictOf (cq P w) a vs:=
 show dA P w H h a (.dK kvs) from IJ ok e
def Cp{kvs:List (Key×V)}(ok:oh P w H h)(e:H a=some (.dK kvs)):kvs.length<=sizeLine/\(a==sysModules)=false/\∃vs,KV kvs vs/\h.DictOf (cq P w) a vs:=Fd ok (.inl e)
def BV{ks:List Key}(ok:oh P w H h)(e:H a=some (.tup (ks.map kV))):(tupleKind (cq P w)).is h ks a:=by
 obtain⟨_,its,r,o,h1,h2,_,n,h3⟩:=(show dA P w H h a (.tup (ks.map kV)) from ok a _ e)
 exact⟨o,its.toArray,n,h1,h2,h3,by simpa using wJ r⟩
def EK{kvs:List (List Key×V)}(ok:oh P w H h)(e:Rd H a (.dT kvs)):kvs.length<=sizeLine/\(a==sysModules)=false∧
  ∃xs,KT H kvs xs/\h.DictOfH (tupleKind (cq P w)) a xs:=by
 obtain⟨z,y,xs,r,o,es,ep,h1,h2,h3,h4,h5⟩:=(show dA P w H h a (.dT kvs) from IJ ok e)
 refine⟨z,y,xs,r,o,es,ep,h1,h2,h3,h4,fun x hx=> ?_,h5⟩
 have all:∀{l:List (List Key×V)} {m:List (List Key×Addr×Value)},KT H l m->∀x∈m,(tupleKind (cq P w)).is h x.1 x.2.1:=by
  intro l m q
  induction q with
  |nil=>intro x hx;exact nomatch hx
  | @cons p q ps qs hq t ih=>
    intro x hx
    rcases Qsq.mp hx with e|hx
    · subst e
      exact BV ok (by rw[←hq.1];exact hq.2.1)
    · exact ih x hx
 exact all r x hx
def Lr{kvs:List (List Key×V)}(ok:oh P w H h)(e:H a=some (.dT kvs)):kvs.length<=sizeLine/\(a==sysModules)=false∧
  ∃xs,KT H kvs xs/\h.DictOfH (tupleKind (cq P w)) a xs:=EK ok (.inl e)
end
def Dr(H:Hp)(a:Addr)(y:V)(r:Option V):Prop:=
 (∃kvs k,Rd H a (.dK kvs)/\y=kV k/\r=pP kvs k)\/∃kvs k b,Rd H a (.dT kvs)/\y=.ref b/\H b=some (.tup (k.map kV))/\r=pP kvs k
def Fu(H:Hp)(a:Addr)(y v:V)(H':Hp):Prop:=
 (∃kvs k,H a=some (.dK kvs)/\y=kV k/\kvs.length<sizeLine/\H'=upd H a (.dK (putK kvs k v)))∨
 ∃kvs k b,H a=some (.dT kvs)/\y=.ref b/\H b=some (.tup (k.map kV))/\kvs.length<sizeLine/\H'=upd H a (.dT (putK kvs k v))
def Dr.k{H:Hp}{a:Addr}{kvs:List (Key×V)}{k:Key}(e:H a=some (.dK kvs)):Dr H a (kV k) (pP kvs k):=.inl ⟨kvs,k,.inl e,rfl,rfl⟩
def Fu.k{H:Hp}{a:Addr}{kvs:List (Key×V)}{k:Key}{v:V}(e:H a=some (.dK kvs))(hl:kvs.length<sizeLine):Fu H a (kV k) v (upd H a (.dK (putK kvs k v))):=.inl ⟨kvs,k,e,rfl,hl,rfl⟩
section
variable{X:Cx}{pins:List (Addr×Obj)}{σ:St}{H:Hp}{s:Shared}{a:Addr}{y v:V}{u r:Value}{o:Option V}{A:Around}{E:Value->Shared->Prop}
def Inv.big(I:Inv X pins σ H s):sysModules<s.heap.objs.size:=by
 have h:mainGlobals<s.heap.objs.size:=(I.mod.glob.keeps I.bk).lt
 exact Nat.lt_trans (by decide) h
def DP{Q:Value->Shared->Prop}(hu:A.units+1<cLine)(I:Inv X pins σ H s)(g:Dr H a y (some v))(ry:RelV y u)(h:∀w' s',Inv X pins σ H s'->RelV v w'->Q w' s'):
  wpAny (model X.prog X.w) A (getItem (.ref a) u) Q E s:=by
 rcases g with⟨kvs,k,e,ey,l⟩|⟨kvs,k,b,e,ey,eb,l⟩
 ·subst ey
  obtain⟨z,hd,vs,rel,dd⟩:=Fd I.hok e
  obtain⟨w',hw,rw'⟩:=tX.some_of (v:=v) (o:=valueAt vs k) (by rw[l];exact rel.val k)
  exact wpAny_getItem_of (y2 ry) dd.mapOf hw (h w' _ (I.tok _) rw')
 ·subst ey
  cases (show u=Value.ref b from ry)
  obtain⟨z,hd,xs,rel,dd⟩:=EK I.hok e
  obtain⟨w',hw,rw'⟩:=tX.some_of (v:=v) (o:=(atKey xs k).map (·.2)) (by rw[l];exact rel.val k)
  obtain⟨p,hp,hp2⟩:=oQm.mp hw
  refine wpAny_getItem_heap (tupleKind_room_in1 hu) (BV I.hok eb) dd hp ?_
  rw[hp2]
  exact h w' _ (I.tok _) rw'
def sj{h':Heap}{t':Nat}{ob:HO}(I:Inv X pins σ H s)(mu:K2 (H a))(hs:Heap.SameBut a s.heap h')(he:∃q,h'.get? a=some q)(new:dA X.prog X.w (upd H a ob) h' a ob):
  Inv X pins σ (upd H a ob) {s with heap:=h',toks:=t'}:=
 I.write (x:=a) (e:=a) mu (.inl rfl) (fun b q hb z=>(hs.2 b hb).trans z) he new
def ub{P:Program}{w:World}{H':Hp}{h':Heap}{kvs:List (Key×V)}{vs:List (Key×Value)}(z:kvs.length<=sizeLine)(hd:(a==sysModules)=false)(rel:KV kvs vs)(dd:h'.DictOf (cq P w) a vs):
  dA P w H' h' a (.dK kvs):=⟨z,hd,vs,rel,dd⟩
def D1{H':Hp}{Q:Unit->Shared->Prop}(hu:A.units+1<cLine)(I:Inv X pins σ H s)(g:Fu H a y v H')(ry:RelV y u)(rv:RelV v r)(h:∀s',Inv X pins σ H' s'->Q () s'):
  wpAny (model X.prog X.w) A (setItem (.ref a) u r) Q E s:=by
 rcases g with⟨kvs,k,e,ey,l,eH⟩|⟨kvs,k,b,e,ey,eb,l,eH⟩
 ·subst ey eH
  obtain⟨z,hd,vs,rel,dd⟩:=Cp I.hok e
  have hz:vs.length<=sizeLine:=by rw[←rel.length];exact z
  have hl:(putK kvs k v).length<=sizeLine:=by have:=jA kvs k v;omega
  refine wpAny_setItem_pairs (hsz:=hz) (y2 ry) dd fun h' dd' hs=>h _ ?_
  have he:∃q,h'.get? a=some q:=let ⟨q,_,_,hq,_⟩:=dd';⟨q,hq⟩
  exact sj I (by rw[e];exact True.intro) hs he (ub hl hd (rel.put k rv) dd')
 ·subst ey eH
  cases (show u=Value.ref b from ry)
  obtain⟨z,hd,xs,rel,dd⟩:=Lr I.hok e
  have hz:xs.length<=sizeLine:=by rw[←Paired.length rel];exact z
  have hl:(putK kvs k v).length<=sizeLine:=by have:=jA kvs k v;omega
  refine wpAny_setItem_heap (hsz:=hz) (tupleKind_room_in1 hu) (BV I.hok eb) dd fun h' dd' hs=>h _ ?_
  obtain⟨q,es,ep,hq,h2,h3,h4,_,h5⟩:=dd'
  refine sj I (by rw[e];exact True.intro) hs ⟨q,hq⟩ ⟨hl,hd,_,(rel.put k eb rv).keeps fun c ys ec=> ?_,q,es,ep,hq,h2,h3,h4,h5⟩
  rw[bA (GD ec e (fun z=>nomatch z))]
  exact ec
end
def Ia(i:Expr):Prop:=∀ov iv,subscripted i false ov iv=operate [ov,iv] (getItem ov iv)
def CY{prog:Program}{w:World}{A:Around}{E:Value->Shared->Prop}{s:Shared}{env:Env}{value slice:Expr}{pos:Pos}{T id:String}{Q:Value->Shared->Prop}
  (hl:typeLookup (.type T) "__getitem__"=pure (some (.builtin id))) (hs:Ia slice)
  (h:wpAny (model prog w) A (eval value env) (fun o s₁=>wpAny (model prog w) A (eval slice env) (fun i s₂=>s₂.TypeIs o T/\wpAny (model prog w) A (getItem o i) Q E s₂) E s₁) E s):
  wpAny (model prog w) A (eval (.Subscript value slice pos) env) Q E s:=by
 refine Subscript_ (QRq h (fun o s₁ h₁=>QRq h₁ (fun i s₂ h₂=> ?_) fun _ _ x=>x) fun _ _ x=>x)
 obtain⟨hT,h₂⟩:=h₂
 unfold subscriptTail
 refine Qaq ?_
 rw[getitemInPython_of_ne hT.not_modules]
 refine Qaq (wpAny_specialOf hT hl ?_)
 have fin:wpAny (model prog w) A (subscripted slice false o i) (fun r s₃=>wpAny (model prog w) A (letTemporaryGo value o r >>= fun _=>pure r) Q E s₃) E s₂:=by
  rw[hs o i]
  exact wpAny_operating (QRq h₂ (fun r s₃ h₃=>Qaq (wpAny_letTemporaryGo (Qgq h₃))) fun _ _ x=>x)
 first
  |exact Qgq (Qaq fin)
  |exact Qaq (Qgq (Qaq fin))
  |exact Qaq fin
def zS{X:Cx}{pins:List (Addr×Obj)}{σ:St}{H:Hp}{s:Shared}{a:Addr}{y:V}{o:Option V}(I:Inv X pins σ H s)(g:Dr H a y o):s.TypeIs (.ref a) "dict":=by
 rcases g with⟨kvs,k,e,_,_⟩|⟨kvs,k,b,e,_,_,_⟩
 ·obtain⟨_,_,vs,_,dd⟩:=Fd I.hok e
  exact dd.typeIs
 ·obtain⟨_,_,xs,_,dd⟩:=EK I.hok e
  exact dd.typeIs
def LU(td ty:TE):TE:=fun σ H Q=>td σ H fun x H1=>ty σ H1 fun y H2=>∃a v,x=.ref a/\Dr H2 a y (some v)/\Q v H2
def L1(td ty tv:TE):TS:=fun D σ H=>tv σ H fun v H1=>td σ H1 fun x H2=>ty σ H2 fun y H3=>∃a H4,x=.ref a/\Fu H3 a y v H4/\D.nx σ H4
section
variable{X:Cx}{o i e value:Expr}{pos pos' tpos:Pos}{td ty tv:TE}
def G7(hu:X.A.units+1<cLine)(ho:PE X o td)(hi:PE X i ty)(hs:Ia i):PE X (.Subscript o i pos) (LU td ty):=by
 intro pins s σ H Q I h
 refine CY PySem.F.slot_dict_getitem.lookup hs (di (ho pins s σ H _ I h) fun u s1 ⟨x,H1,I1,rx,q1⟩=>di (hi pins s1 σ H1 _ I1 q1) fun iv s2 qr=> ?_)
 obtain⟨y,H2,I2,ry,a,v,ex,g,q2⟩:=qr
 subst ex
 obtain rfl:u=Value.ref a:=rx
 exact⟨zS I2 g,DP hu I2 g ry fun w' s3 I3 rw'=>⟨v,H2,I3,rw',q2⟩⟩
def HC(hu:X.A.units+1<cLine)(ho:PE X o td)(hi:PE X i ty)(hv:PE X value tv)(hs:swapsWith value (some (.Subscript o i pos')) pos.line X.env=pure false):
  PS X (.Assign [.Subscript o i pos'] value pos) (L1 td ty tv):=by
 intro pins s σ H D I h
 refine wpAny_Assign_Subscript (di (hv pins s σ H _ I h) fun r s1 ⟨v,H1,I1,rv,q1⟩=>di (ho pins s1 σ H1 _ I1 q1) fun u s2 ⟨x,H2,I2,rx,q2⟩=>di (hi pins s2 σ H2 _ I2 q2) fun iv s3 ⟨y,H3,I3,ry,a,H4,ex,g,q3⟩=> ?_) hs
 subst ex
 obtain rfl:u=Value.ref a:=rx
 exact D1 hu I3 g ry rv fun s4 I4=>⟨σ,H4,I4,q3⟩
end
def E6{P:Program}{w:World}{H:Hp}(h:Heap)(hb:sysModules<h.objs.size):dA P w H (h.push {cls:=.type "dict",data:=.dict #[]}) h.objs.size (.dK []):=
 ⟨Nat.zero_le _,beq_eq_false_iff_ne.mpr (Ne.symm (Qwq hb)),[],.nil,Heap.DictOf.new h⟩
def JE:TE:=fun _ H Q=>∀p,H p=none->Q (.ref p) (upd H p (.dK []))
section
variable{X:Cx}{pos:Pos}
def FN:PE X (.Dict [] [] pos) JE:=fun pins s σ H Q I h=>
 wpAny_Dict_empty ⟨.ref s.heap.objs.size,_,I.laid (a:=s.heap.objs.size) (o:=.dK []) (t':=s.toks) (fun _ _ q=>Qcq _ q) (Qmq _) (E6 s.heap I.big),rfl,h _ (I.hok.fresh (Qmq _))⟩
end
def kF(kvs more:List (Key×V)):List (Key×V):=more.foldl (fun acc kv=>putK acc kv.1 kv.2) kvs
def KV.merge:∀{more:List (Key×V)} {rs:List (Key×Value)} {kvs:List (Key×V)} {vs:List (Key×Value)},KV more rs->KV kvs vs->KV (kF kvs more) (merged vs rs):=by
 intro more rs kvs vs r
 unfold KV at r
 induction r generalizing kvs vs with
 |nil=>intro q;exact q
 | @cons p q ps qs h t ih=>
   intro r0
   have e:KV (putK kvs p.1 p.2) (stored vs q.1 q.2):=by
     have:=r0.put p.1 h.2
     rw[←h.1];exact this
   exact ih e
theorem jC:∀(more kvs:List (Key×V)),(kF kvs more).length<=kvs.length+more.length
 | [],kvs=>by show kvs.length<=kvs.length+0;omega
 | p::r,kvs=>by
   have h1:=jC r (putK kvs p.1 p.2)
   have h2:=jA kvs p.1 p.2
   show(kF (putK kvs p.1 p.2) r).length<=_
   rw[Qnq];omega
end L2
namespace HT
open PySem PyProof.Rows
section
open PySem.SeqAt
open PySem.AutoSeq1 (wpAny_loadPart')
open PySem.MeetsSeq PySem.MeetsSeq2 PySem.MeetsSeq3
end
section
variable{prog:Program}{w:World}{A:Around}{E:Value->Shared->Prop}{s:Shared}
def HE{t b:Addr}{vs ws:List Value}{Q:Value->Shared->Prop}(ht:IsTup s.heap t vs.toArray)(hb:IsTup s.heap b ws.toArray)(hv:vs≠[])
  (h1:ws= []->Q (.ref t) s) (h2:ws≠[]->Q (.ref s.heap.objs.size) {s with heap:=s.heap.push {cls:=.type "tuple",data:=.seq (vs++ws).toArray}})
  (hsz:vs.length+ws.length<=sizeLine):wpAny (model prog w) A (binaryOp .Add (.ref t) (.ref b)) Q E s:=by
 obtain⟨⟨cls,dd,data,sl⟩,ho,hc,n,hd⟩:=id ht
 obtain⟨⟨cls2,dd2,data2,sl2⟩,ho2,hc2,n2,hd2⟩:=id hb
 simp only at hc hd hc2 hd2
 subst hc hd hc2 hd2
 have e:vs.toArray++ws.toArray=(vs++ws).toArray:=by simp
 by_cases hw:ws= []
 ·exact concat_meets ⟨_,ho,rfl⟩ ⟨_,ho2,rfl⟩ noFill_tuple_add seq_tuple_add PySem.F.slot_tuple_add PySem.F.entry_tuple_add (PySem.F.args_tuple_add_2 _ _)
   (tuple_addW1 t b vs.toArray ws.toArray n n2 dd dd2 sl sl2 (by simpa using hv) (by simp[hw])) ⟨ho,ho2,h1 hw⟩
 ·refine concat_meets ⟨_,ho,rfl⟩ ⟨_,ho2,rfl⟩ noFill_tuple_add seq_tuple_add PySem.F.slot_tuple_add PySem.F.entry_tuple_add (PySem.F.args_tuple_add_2 _ _)
   (tuple_addW2 t b vs.toArray ws.toArray n n2 dd dd2 sl sl2 (by simpa using hv) (by simpa using hw) (by rw[Qjq,Qjq];exact hsz)) ⟨ho,ho2,?_⟩
  rw[e]
  exact h2 hw
def fX(n d:Nat):Option Int->Nat
 |none=>d
 |some v=>if v<0 then(v+(n:Int)).toNat else min v.toNat n
def ug(n d:Nat):fX n d none=d:=rfl
def B8(n d k:Nat):fX n d (some (k:Int))=min k n:=by
 show(if (k:Int)<0 then((k:Int)+(n:Int)).toNat else min (k:Int).toNat n)=min k n
 rw[Quq (by omega),Int.toNat_natCast]
def JD(n d:Nat)(hd:d<=n)(o:Option Int):fX n d o<=n:=by
 cases o with
 |none=>exact hd
 | some v=>
   show(if v<0 then(v+(n:Int)).toNat else min v.toNat n)<=n
   by_cases hv:v<0
   · rw[Qhq hv];omega
   · rw[Quq hv];exact Nat.min_le_right _ _
def Ck(v:Int)(n d:Nat):(if v<0 then max (v+(n:Int)) 0 else min v (n:Int))=((fX n d (some v):Nat):Int):=by
 show(if v<0 then max (v+(n:Int)) 0 else min v (n:Int))=(((if v<0 then(v+(n:Int)).toNat else min v.toNat n):Nat):Int)
 by_cases hv:v<0
 ·simp only[Qhq hv];omega
 ·simp only[Quq hv];omega
def Bv(lo hi:Option Int)(n:Nat):Builtin.Slice.sliceAdjust lo hi 1 (n:Int)=(((fX n 0 lo:Nat):Int),((fX n n hi:Nat):Int)):=by
 have h1:¬((1:Int)<0):=by omega
 unfold Builtin.Slice.sliceAdjust
 simp only[h1,if_false]
 refine Prod.ext ?_ ?_
 ·cases lo with
  |none=>rfl
  |some v=>exact Ck v n 0
 ·cases hi with
  |none=>rfl
  |some v=>exact Ck v n n
def BB(i j:Nat):Builtin.Slice.slicePlaces (i:Int) (j:Int) 1=j-i:=by
 unfold Builtin.Slice.slicePlaces
 have h1:(1:Int)>0:=by omega
 simp only[h1,if_true,Int.ediv_one]
 split <;>omega
def tm{v:Value}{o:Option Int}{Q:Option Int->Shared->Prop}(p:IsPart v o)(h:Q o s):wpAny (model prog w) A (Builtin.Slice.slicePartIndex v) Q E s:=by
 cases p with
 |none=>exact slicePart_none h
 |int i t=>exact slicePart_int h
def jP{sl:Addr}{vl vu:Value}{lo hi:Option Int}{n:Nat}{Q:Int×Int×Nat->Shared->Prop}(hs:s.heap.IsSliceOf sl vl vu .none)(pl:IsPart vl lo)(pu:IsPart vu hi)
  (h:Q (((fX n 0 lo:Nat):Int),1,fX n n hi-fX n 0 lo) s):wpAny (model prog w) A (Builtin.Slice.sliceApplied (.ref sl) (pure (n:Int))) Q E s:=by
 obtain⟨os,hos,hcs,hds⟩:=id hs
 unfold Builtin.Slice.sliceApplied Builtin.Slice.sliceFields
 refine Qaq (Qaq (QMq hos hds (x:=vl) rfl (Qaq (QMq hos hds (x:=vu) rfl (Qaq (QMq hos hds (x:=.none) rfl (Qgq ?_)))))))
 refine Qaq (slicePart_none ?_)
 show wpAny _ _ (if ((1:Int)==0)=true then _ else _) _ _ s
 rw[Quq (by decide)]
 refine Qaq (tm pl (Qaq (tm pu (Qaq (Qgq ?_)))))
 show wpAny _ _ (match Builtin.Slice.sliceAdjust lo hi 1 (n:Int) with|(lo,hi)=>pure (lo,(1:Int),Builtin.Slice.slicePlaces lo hi 1)) _ _ s
 rw[Bv lo hi n]
 show wpAny _ _ (pure (((fX n 0 lo:Nat):Int),(1:Int),Builtin.Slice.slicePlaces ((fX n 0 lo:Nat):Int) ((fX n n hi:Nat):Int) 1)) _ _ s
 rw[BB]
 exact Qgq h
def EA(xs:Array Value)(i k:Nat):((List.range k).filterMap fun(m:Nat)=>xs[((i:Int)+(m:Int)*1).toNat]?).toArray=((xs.toList.drop i).take k).toArray:=by
 have e:(fun(m:Nat)=>xs[((i:Int)+(m:Int)*1).toNat]?)=fun m=>xs[i+m]? :=by
  funext m
  have:((i:Int)+(m:Int)*1).toNat=i+m:=by omega
  rw[this]
 rw[e]
 have:=pick_run xs i k
 rw[List.filterMap_map] at this
 have e2:((fun x=>xs[x]?)∘fun x=>i+x)=fun m=>xs[i+m]? :=rfl
 rw[e2] at this
 rw[this]
def oK{t sl:Addr}{items:Array Value}{vl vu:Value}{lo hi:Option Int}{Q:Value->Shared->Prop}(ht:IsTup s.heap t items)(hs:s.heap.IsSliceOf sl vl vu .none)(pl:IsPart vl lo)(pu:IsPart vu hi)
  (hw:¬(fX items.size 0 lo=0/\fX items.size items.size hi=items.size))
  (h:Q (.ref s.heap.objs.size) {s with heap:=s.heap.push {cls:=.type "tuple",data:=.seq ((items.toList.drop (fX items.size 0 lo)).take (fX items.size items.size hi-fX items.size 0 lo)).toArray}})
  (hsz:items.size<=sizeLine):wpAny (model prog w) A (getItem (.ref t) (.ref sl)) Q E s:=by
 have htake:sizeOk (.seq ((items.toList.drop (fX items.size 0 lo)).take (fX items.size items.size hi-fX items.size 0 lo)).toArray):=by
  show((items.toList.drop (fX items.size 0 lo)).take (fX items.size items.size hi-fX items.size 0 lo)).toArray.size<=sizeLine
  rw[Qjq,Qxq,List.length_drop,Array.length_toList]
  omega
 have hj:fX items.size items.size hi<=items.size:=JD _ _ (Qmq _) hi
 obtain⟨os,hos,hcs,hds⟩:=id hs
 have hTs:s.TypeIs (.ref sl) "slice":=⟨os,hos,hcs⟩
 unfold getItem
 try with_reducible refine QLq ?_
 first|refine Qaq (Qgq ?_)|skip
 refine Qaq (wpAny_sequenceKey ht.typeIs (by decide) ?_)
 refine Qaq (wpAny_callSpecial?_slot (name:=Str.ofString "__getitem__") ht.typeIs PyProof.Rows.slot_tuple_getitem
  (wpAny_call_entry PyProof.Rows.slot_tuple_getitem ht.typeIs entry_tuple_getitem ?_ (args_tuple_getitem _ _)))
 show wpAny _ _ (Builtin.Tuple.tupleItemsOf (.ref t) >>= _) _ _ s
 refine Qaq (tupleItemsOf_ ht ?_)
 refine Qaq (wpAny_typeOf hTs ?_)
 rw[Qhq (by decide)]
 refine Qaq (jP hs pl pu ?_)
 have hno:¬((((fX items.size 0 lo:Nat):Int)==0&&(1:Int)==1&&(fX items.size items.size hi-fX items.size 0 lo)==items.size)=true):=by
  intro q
  rw[QCq,QCq] at q
  have q1:((fX items.size 0 lo:Nat):Int)=0:=eq_of_beq q.1.1
  have q2:fX items.size items.size hi-fX items.size 0 lo=items.size:=eq_of_beq q.2
  exact hw ⟨by omega,by omega⟩
 show wpAny _ _ (if (((fX items.size 0 lo:Nat):Int)==0&&(1:Int)==1&&(fX items.size items.size hi-fX items.size 0 lo)==items.size)=true then _ else _) _ _ s
 rw[Quq hno,EA]
 first
  |exact Qaq (m:=Builtin.Tuple.tupleExact _) (wpAny_newObj_type (Qgq ⟨_,rfl,Qgq h⟩) htake)
  |exact Qaq (m:=Builtin.Tuple.tupleExact _) (wpAny_newObj_type (Qaq (Qgq (Qgq ⟨_,rfl,Qgq h⟩))) htake)
  |exact Qaq (Qaq (m:=Builtin.Tuple.tupleExact _) (wpAny_newObj_type (Qgq (Qgq ⟨_,rfl,Qgq h⟩)) htake))
  |exact Qaq (Qaq (m:=Builtin.Tuple.tupleExact _) (wpAny_newObj_type (Qgq ⟨_,rfl,Qgq h⟩) htake))
end
end HT
namespace L2
open PySem PySem.Spec PyProof.Rows
abbrev TO:=St->Hp->(Option Int->Hp->Prop)->Prop
def PO(X:Cx)(e:Option Expr)(t:TO):Prop:=
 ∀ (pins:List (Addr×Obj)) (s:Shared) (σ:St) (H:Hp) (Q:Option Int->Hp->Prop),Inv X pins σ H s->t σ H Q→
   wpAny (model X.prog X.w) X.A (evalPart e X.env) (fun u s'=>∃o H',Inv X pins σ H' s'/\IsPart u o/\Q o H') X.xe s
def HY:TO:=fun _ H Q=>Q none H
def LI(t:TE):TO:=fun σ H Q=>t σ H fun x H1=>∃i,x=.int i/\Q (some i) H1
def intsAre_of{ns:List Int}:∀{us:List Value},bM (ns.map V.int) us->IntsAre us ns:=by
 induction ns with
 |nil=>intro us r;rw[List.map_nil] at r;cases r;exact .nil
 | cons n ns ih=>
   intro us r
   rw[QDq] at r
   cases r with
   | cons r1 r2=>
     obtain⟨t,e⟩:=r1
     subst e
     exact .cons n t (ih r2)
section
variable{X:Cx}{e:Expr}{te:TE}{lo hi:Option Expr}{tl th:TO}{pos p2:Pos}
def HR:PO X none HY:=by
 intro pins s σ H Q I h
 rw[evalPart_none]
 exact Qgq ⟨none,H,I,.none,h⟩
def Hv(h:PE X e te):PO X (some e) (LI te):=by
 intro pins s σ H Q I hw
 rw[evalPart_some]
 refine di (h pins s σ H _ I hw) fun u s1 qr=> ?_
 obtain⟨x,H1,I1,r1,q1⟩:=qr
 obtain⟨i,rfl,q⟩:=q1
 obtain⟨t,rfl⟩:=r1
 exact⟨some i,H1,I1,.int i t,q⟩
def MP(X:Cx)(r:V->Option Int->Option Int->Hp->VK->Prop):Prop:=
 ∀ (pins:List (Addr×Obj)) (s:Shared) (σ:St) (H:Hp) (x:V) (v vl vu:Value) (lo hi:Option Int) (sl:Addr) (Q:VK),Inv X pins σ H s->RelV x v->s.heap.IsSliceOf sl vl vu .none->IsPart vl lo->IsPart vu hi->r x lo hi H Q→
   ∃T id,typeLookup (.type T) "__getitem__"=pure (some (.builtin id))/\s.TypeIs v T/\wpAny (model X.prog X.w) X.A (getItem v (.ref sl)) (EP X pins σ Q) X.xe s
def NB(r:V->Option Int->Option Int->Hp->VK->Prop)(te:TE)(tl th:TO):TE:=fun σ H Q=>te σ H fun x H1=>tl σ H1 fun l H2=>th σ H2 fun u H3=>r x l u H3 Q
def F6{r:V->Option Int->Option Int->Hp->VK->Prop}(hr:MP X r)(he:PE X e te)(hl:PO X lo tl)(hu:PO X hi th):PE X (.Subscript e (.Slice lo hi none p2) pos) (NB r te tl th):=by
 intro pins s σ H Q I h
 refine Subscript_ (di (he pins s σ H _ I h) fun v s1 qr=> ?_)
 obtain⟨x,H1,I1,r1,q1⟩:=qr
 refine wpAny_Slice (di (hl pins s1 σ H1 _ I1 q1) fun vl s2 ⟨l,H2,I2,pl,q2⟩=>di (hu pins s2 σ H2 _ I2 q2) fun vu s3 qr=> ?_)
 obtain⟨u,H3,I3,pu,q3⟩:=qr
 rw[evalPart_none]
 refine Qgq ?_
 have I4:Inv X pins σ H3 {s3 with heap:=s3.heap.push {cls:=.type "slice",data:=.fields #[vl,vu,.none]}}:=I3.kept (t':=s3.toks) fun b ob q=>Qcq _ q
 obtain⟨T,id,hT,ht,hg⟩:=hr pins {s3 with heap:=s3.heap.push {cls:=.type "slice",data:=.fields #[vl,vu,.none]}} σ H3 x v vl vu l u s3.heap.objs.size Q I4 r1 (Heap.IsSliceOf.new ..) pl pu q3
 show wpAny (model X.prog X.w) X.A (subscriptTail e (.Slice lo hi none p2) v (.ref s3.heap.objs.size)) (EP X pins σ Q) X.xe {s3 with heap:=s3.heap.push {cls:=.type "slice",data:=.fields #[vl,vu,.none]}}
 exact tail_any (ops:= [.ref s3.heap.objs.size,v]) ht hT hg (by with_unfolding_all rfl)
def BI(xs:List V)(lo hi:Option Int):List V:=(xs.drop (HT.fX xs.length 0 lo)).take (HT.fX xs.length xs.length hi-HT.fX xs.length 0 lo)
def Am(xs:List V)(lo hi:Option Int):(BI xs lo hi).length<=xs.length:=by
 unfold BI
 rw[Qxq,List.length_drop]
 omega
def MK(K:PySem.W.Frag):V->Option Int->Option Int->Hp->VK->Prop:=fun x lo hi H Q=>∃a xs,x=.ref a/\hZ K H a xs∧
 ¬(HT.fX xs.length 0 lo=0/\HT.fX xs.length xs.length hi=xs.length)/\∀p,H p=none->Q (.ref p) (upd H p (.tup (BI xs lo hi)))
def Jk:MP X (MK X.K):=by
 intro pins s σ H x v vl vu lo hi sl Q I rx hs pl pu h
 obtain⟨a,xs,rfl,hx,hw,q⟩:=h
 cases rx
 obtain⟨its,r,ht,hz⟩:=I.tuple hx
 have hlen:its.toArray.size=xs.length:=by rw[Qjq];exact r.length.symm
 refine⟨"tuple",_,PyProof.Rows.slot_tuple_getitem.lookup,ht.typeIs,?_⟩
 refine HT.oK ht hs pl pu (by rw[hlen];exact hw) ?_ (by rw[hlen];exact hz)
 rw[hlen]
 refine⟨.ref s.heap.objs.size,_,I.laid (t':=s.toks) (o:=.tup (BI xs lo hi)) (fun b ob q=>Qcq _ q) (Qmq _) ?_,rfl,q _ (I.hok.fresh (Qmq _))⟩
 exact⟨QAq (Am xs lo hi) hz,_,(r.drop (HT.fX xs.length 0 lo)).take (HT.fX xs.length xs.length hi-HT.fX xs.length 0 lo),zA.new _ _⟩
def IS(K:PySem.W.Frag):R2:=fun x y H Q=>∃a b xs ys,x=.ref a/\y=.ref b/\hZ K H a xs/\hZ K H b ys/\xs≠[]/\xs.length+ys.length<=sizeLine∧
 (ys= []->Q (.ref a) H)/\(ys≠[]->∀p,H p=none->Q (.ref p) (upd H p (.tup (xs++ys))))
def bM.nil_iff{xs:List V}{us:List Value}(r:bM xs us):us= []↔xs= []:=by
 cases r with
 |nil=>simp
 |cons _ _=>simp
def HI:jf X (binaryOp .Add) (IS X.K):=by
 intro pins s σ H x y v u Q I rx ry h
 obtain⟨a,b,xs,ys,rfl,rfl,ha,hb,hx,hz,q1,q2⟩:=h
 cases rx
 cases ry
 obtain⟨its,r1,p1,_⟩:=I.tuple ha
 obtain⟨its2,r2,p2,_⟩:=I.tuple hb
 refine HT.HE p1 p2 (fun z=>hx (r1.nil_iff.mp z)) (fun z=>⟨.ref a,H,I,rfl,q1 (r2.nil_iff.mp z)⟩) (fun z=> ?_) (by rw[←r1.length,←r2.length];exact hz)
 refine⟨.ref s.heap.objs.size,_,I.laid (t':=s.toks) (o:=.tup (xs++ys)) (fun b ob q=>Qcq _ q) (Qmq _) ?_,rfl,q2 (fun w=>z (r2.nil_iff.mpr w)) _ (I.hok.fresh (Qmq _))⟩
 exact⟨by rw[lQa];exact hz,_,r1.append r2,zA.new _ _⟩
end
def Ek(n:Nat)(i:Int):Option Nat:=if 0<=i then(if i<n then some i.toNat else none) else if -(n:Int)<=i then some (i+n).toNat else none
def k8{α:Type}(xs:List α)(i:Int):Option α:=(Ek xs.length i).bind fun j=>xs[j]?
def xW{n:Nat}{i:Int}{j:Nat}(h:Ek n i=some j):seqIndex? i n=some j/\j<n/\ -(n:Int)<=i/\i<n:=by
 unfold Ek at h
 by_cases h0:0<=i
 ·rw[Qhq h0] at h
  by_cases h1:i<n
  ·rw[Qhq h1] at h
   have e:i.toNat=j:=Option.some.inj h
   exact⟨by rw[seqIndex_of h0 h1,e],by omega,by omega,h1⟩
  ·rw[Quq h1] at h;cases h
 ·rw[Quq h0] at h
  by_cases h1: -(n:Int)<=i
  ·rw[Qhq h1] at h
   have e:(i+n).toNat=j:=Option.some.inj h
   exact⟨by rw[seqIndex_neg (by omega) h1,e],by omega,h1,by omega⟩
  ·rw[Quq h1] at h;cases h
def yp{α:Type}{xs:List α}{i:Int}{v:α}(h:k8 xs i=some v):∃j,seqIndex? i xs.length=some j/\xs[j]?=some v/\j<xs.length/\ -(xs.length:Int)<=i/\i<xs.length:=by
 unfold k8 at h
 cases e:Ek xs.length i with
 |none=>rw[e] at h;cases h
 | some j=>
   rw[e] at h
   obtain⟨h1,h2,h3,h4⟩:=xW e
   exact⟨j,h1,h,h2,h3,h4⟩
def CB(b:Expr):Prop:=∀o i,subscripted b false o i=operate [o,i] (getItem o i)
def Hh(X:Cx)(r:R2):Prop:=
 ∀ (value slice:Expr) (pins:List (Addr×Obj)) (s:Shared) (σ:St) (H:Hp) (x y:V) (v u:Value) (Q:VK),Inv X pins σ H s->RelV x v->RelV y u->r x y H Q→
   subscripted slice false v u=operate [v,u] (getItem v u)->wpAny (model X.prog X.w) X.A (subscriptTail value slice v u) (EP X pins σ Q) X.xe s
def Ln(X:Cx)(id:String)(r:V->List V->Hp->VK->Prop):Prop:=
 ∀ (pins:List (Addr×Obj)) (s:Shared) (σ:St) (H:Hp) (x:V) (xs:List V) (v:Value) (us:List Value) (Q:VK),Inv X pins σ H s->RelV x v->bM xs us->r x xs H Q→
   wpAny (model X.prog X.w) X.A (call (.builtin id) (v::us)) (EP X pins σ Q) X.xe s
section
variable{X:Cx}{a b:Expr}{ta tb:TE}{pos:Pos}
def Hh.or{r r':R2}(h:Hh X r)(h':Hh X r'):Hh X (fun x y H Q=>r x y H Q\/r' x y H Q):=by
 intro value slice pins s σ H x y v u Q I rx ry q hs
 rcases q with q|q
 ·exact h value slice pins s σ H x y v u Q I rx ry q hs
 ·exact h' value slice pins s σ H x y v u Q I rx ry q hs
def L_{r:R2}(hr:Hh X r)(ha:PE X a ta)(hb:PE X b tb)(hs:CB b):PE X (.Subscript a b pos) (GO r ta tb):=by
 intro pins s σ H Q I h
 exact Subscript_ (KC ha hb I h fun v u s2 x y H2 I2 rx ry q=>hr a b pins s2 σ H2 x y v u Q I2 rx ry q (hs _ _))
def LD(K:PySem.W.Frag):R2:=fun x y H Q=>∃p xs i v,x=.ref p/\y=.int i/\iK K H p xs/\k8 xs i=some v/\Q v H
def LL(K:PySem.W.Frag):R2:=fun x y H Q=>∃p xs i v,x=.ref p/\y=.int i/\hZ K H p xs/\k8 xs i=some v/\Q v H
def KR:R2:=fun x y H Q=>∃z i c,x=.str z/\y=.int i/\z.length<=sizeLine/\k8 z.cps.toList i=some c/\Q (.str ⟨#[c]⟩) H
def Hs:Hh X (LD X.K):=by
 intro value slice pins s σ H x y v u Q I rx ry h hs
 obtain⟨p,xs,i,z,rfl,rfl,hq,he,q⟩:=h
 cases rx
 obtain⟨t,rfl⟩:=ry
 obtain⟨its,r,pl,hz⟩:=I.list hq
 obtain⟨j,h1,h2,h3,h4,h5⟩:=yp he
 obtain⟨w,ew,rw'⟩:=r.get h2
 have hl:=r.length
 have hn:=mi
 have fin:EP X pins σ Q w s:=⟨z,H,I,rw',q⟩
 by_cases h0:0<=i
 ·have hj:i.toNat=j:=by
   rw[seqIndex_of h0 h5] at h1
   exact Option.some.inj h1
  exact item_listR pl.isList h0 (by omega) (by rw[hj];simpa using ew) fin hs
 ·have hj:(i+(its.toArray.size:Int)).toNat=j:=by
   rw[seqIndex_neg (by omega) h4] at h1
   rw[Qjq,←hl]
   exact Option.some.inj h1
  exact subscriptTail_builtinR (x:=w) pl.isList.typeIs slot_list_getitem.lookup
   (wpAny_getItem_list_neg (Q:=fun r s'=>r=w/\EP X pins σ Q r s') pl.isList (by omega) (by rw[Qjq] <;>omega) (by omega) (by rw[hj];simpa using ew) ⟨rfl,fin⟩) hs
def Ks:Hh X (LL X.K):=by
 intro value slice pins s σ H x y v u Q I rx ry h hs
 obtain⟨p,xs,i,z,rfl,rfl,hq,he,q⟩:=h
 cases rx
 obtain⟨t,rfl⟩:=ry
 obtain⟨its,r,pl,hz⟩:=I.tuple hq
 obtain⟨j,h1,h2,h3,h4,h5⟩:=yp he
 obtain⟨w,ew,rw'⟩:=r.get h2
 have hl:=r.length
 have hn:=mi
 have fin:EP X pins σ Q w s:=⟨z,H,I,rw',q⟩
 exact subscriptTail_builtinR (x:=w) pl.typeIs slot_tuple_getitem.lookup
  (getItem_tuple (j:=j) (Q:=fun r s'=>r=w/\EP X pins σ Q r s') pl (by omega) (by omega) (by rw[Qjq,←hl];exact h1) (by simpa using ew) ⟨rfl,fin⟩) hs
def JZ:Hh X KR:=by
 intro value slice pins s σ H x y v u Q I rx ry h hs
 obtain⟨z,i,c,rfl,rfl,hz,he,q⟩:=h
 obtain⟨t,rfl⟩:=rx
 obtain⟨t',rfl⟩:=ry
 obtain⟨j,h1,h2,h3,h4,h5⟩:=yp he
 have hl:z.cps.toList.length=z.length:=by simp[Str.length]
 rw[hl] at h1 h4 h5
 have hn:=mi
 exact tail_any (typeIs_str s z t) slot_str_getitem.lookup (getItem_str (c:=c) (by
  have e1:decide (i< -(2^63:Int))=false:=Qdq (by omega)
  have e2:decide (i>=2^63)=false:=Qdq (by omega)
  rw[e1,e2,Bool.or_false]) (by rw[h1];simpa using h2) ⟨.str ⟨#[c]⟩,H,I.tok _,⟨_,rfl⟩,q⟩) hs
def Nm(K:PySem.W.Frag):R2:=fun x y H Q=>LD K x y H Q\/LL K x y H Q\/KR x y H Q
def Ky:Hh X (Nm X.K):=Hs.or (Ks.or JZ)
def BR(its:List Value)(n j:Nat)(u:Value):Obj.mapSeq (·.setIfInBounds j u) {cls:=.type "list",data:=.seq its.toArray n}={cls:=.type "list",data:=.seq (its.set j u).toArray n}:=by
 simp[Obj.mapSeq]
def Inv.lst{pins:List (Addr×Obj)}{σ:St}{H:Hp}{s:Shared}{p:Addr}{xs:List V}(I:Inv X pins σ H s)(h:H p=some (.lst xs)):
  ∃(its:List Value) (n:Nat),bM xs its/\s.heap.get? p=some {cls:=.type "list",data:=.seq its.toArray n}/\xs.length<=sizeLine:=by
 obtain⟨z,its,n,r,e⟩:=I.hok p _ h
 exact⟨its,n,r,e,z⟩
def Inv.lstUpd{pins:List (Addr×Obj)}{σ:St}{H:Hp}{s:Shared}{p:Addr}{xs ys:List V}{its its':List Value}{n n':Nat}{f:Obj->Obj}(I:Inv X pins σ H s)(h:H p=some (.lst xs))
  (ho:s.heap.get? p=some {cls:=.type "list",data:=.seq its.toArray n}) (hf:f {cls:=.type "list",data:=.seq its.toArray n}={cls:=.type "list",data:=.seq its'.toArray n'}) (r:bM ys its') (hz:ys.length<=sizeLine) (t:Nat):
  Inv X pins σ (upd H p (.lst ys)) {s with heap:=s.heap.update p f,toks:=t}:=by
 have e:(s.heap.update p f).get? p=some {cls:=.type "list",data:=.seq its'.toArray n'}:=by
  rw[Heap.get?_update_self f ho (by rw[hf] <;>rfl),hf]
 refine I.write (x:=p) (e:=p) (by rw[h];trivial) (.inl rfl) (fun b u hb q=>(Heap.get?_update_other _ _ (Ne.symm hb)).trans q) ⟨_,e⟩ ?_
 exact⟨hz,its',n',r,e⟩
def IW:V->V->V->Hp->(Hp->Prop)->Prop:=fun o i v H Q=>∃p xs k j,o=.ref p/\i=.int k/\H p=some (.lst xs)/\Ek xs.length k=some j/\Q (upd H p (.lst (xs.set j v)))
def set_list:J2 X IW:=by
 intro pins s σ H o i v ov iv u Q I ro ri rv h
 obtain⟨p,xs,k,j,rfl,rfl,hp,hj,q⟩:=h
 cases ro
 obtain⟨t,rfl⟩:=ri
 obtain⟨its,n,r,ho,hz⟩:=I.lst hp
 obtain⟨h1,h2,h3,h4⟩:=xW hj
 have hl:=r.length
 have hn:=mi
 have I':Inv X pins σ (upd H p (.lst (xs.set j v))) {s with heap:=s.heap.update p (Obj.mapSeq (·.setIfInBounds j u))}:=
  I.lstUpd hp ho (BR its n j u) (r.set rv j) (by rw[List.length_set];exact hz) s.toks
 by_cases h0:0<=k
 ·have hk:k.toNat=j:=by
   rw[seqIndex_of h0 h4] at h1
   exact Option.some.inj h1
  exact PySem.W.ki_setAt ho h0 (by omega) (by rw[Qjq,←hl];exact h4) (by rw[hk];exact⟨_,I',q⟩)
 ·have hk:(k+(its.toArray.size:Int)).toNat=j:=by
   rw[seqIndex_neg (by omega) h3] at h1
   rw[Qjq,←hl]
   exact Option.some.inj h1
  exact PySem.W.ki_setBack ho (by omega) (by rw[Qjq,←hl];exact h3) (by omega) (by rw[hk];exact⟨_,I',q⟩)
def fO:V->Bool
 |.non=>true
 |.bl _=>true
 |.int _=>true
 |.str _=>true
 |_=>false
noncomputable def jE:V->V->Bool
 |.non,.non=>true
 |.bl a,.bl b=>a==b
 |.bl a,.int b=>(if a then 1 else 0)==b
 |.int a,.bl b=>a==(if b then 1 else 0)
 |.int a,.int b=>a==b
 |.str a,.str b=>a==b
 |_,_=>false
def EJ{A:Around}{s:Shared}{y x:V}{u v:Value}(ry:RelV y u)(rx:RelV x v)(fy:fO y=true)(fx:fO x=true):SeqAt.EqAt A s u v (jE y x):=by
 cases y with
 | non=>
   cases ry
   cases x with
   |non=>cases rx;exact SeqAt.EqAt.same _
   |bl b=>cases rx;exact SeqAt.EqAt.none_bool b
   |int b=>obtain⟨t,rfl⟩:=rx;exact SeqAt.EqAt.none_int b t
   |str b=>obtain⟨t,rfl⟩:=rx;exact SeqAt.EqAt.none_str b t
   |_=>exact absurd (show false=true from fx) Qtq
 | bl a=>
   cases ry
   cases x with
   |non=>cases rx;exact SeqAt.EqAt.bool_none a
   |bl b=>cases rx;exact SeqAt.EqAt.bool_bool a b
   |int b=>obtain⟨t,rfl⟩:=rx;exact SeqAt.EqAt.bool_int a b t
   |str b=>obtain⟨t,rfl⟩:=rx;exact SeqAt.EqAt.bool_str a b t
   |_=>exact absurd (show false=true from fx) Qtq
 | int a=>
   obtain⟨t',rfl⟩:=ry
   cases x with
   |non=>cases rx;exact SeqAt.EqAt.int_none a t'
   |bl b=>cases rx;exact SeqAt.EqAt.int_bool a t' b
   |int b=>obtain⟨t,rfl⟩:=rx;exact SeqAt.EqAt.int_int a t' b t
   |str b=>obtain⟨t,rfl⟩:=rx;exact SeqAt.EqAt.int_str a t' b t
   |_=>exact absurd (show false=true from fx) Qtq
 | str a=>
   obtain⟨t',rfl⟩:=ry
   cases x with
   |non=>cases rx;exact SeqAt.EqAt.str_none a t'
   |bl b=>cases rx;exact SeqAt.EqAt.str_bool a t' b
   |int b=>obtain⟨t,rfl⟩:=rx;exact SeqAt.EqAt.str_int a t' b t
   |str b=>obtain⟨t,rfl⟩:=rx;exact SeqAt.EqAt.str_str a t' b t
   |_=>exact absurd (show false=true from fx) Qtq
 |_=>exact absurd (show false=true from fy) Qtq
def yR(x:V)(u:Value):Bool:=match u with
 |.none=>jE .non x
 |.bool b=>jE (.bl b) x
 |.int i _=>jE (.int i) x
 |.str z _=>jE (.str z) x
 |_=>false
def uM{x y:V}{u:Value}(r:RelV y u)(f:fO y=true):yR x u=jE y x:=by
 cases y with
 |non=>cases r;rfl
 |bl b=>cases r;rfl
 |int i=>obtain⟨t,rfl⟩:=r;rfl
 |str z=>obtain⟨t,rfl⟩:=r;rfl
 |_=>exact absurd (show false=true from f) Qtq
theorem ow{x:V}:∀{xs:List V} {us:List Value},bM xs us->xs.all fO=true->us.any (yR x)=xs.any fun y=>jE y x
 |_,_,.nil,_=>rfl
 | y::xs,u::us,.cons r t,f=>by
   rw[List.all_cons,QCq] at f
   rw[List.any_cons,List.any_cons,uM r f.1,ow t f.2]
theorem iW{A:Around}{s:Shared}{x:V}{v:Value}(rx:RelV x v)(fx:fO x=true):∀{xs:List V} {us:List Value},bM xs us->xs.all fO=true->∀u∈us,SeqAt.EqAt A s u v (yR x u)
 |_,_,.nil,_=>fun u hu=>by cases hu
 | y::xs,u::us,.cons r t,f=>fun u' hu=>by
   rw[List.all_cons,QCq] at f
   rcases Qsq.mp hu with rfl|hu
   · rw[uM r f.1];exact EJ r rx f.1 fx
   · exact iW rx fx t f.2 u' hu
def EI(x:V)(xs:List V):Bool:=xs.any fun y=>jE y x
def MB(K:PySem.W.Frag)(neg:Bool):R2:=fun x y H Q=>∃p xs,y=.ref p/\(iK K H p xs\/hZ K H p xs)/\fO x=true/\xs.all fO=true/\Q (.bl (if neg then !EI x xs else EI x xs)) H
def D4:jf X (compareOp .In) (MB X.K false):=by
 intro pins s σ H x y v u Q I rx ry h
 obtain⟨p,xs,rfl,hq,fx,fs,q⟩:=h
 cases ry
 rcases hq with hq|hq
 ·obtain⟨its,r,pl,hz⟩:=I.list hq
  refine SeqAt.in_listAt (yR x) pl.isList (fun w hw=>iW rx fx r fs w (by simpa using hw)) ⟨.bl _,H,I,rfl,?_⟩
  rw[show its.toArray.any (yR x)=its.any (yR x) by simp,ow r fs]
  exact q
 ·obtain⟨its,r,pl,hz⟩:=I.tuple hq
  refine SeqAt.in_tupleAt (yR x) pl (fun w hw=>iW rx fx r fs w (by simpa using hw)) ⟨.bl _,H,I,rfl,?_⟩
  rw[show its.toArray.any (yR x)=its.any (yR x) by simp,ow r fs]
  exact q
def xO:jf X (compareOp .NotIn) (MB X.K true):=by
 intro pins s σ H x y v u Q I rx ry h
 obtain⟨p,xs,rfl,hq,fx,fs,q⟩:=h
 cases ry
 rcases hq with hq|hq
 ·obtain⟨its,r,pl,hz⟩:=I.list hq
  refine SeqAt.notIn_listAt (yR x) pl.isList (fun w hw=>iW rx fx r fs w (by simpa using hw)) ⟨.bl _,H,I,rfl,?_⟩
  rw[show its.toArray.any (yR x)=its.any (yR x) by simp,ow r fs]
  exact q
 ·obtain⟨its,r,pl,hz⟩:=I.tuple hq
  refine SeqAt.notIn_tupleAt (yR x) pl (fun w hw=>iW rx fx r fs w (by simpa using hw)) ⟨.bl _,H,I,rfl,?_⟩
  rw[show its.toArray.any (yR x)=its.any (yR x) by simp,ow r fs]
  exact q
def w6:i4 X (.builtin "len") (fun xs H Q=>∃p ys,xs= [.ref p]/\(iK X.K H p ys\/hZ X.K H p ys)/\Q (.int ys.length) H):=by
 intro pins s σ H xs us Q I r h
 obtain⟨p,ys,rfl,hq,q⟩:=h
 obtain⟨u,rfl,rx⟩:=vals1 r
 cases rx
 have hn:=mi
 rcases hq with hq|hq
 ·obtain⟨its,r',pl,hz⟩:=I.list hq
  have hlen:=r'.length
  exact Calls.call_len_list pl.isList (by simp only[Qjq] <;>omega) ⟨.int ys.length,H,I.tok _,⟨s.toks+1,by rw[Qjq,hlen]⟩,q⟩
 ·obtain⟨its,r',pl,hz⟩:=I.tuple hq
  have hlen:=r'.length
  exact len_tuple pl (by simp only[Qjq] <;>omega) ⟨.int ys.length,H,I.tok _,⟨s.toks+1,by rw[Qjq,hlen]⟩,q⟩
def u7:i4 X (.type "tuple") (fun xs H Q=>∃p ys,xs= [.ref p]/\((iK X.K H p ys/\∀l,H l=none->Q (.ref l) (upd H l (.tup ys)))\/(hZ X.K H p ys/\Q (.ref p) H))):=by
 intro pins s σ H xs us Q I r h
 obtain⟨p,ys,rfl,h⟩:=h
 obtain⟨u,rfl,rx⟩:=vals1 r
 cases rx
 rcases h with⟨hq,q⟩|⟨hq,q⟩
 ·obtain⟨its,r',pl,hz⟩:=I.list hq
  have hlen:=r'.length
  refine call_tuple_list pl.isList (fun h' kp=> ?_) (by simp only[Qjq] <;>omega)
  have I1:Inv X pins σ H {s with heap:=h'}:=I.kept (t':=s.toks) kp
  have I2:Inv X pins σ (upd H h'.objs.size (.tup ys)) {s with heap:=h'.push {cls:=.type "tuple",data:=.seq its.toArray}}:=
   I1.laid (t':=s.toks) (fun b o e=>Qcq _ e) (Qmq _) (show dA X.prog X.w _ _ _ (.tup ys) from⟨hz,its,r',zA.new _ _⟩)
  exact⟨.ref h'.objs.size,_,I2,rfl,q _ (I1.hok.fresh (Qmq _))⟩
 ·obtain⟨its,r',pl,hz⟩:=I.tuple hq
  exact call_tuple_same pl ⟨.ref p,H,I,rfl,q⟩
def Ny(K:PySem.W.Frag)(T:String)(x:V)(H:Hp):Prop:=match x with
 |.str _=>T="str"
 |.int _=>T="int"
 |.ref p=>(T="list" /\∃xs,iK K H p xs)\/(T="tuple" /\∃o,K.lookup p=some o/\o.cls=.type "tuple" /\o.dict=none)∨
   (T="dict" /\((∃kvs,H p=some (.dK kvs))\/∃kvs,H p=some (.dT kvs)))\/(T="set" /\∃S n,H p=some (.set S n))
 |_=>False
def Km{pins:List (Addr×Obj)}{σ:St}{H:Hp}{s:Shared}{T:String}{x:V}{v:Value}(I:Inv X pins σ H s)(r:RelV x v)(ty:Ny X.K T x H):
  s.TypeIs v T/\∀a,v=.ref a->∃ob,s.heap.get? a=some ob/\ob.dict=none:=by
 cases x with
 | str z=>
   obtain⟨t,rfl⟩:=r
   cases (show T="str" from ty)
   exact⟨typeIs_str s z t,fun _ e=>nomatch e⟩
 | int i=>
   obtain⟨t,rfl⟩:=r
   cases (show T="int" from ty)
   exact⟨typeIs_int s i t,fun _ e=>nomatch e⟩
 | ref p=>
   cases r
   rcases ty with⟨rfl,xs,hq⟩|⟨rfl,o,hk,hc,hd⟩|⟨rfl,hk⟩|⟨rfl,S,n,hk⟩
   · obtain⟨its,_,pl,_⟩:=I.list hq
     refine⟨pl.isList.typeIs,fun a e=> ?_⟩
     cases e
     obtain⟨o,n,e,c,hd,_⟩:=pl
     exact⟨o,e,hd⟩
   · refine⟨⟨o,I.kIn p o hk,hc⟩,fun a e=> ?_⟩
     cases e
     exact⟨o,I.kIn _ o hk,hd⟩
   · have z:∃o,s.heap.get? p=some o/\o.ExactDict:=by
       rcases hk with⟨kvs,hk⟩|⟨kvs,hk⟩
       · obtain⟨_,_,_,_,o,_,_,e,ex,_⟩:=I.hok p _ hk
         exact⟨o,e,ex⟩
       · obtain⟨_,_,_,_,o,_,_,e,ex,_⟩:=I.hok p _ hk
         exact⟨o,e,ex⟩
     obtain⟨o,e,ex⟩:=z
     refine⟨⟨o,e,ex.1⟩,fun a e2=> ?_⟩
     cases e2
     exact⟨o,e,ex.2.1⟩
   · obtain⟨o,_,_,_,e,ex,_⟩:=I.hok p _ hk
     refine⟨⟨o,e,ex.1⟩,fun a e2=> ?_⟩
     cases e2
     exact⟨o,e,ex.2.1⟩
 |_=>exact False.elim ty
def Mk(K:PySem.W.Frag)(T:String)(r:V->List V->Hp->VK->Prop)(to:TE)(t:TA):TE:=fun σ H Q=>to σ H fun x H1=>Ny K T x H1/\t σ H1 fun xs H2=>r x xs H2 Q
variable{o e:Expr}{es:List Expr}{to:TE}{t:TA}{name:Str}{apos cpos:Pos}{T id:String}{r:V->List V->Hp->VK->Prop}
def wA(pa:PlainAttrs T)(slot:Slot T name id)(hty:typeOf (.builtin id)=pure (.type "method_descriptor"))(hm:Ln X id r)(ho:PE X o to)(ha:PA X (e::es) t)
  (hbase:attributeBase o name X.env (eval o X.env)=eval o X.env:=by rfl)
  (hfew:((backTo cpos (starEach (e::es) X.env)).all (fun x=> !x.1)&&(backToKw cpos (keywordEach [] X.env)).all (fun x=>x.1.isSome)
   &&decide ((e::es).length+([]:List Keyword).length+(if ([]:List Keyword).isEmpty then 0 else 1)<30))=true:=by rfl)
  (hline:(apos.endLine==cpos.line)=true:=by rfl) (hs:starEach (e::es) X.env=(false,eval e X.env)::starEach es X.env:=by rfl) (hplain:(backTo cpos (starEach es X.env)).any (·.1)=false:=by rfl):
  PE X (.Call (.Attribute o name apos) (e::es) [] cpos) (Mk X.K T r to t):=by
 intro pins s σ H Q I h
 refine wpAny_Call_method_late hbase hfew hline rfl (di (ho pins s σ H _ I h) fun v s1 qr=> ?_)
 obtain⟨x,H1,I1,r1,ty,q1⟩:=qr
 obtain⟨h1,h2⟩:=Km I1 r1 ty
 refine⟨T,id,pa,slot,hty,h1,h2,?_⟩
 have hA:=ha cpos pins s1 σ H1 _ I1 q1
 rw[hs] at hA⊢
 refine Calls.callWith_builtin (by show(false||(backTo cpos (starEach es X.env)).any (·.1))=false;rw[hplain] <;>rfl) (Calls.evalArgs_plain ?_)
 exact di hA fun us s2 ⟨vs,H2,I2,r2,q2⟩=>hm pins s2 σ H2 x vs v us Q I2 r1 r2 q2
end
def Mm(X:Cx)(id:String)(r:V->List V->Hp->VK->Prop):Prop:=
 ∀ (pins:List (Addr×Obj)) (s:Shared) (σ:St) (H:Hp) (x:V) (xs:List V) (v:Value) (us:List Value) (Q:VK),Inv X pins σ H s->RelV x v->bM xs us->r x xs H Q→
   wpAny (model X.prog X.w) X.A (call (.builtin id) (v::us)) (EP X pins σ Q) X.xe s
def bM.one:∀{x:V} {us:List Value},bM [x] us->∃u,us= [u]/\RelV x u
 |_,_,.cons r .nil=>⟨_,rfl,r⟩
theorem bM.eraseIdx:∀{xs:List V} {us:List Value} (i:Nat),bM xs us->bM (xs.eraseIdx i) (us.eraseIdx i)
 |_,_,_,.nil=>.nil
 |_,_,0,.cons _ t=>t
 |_,_,i+1,.cons r t=>.cons r (bM.eraseIdx i t)
theorem bM.rep{xs:List V}{us:List Value}(h:bM xs us):∀k:Nat,bM (List.replicate k xs).flatten (List.replicate k us).flatten
 |0=>.nil
 | k+1=>by
   rw[QNq,QNq,List.flatten_cons,List.flatten_cons]
   exact bM.append h (bM.rep h k)
theorem wQ{α:Type}:∀(l:List α) (i:Nat),(l.eraseIdx i).length<=l.length
 | [],_=>Qmq _
 |_::_,0=>Nat.le_succ _
 |_::r,i+1=>Nat.succ_le_succ (wQ r i)
theorem foldl_rep(its:List Value):∀(k:Nat) (acc:List Value),
  List.foldl (fun x1 x2=>x1++x2) acc.toArray (List.replicate k its.toArray)=(acc++(List.replicate k its).flatten).toArray
 |0,acc=>by simp
 | k+1,acc=>by
   have e:acc.toArray++its.toArray=(acc++its).toArray:=by simp
   have e2:(acc++its)++(List.replicate k its).flatten=acc++(List.replicate (k+1) its).flatten:=by
     rw[QNq,List.flatten_cons,Qvq]
   rw[←e2,←foldl_rep its k (acc++its),←e,QNq,List.foldl_cons]
section
variable{X:Cx}{pins:List (Addr×Obj)}{σ:St}{H:Hp}{s:Shared}{l b:Addr}{xs ys zs:List V}
def Inv.lset{its its':List Value}{n:Nat}{f:Array Value->Array Value}{t':Nat}(I:Inv X pins σ H s)(hH:H l=some (.lst xs))
  (e:s.heap.get? l=some {cls:=.type "list",data:=.seq its.toArray n}) (hf:f its.toArray=its'.toArray) (hv:bM ys its') (hz:ys.length<=sizeLine):
  Inv X pins σ (upd H l (.lst ys)) {s with heap:=s.heap.update l (Obj.mapSeq f),toks:=t'}:=by
 have q:=PySem.IsL.update e f
 rw[hf] at q
 refine I.write (x:=l) (e:=l) (by rw[hH];exact trivial) (.inl rfl) (fun b' u hb hu=>(Heap.get?_update_other s.heap (Obj.mapSeq f) (Ne.symm hb)).trans hu) ⟨_,q⟩ ?_
 exact⟨hz,its',_,hv,q⟩
def Inv.lnew{its:List Value}{t':Nat}(I:Inv X pins σ H s)(hv:bM ys its)(hz:ys.length<=sizeLine):
  Inv X pins σ (upd H s.heap.objs.size (.lst ys)) {s with heap:=s.heap.push {cls:=.type "list",data:=.seq its.toArray},toks:=t'}:=
 I.laid (fun _ _ q=>Qcq _ q) (Qmq _) ⟨hz,its,0,hv,Qrq _ rfl⟩
def Inv.fresh(I:Inv X pins σ H s):H s.heap.objs.size=none:=I.hok.fresh (Qmq _)
def Inv.lstM(I:Inv X pins σ H s)(hH:H l=some (.lst xs)):xs.length<=sizeLine/\∃(its:List Value) (n:Nat),bM xs its/\xs.length=its.length/\s.heap.get? l=some {cls:=.type "list",data:=.seq its.toArray n}:=by
 obtain⟨z,its,n,r,e⟩:=I.hok l _ hH
 exact⟨z,its,n,r,r.length,e⟩
def tY{n:Nat}(h:n<=sizeLine):Builtin.List.listTooLong n=false:=by
 unfold Builtin.List.listTooLong
 exact Qdq (by omega)
end
section
variable{X:Cx}
def Ce:V->List V->Hp->VK->Prop:=fun x vs H Q=>∃l xs y,x=.ref l/\vs= [y]/\H l=some (.lst xs)/\xs.length<sizeLine/\Q .non (upd H l (.lst (xs++ [y])))
def pK:Mm X "list.append" Ce:=by
 intro pins s σ H x vs v us Q I rx rv h
 obtain⟨l,xs,y,rfl,rfl,hH,hz,q⟩:=h
 cases rx
 obtain⟨u,rfl,ru⟩:=rv.one
 obtain⟨z,its,n,r,hl,e⟩:=I.lstM hH
 refine call_meets F.slot_list_append ⟨_,e,rfl⟩ F.entry_list_append (F.args_list_append_2 _ _) (PySem.list_append l its.toArray n u (by rw[Qjq];omega)) ⟨e,?_⟩
 refine⟨.non,_,I.lset (its':=its++ [u]) hH e (by simp) (r.append (.cons ru .nil)) ?_,rfl,q⟩
 rw[lQa,List.length_singleton]
 omega
def CJ:V->List V->Hp->VK->Prop:=fun x vs H Q=>∃l b xs zs,x=.ref l/\vs= [.ref b]/\H l=some (.lst xs)/\H b=some (.lst zs)/\xs.length+zs.length<=sizeLine/\Q .non (upd H l (.lst (xs++zs)))
def D5:Mm X "list.extend" CJ:=by
 intro pins s σ H x vs v us Q I rx rv h
 obtain⟨l,b,xs,zs,rfl,rfl,hH,hB,hz,q⟩:=h
 cases rx
 obtain⟨u,rfl,ru⟩:=rv.one
 cases ru
 obtain⟨z,its,n,r,hl,e⟩:=I.lstM hH
 obtain⟨z2,its2,n2,r2,hl2,e2⟩:=I.lstM hB
 have hsz:its.toArray.size+its2.toArray.size<=sizeLine:=by rw[Qjq,Qjq];omega
 have hlong:¬(!its.toArray.isEmpty&&Builtin.List.listTooLong (its.toArray.size+its2.toArray.size))=true:=by
  rw[tY hsz,Bool.and_false]
  exact Qtq
 refine call_meets F.slot_list_extend ⟨_,e,rfl⟩ F.entry_list_extend (F.args_list_extend_2 _ _)
  (AutoSeq1.list_extend_list_list_0 l its.toArray n b its2.toArray n2 hlong (by rw[Qjq];omega) (by omega)) ⟨e,e2,?_⟩
 refine⟨.non,_,I.lset (its':=its++its2) hH e (by simp) (r.append r2) ?_,rfl,q⟩
 rw[lQa]
 omega
def GI:V->List V->Hp->VK->Prop:=fun x vs H Q=>∃l xs i k y,x=.ref l/\vs= [.int i]/\H l=some (.lst xs)/\ -(2^63)<=i/\i<2^63/\seqIndex? i xs.length=some k/\xs[k]?=some y/\Q y (upd H l (.lst (xs.eraseIdx k)))
def FJ:Mm X "list.pop" GI:=by
 intro pins s σ H x vs v us Q I rx rv h
 obtain⟨l,xs,i,k,y,rfl,rfl,hH,h1,h2,hk,hy,q⟩:=h
 cases rx
 obtain⟨u,rfl,ru⟩:=rv.one
 obtain⟨t,rfl⟩:=ru
 obtain⟨z,its,n,r,hl,e⟩:=I.lstM hH
 obtain⟨w,hw,rw'⟩:=r.get hy
 refine call_meets F.slot_list_pop ⟨_,e,rfl⟩ F.entry_list_pop (F.args_list_pop_2 _ _)
  (MeetsSeq.list_pop_at l its.toArray n i t k w (fitsIndex_both h1 h2) (by rw[Qjq,←hl];exact hk) (by rw[←Array.getElem?_toList];exact hw) (by rw[Qjq];omega)) ⟨e,?_⟩
 refine⟨y,_,I.lset (its':=its.eraseIdx k) hH e ?_ (r.eraseIdx k) ?_,rw',q⟩
 ·show its.toArray.eraseIdxIfInBounds k=(its.eraseIdx k).toArray
  rw[List.eraseIdxIfInBounds_toArray]
 ·have:=wQ xs k
  omega
def MG:R2:=fun x y H Q=>∃l b xs zs,x=.ref l/\y=.ref b/\H l=some (.lst xs)/\H b=some (.lst zs)/\xs.length+zs.length<=sizeLine/\∀p,H p=none->Q (.ref p) (upd H p (.lst (xs++zs)))
def JH:jf X (binaryOp .Add) MG:=by
 intro pins s σ H x y v u Q I rx ry h
 obtain⟨l,b,xs,zs,rfl,rfl,hH,hB,hz,q⟩:=h
 cases rx
 cases ry
 obtain⟨z,its,n,r,hl,e⟩:=I.lstM hH
 obtain⟨z2,its2,n2,r2,hl2,e2⟩:=I.lstM hB
 refine PySem.P.add_list e e2 ?_ (by rw[Qjq,Qjq];omega)
 have ea:its.toArray++its2.toArray=(its++its2).toArray:=by simp
 rw[ea]
 exact⟨.ref _,_,I.lnew (t':=s.toks) (r.append r2) (by rw[lQa];omega),rfl,q _ I.fresh⟩
def Nd:R2:=fun x y H Q=>∃l k xs,x=.ref l/\y=.int k/\H l=some (.lst xs)/\ -(2^63)<=k/\k<2^63/\xs.length*k.toNat<=sizeLine∧
 ∀p,H p=none->Q (.ref p) (upd H p (.lst (List.replicate k.toNat xs).flatten))
def len_rep{α:Type}(xs:List α)(k:Nat):(List.replicate k xs).flatten.length=k*xs.length:=by
 induction k with
 |zero=>simp
 |succ k ih=>rw[QNq,List.flatten_cons,lQa,ih,Nat.succ_mul,Nat.add_comm]
def Kf:jf X (binaryOp .Mult) Nd:=by
 intro pins s σ H x y v u Q I rx ry h
 obtain⟨l,k,xs,rfl,rfl,hH,h1,h2,hz,q⟩:=h
 cases rx
 obtain⟨t,rfl⟩:=ry
 obtain⟨z,its,n,r,hl,e⟩:=I.lstM hH
 have hlen:its.toArray.size*k.toNat<=sizeLine:=by rw[Qjq,←hl];exact hz
 have hcap:¬its.toArray.size*k.toNat>(2^63-1)/8:=by
  have:(sizeLine:Nat)<=(2^63-1)/8:=by decide
  omega
 have hfit:¬(!Builtin.List.listFitsIndex k)=true:=by
  rw[fitsIndex_both h1 h2]
  exact Qtq
 have hlong:¬Builtin.List.listTooLong (its.toArray.size*k.toNat)=true:=by
  rw[tY hlen]
  exact Qtq
 have hnew:List.foldl (fun x1 x2=>x1++x2) #[] (List.replicate (if its.toArray.isEmpty=true then 0 else k.toNat) its.toArray)=(List.replicate k.toNat its).flatten.toArray:=by
  have f0:∀m:Nat,List.foldl (fun x1 x2=>x1++x2) #[] (List.replicate m its.toArray)=(List.replicate m its).flatten.toArray:=fun m=>by
   have:=foldl_rep its m []
   rw[List.nil_append] at this
   exact this
  rw[f0]
  cases its with
  |nil=>simp
  |cons a r'=>rw[Quq (by simp)]
 refine wpAny_binaryOp_repeat_ref (T:="list") (U:="int") (by decide) ⟨_,e,rfl⟩ (fun s'=>typeIs_int s' k t) noFill_list_mul F.fills_int_mul F.slot_int_rmul repeat_list F.slot_int_index.lookup
  (call_meets F.slot_int_rmul (typeIs_int s k t) F.entry_int_rmul (F.args_int_rmul_2 _ _) (int___rmul___int_list k t l its.toArray n)
   ⟨e,rfl,⟨_,e,rfl⟩,call_meets F.slot_list_mul ⟨_,e,rfl⟩ F.entry_list_mul (F.args_list_mul_2 _ _) (AutoListH.list___mul___list_int_3 l its.toArray n k t hfit hcap hlong) ⟨e,?_⟩⟩)
 rw[hnew]
 exact⟨.ref _,_,I.lnew (t':=s.toks) (r.rep k.toNat) (by rw[len_rep,Nat.mul_comm];exact hz),rfl,q _ I.fresh⟩
end
end L2
namespace Att
open PySem PySem.W PySem.Calls PyProof.Rows
def rB{P:Params}{h:Heap}:∀(ns:List Int) (vs:List Value),WellAll P h vs (ns.map WData.int)->IntsAre vs ns:=by
 intro ns
 induction ns with
 | nil=>
   intro vs w
   rw[List.map_nil] at w
   cases w
   exact .nil
 | cons n ns ih=>
   intro vs w
   rw[QDq] at w
   cases w with
   | cons a b=>
     cases a
     exact .cons _ _ (ih _ b)
def El{l:OpenLaw}{n:Nat}(hn:l.most=some n){P:Params}{h:Heap}{args:List WData}{vals:List Value}
  (hpre:l.row.toRowW.claim.pre args=true) (hwl:WellAll P h vals args):
  ∃a vs ns,vals= [Value.ref a]/\args= [WData.list (ns.map WData.int)]/\h.get? a=some {cls:=.type "list",data:=.seq vs.toArray}/\IntsAre vs ns/\ns.length<=n:=by
 have hsh:WShape.hasAll [] args [.list .int]=true:=(pre_splitW hpre).1
 have hc:l.pre.holds [] {args:=args}=true:=(pre_splitW hpre).2
 obtain⟨d,r,rfl,h1,h2⟩:=hasAllW_cons hsh
 obtain rfl:=hasAllW_nil h2
 obtain⟨xs,rfl,h3⟩:=hasW_list h1
 obtain⟨ns,rfl⟩:=items_int h3
 have hlen:ns.length<=n:=by
  unfold OpenLaw.pre at hc
  have h4:(WTm.not (.lt (.lit (.int (n:Int))) (.len (.arg 0)))).holds [] {args:= [.list (ns.map .int)]}=true:=by
   have h4:=(holds_andW hc).1
   rw[hn] at h4
   exact h4
  have h5:=condW_of h4 (w_not (w_lt w_lit (w_len_list (w_arg rfl))))
  rw[lQm] at h5
  refine Nat.le_of_not_lt fun q=> ?_
  have q':(n:Int)<((ns.length:Nat):Int):=by omega
  first
   |(rw[Qeq q'] at h5;exact absurd h5 (by decide))
   |(simp at h5;omega)
 cases hwl with
 | cons w1 w2=>
   cases w2
   cases w1 with
   |list ho hall=>exact⟨_,_,ns,rfl,rfl,ho,rB ns _ hall,hlen⟩
def DN(l:OpenLaw)(args:List WData):l.row.toRowW.claim.post args (.bool true) args=true:=
 postW_of (r:=l.row.toRowW) (X:=(true==true))
  (show WShape.has [] (.bool true) .bool=true by first|rfl|decide|simp[WShape.has,WShape.arms,WShape.armsAll])
  (show(WTm.eq .res (.lit (.bool true))).value [] {args:=args,res:=some (.bool true),after:=args}=some (.bool (true==true)) from w_eq_bool (w_res rfl) w_lit) rfl
def z4{l:OpenLaw}{n:Nat}{q:Program}{loose:List Str}{XP:(Str->Option Value)->Heap->Prop}{YP:World->Heap->Prop}{d:DefRec}
  (hn:l.most=some n) (hdf:d.params.defaults= [])
  (call:∀(w:World) (s₀ s₁:Shared) (mg mb:Str->Option Value) (fa:Addr) (o:Obj) (pm cd doc:Value) (a:Addr) (vs:List Value) (ns:List Int),
   Ground q loose [] XP w s₀ mg mb s₁.heap->YP w s₁.heap→
   s₁.heap.get? fa=some o->o.data=.func (docDef d.name d.params d.body d.scope pm cd doc)->s₁.heap.CodeRec cd d.name->mg d.name=some (.ref fa)→
   s₁.heap.get? a=some {cls:=.type "list",data:=.seq vs.toArray}->IntsAre vs ns->ns.length<=n->s₁.gens= #[]→
   codeAny (model l.prog w) callerA (.call (.ref fa) ⟨[.ref a],[]⟩) (fun r s'=>r=.ok (.ret (.bool true))/\OldK s₁.heap s'.heap/\s'.os=s₁.os/\AllBare s'.gens) s₁):
  WalkO q loose XP YP l.row.toRowW d [] (fun f vs=>PySem.call f vs):=by
 intro w s₀ s₁ mg mb G Y fa o pm cd doc dV kV ho hd hcd hD hmg hg args vals as hpre hlay hrd hwl hlo
 obtain rfl:dV=.none:=Dflts.none hD hdf
 obtain rfl:kV=.none:=Dflts.noKw hD
 obtain⟨a,vs,ns,rfl,rfl,hobj,hints,hlen⟩:=El hn hpre hwl
 refine enter_call (codeAny_mono (call w s₀ s₁ mg mb fa o pm cd doc a vs ns G Y ho (fd_plain hd) hcd hmg hobj hints hlen hg) fun r s' hq=> ?_)
 obtain⟨rfl,h2,h3,h4⟩:=hq
 exact⟨.inl ⟨.bool true,.bool true,[],rfl,fun _=>rfl,.bool true,DN l _,fun _=>⟨List.Pairwise.nil,fun _ hm=>(nomatch hm)⟩⟩,h2,h3,h4⟩
end Att
namespace L2
open PySem PySem.Spec PyProof.Rows
theorem vI:∀{vs:List Value} {ns:List Int},IntsAre vs ns->bM (ns.map V.int) vs
 |_,_,.nil=>.nil
 |_,_,.cons n t h=>.cons ⟨t,rfl⟩ (vI h)
def HW(H:Hp):Prop:=∀b,H b=none\/∃o xs,H b=some (.frz o (.lst xs))
def GG{P:Program}{w:World}{K:PySem.W.Frag}{mg mb:Str->Option Value}{CX:Ez}{k:Nat}{fa a:Addr}{fd:FuncData}{x:Str}{sp:Sp}{s₁:Shared}{vs:List Value}{ns:List Int}
  (KX:K.In s₁.heap) (hns:s₁.heap.Ns mainGlobals mg) (hb:s₁.heap.Ns builtinsNs mb) (hbb:∀x:Str,x≠"__name__" ->mb x=bootBuiltins x) (hlim:s₁.heap.NoLimit) (hg:s₁.gens= #[])
  (ha:s₁.heap.get? a=some {cls:=.type "list",data:=.seq vs.toArray}) (hi:IntsAre vs ns) (hl:ns.length<=sizeLine) (hr:fS k callerA)
  (F:∀base:Heap,K.In base->base.Ns mainGlobals mg->bF P w K mg base CX k fa fd [x] sp) (hbind:∀(s:Shared) (u:Value),BindsTo s fd ⟨[u],[]⟩ [(x,u)])
  (hsp:∀H:Hp,HW H->iK K H a (ns.map V.int)->sp [.ref a] H (fun v _=>v=.bl true) fun _ _ _=>False)
  (hCX:∀H e s',CX [] H s₁ (fun _ _ _=>False) e s'->False):
  codeAny (model P w) callerA (.call (.ref fa) ⟨[.ref a],[]⟩) (fun r s'=>r=.ok (.ret (.bool true))/\OldK s₁.heap s'.heap/\s'.os=s₁.os/\AllBare s'.gens) s₁:=by
 have rv:=vI hi
 have lenV:=hi.length
 have core:∀H:Hp,HW H->iK K H a (ns.map V.int)->oh P w H s₁.heap->(∀b,H b≠none->b=a)->(H a≠none->K.lookup a=none)→
   codeAny (model P w) callerA (.call (.ref fa) ⟨[.ref a],[]⟩) (fun r s'=>r=.ok (.ret (.bool true))/\OldK s₁.heap s'.heap/\s'.os=s₁.os/\AllBare s'.gens) s₁:=by
  intro H hO hS hok hA hK
  have base_of:∀{b:Addr} {o:Obj},s₁.heap.get? b=some o->H b=none->(wZ s₁.heap H).get? b=some o:=fun e n=>FH e n
  have noA:∀{b:Addr} {o:Obj} {es:Array DictEntry} {ep:Nat},s₁.heap.get? b=some o->o.data=.dict es ep->H b=none:=fun{b o es ep} e d=>by
   cases q:H b with
   |none=>rfl
   | some u=>
     have e':b=a:=hA b (by rw[q];simp)
     subst e'
     rw[ha] at e;cases e
     have d':Data.seq vs.toArray _=Data.dict es ep:=d
     cases d'
  have nsK:∀{b:Addr} {m:Str->Option Value},s₁.heap.Ns b m->(wZ s₁.heap H).Ns b m:=fun{b m} ⟨o,es,ep,e,d,r⟩=>⟨o,es,ep,base_of e (noA e d),d,r⟩
  have hKb:K.In (wZ s₁.heap H):=fun b o e=>base_of (KX b o e) (by
   cases q:H b with
   |none=>rfl
   | some u=>
     have e':b=a:=hA b (by rw[q];simp)
     subst e'
     rw[hK (by rw[q];simp)] at e;cases e)
  have hM:Mod K mg (wZ s₁.heap H):=⟨hKb,nsK hns,⟨mb,nsK hb,hbb⟩,let ⟨mc,h1,h2⟩:=hlim;⟨mc,nsK h1,h2⟩⟩
  have e0:Ht P w K mg (wZ s₁.heap H) callerA [] s₁ H:=⟨rfl,hM,fun b o e=>Ic e,Nat.le_of_eq (DB _ _),trivial,fun b hb=>absurd (show b∈([]:List Addr) from hb) (by simp),hok,.of_eq hg⟩
  refine codeAny_mono ((F _ hKb (nsK hns)).run callerA [] s₁ H ⟨[.ref a],[]⟩ [.ref a] [.ref a] _ _ hr e0 (hbind s₁ (.ref a)) (.cons rfl .nil) (hsp H hO hS)) fun r s' h=> ?_
  cases r with
  |error e=>exact(hCX H e s' h).elim
  | ok fl=>
    cases fl with
    |next=>exact False.elim h
    |brk=>exact False.elim h
    |cont=>exact False.elim h
    | ret u=>
      obtain⟨v,H',os,bare,un,hok',r',q⟩:=h
      have q':v=.bl true:=q
      subst q'
      obtain rfl:u=Value.bool true:=r'
      refine⟨rfl,OldK.of_keep fun b o e=> ?_,os,bare⟩
      cases q:H b with
      |none=>exact un.keep b o e q (by intro z;exact absurd (show b∈([]:List Addr) from z) (by simp)) (by simp)
      | some u=>
        rcases hO b with z|⟨ob,xs,z⟩
        · rw[q] at z;cases z
        · have z2:=un.frzs b ob _ z
          obtain⟨e1,_⟩:=hok b _ z
          obtain⟨e2,_⟩:=hok' b _ z2
          rw[e] at e1;cases e1
          exact e2
 cases hk:K.lookup a with
 | some o=>
   have e:=KX a o hk
   rw[ha] at e
   cases e
   refine core (fun _=>none) (fun _=>.inl rfl) (.inr ⟨_,vs.toArray,_,hk,rfl,rfl,rfl,by rw[Qjq,lenV];exact hl,by simpa using rv⟩) (fun b u z=>by have z':(none:Option HO)=some u:=z;cases z') (fun b z=>absurd rfl z) fun z=>absurd rfl z
 | none=>
   refine core (fun b=>if b=a then some (.frz {cls:=.type "list",data:=.seq vs.toArray} (.lst (ns.map V.int))) else none) (fun b=> ?_) (.inl (.inr ⟨{cls:=.type "list",data:=.seq vs.toArray},Qhq rfl⟩)) (fun b u z=> ?_) (fun b z=> ?_) fun _=>hk
   · by_cases hb:b=a
     · exact .inr ⟨_,_,Qhq hb⟩
     · exact .inl (Quq hb)
   · by_cases hb:b=a
     · have z':=(Qhq hb).symm.trans z
       cases z'
       subst hb
       exact⟨ha,by rw[lQm];exact hl,vs,_,rv,ha⟩
     · have z':=(Quq hb).symm.trans z
       cases z'
   · by_cases hb:b=a
     · exact hb
     · exact absurd (Quq hb) z
def HQ{l:PySem.W.OpenLaw}{n k:Nat}{q:Program}{loose:List Str}{XP:(Str->Option Value)->Heap->Prop}{YP:World->Heap->Prop}{d:DefRec}{K:Params->PySem.W.Frag}{CX:World->Ez}{sp:World->Sp}{x:Str}
  (hn:l.most=some n) (hn2:n<=sizeLine) (hdf:d.params.defaults= []) (hr:fS k callerA)
  (hY:∀(w:World) (h:Heap),YP w h->(K w.params).In h)
  (F:∀(w:World) (mg:Str->Option Value) (fa:Addr) (h:Heap),(K w.params).In h->h.Ns mainGlobals mg->mg d.name=some (.ref fa)→
   ∃ fd:FuncData,(∀(s:Shared) (u:Value),BindsTo s fd ⟨[u],[]⟩ [(x,u)])∧
     ∀base:Heap,(K w.params).In base->base.Ns mainGlobals mg->bF l.prog w (K w.params) mg base (CX w) k fa fd [x] (sp w))
  (hsp:∀(w:World) (H:Hp) (a:Addr) (ns:List Int),ns.length<=n->HW H->iK (K w.params) H a (ns.map V.int)->sp w [.ref a] H (fun v _=>v=.bl true) fun _ _ _=>False)
  (hCX:∀(w:World) (H:Hp) (s:Shared) (e:Value) (s':Shared),CX w [] H s (fun _ _ _=>False) e s'->False):
  PySem.W.WalkO q loose XP YP l.row.toRowW d [] (fun f vs=>PySem.call f vs):=by
 refine Att.z4 hn hdf fun w s₀ s₁ mg mb fa o pm cd doc a vs ns G Y ho hd hcd hmg hobj hints hlen hg=> ?_
 have KX:=hY w _ Y
 obtain⟨fd,hb,hF⟩:=F w mg fa _ KX G.T.g hmg
 exact GG KX G.T.g G.T.b G.T.builtins G.T.nolimit hg hobj hints (QAq hlen hn2) hr hF hb (fun H hO hS=>hsp w H a ns hlen hO hS) fun H e s'=>hCX w H s₁ e s'
noncomputable def iz(s:Stmt):Arguments:=match s with
 |.FunctionDef _ a _ _ _ _ _ _ _ _=>a
 |_=>{posonlyargs:= [],args:= [],vararg:=none,kwonlyargs:= [],kw_defaults:= [],kwarg:=none,defaults:= []}
def gN(s:Stmt):List Stmt:=match s with
 |.FunctionDef _ _ b _ _ _ _ _ _ _=>b
 |_=> []
def aD(s:Stmt):Scope:=match s with
 |.FunctionDef _ _ _ _ _ _ sc _ _ _=>sc
 |_=>{kind:=.function,names:= [],isGenerator:=false,isCoroutine:=false}
abbrev eE:Ez:=fun _ _ _ _ _ _=>False
abbrev E0:XK:=fun _ _ _=>False
def Fq{X:Cx}:BE eE X E0:=fun _ _ _ _ _ _ _ h=>h.elim
structure eV(K:PySem.W.Frag)(x qual:Str)(st:Stmt)(f:Addr)(fd:FuncData):Prop where
 ex:∃(oc:Value) (od:Option Addr) (kV doc pm:Value) (an:Option Addr) (cdv ct:Value) (osl:Array (Option Value)),
  fd=PySem.W.fnOf x qual (iz st) (gN st) (aD st) .none kV doc pm an cdv ct/\K.lookup f=some ⟨oc,od,.func fd,osl⟩/\PySem.W.codeIn K cdv qual=true
 kp:PySem.W.keepIn K (.ref f)=true
section
variable{P:Program}{w:World}{K:PySem.W.Frag}{mg:Str->Option Value}{base:Heap}
def eV.ok{x qual:Str}{st:Stmt}{f:Addr}{fd:FuncData}{N ps:List Str}{k:Nat}{sp:Sp}(F:eV K x qual st f fd)(S:aL N ps (aD st))(len:∀vs H Q E,sp vs H Q E->vs.length=ps.length)
  (hbody:∀(cdv:Value) (A:Around) (outer:List Env) (s:Shared) (H:Hp) (vs:List V) (Q:VK) (E:XK),fS k (A.deeper (envOfC qual (aD st) s.heap.objs.size f cdv))->sp vs H Q E→
   ∃t,sk (A9 eE P w K mg base N qual (aD st) f cdv A outer s H E).nox (gN st) t/\t {nx:=fun _ H'=>Q .non H',rt:=Q} (start N vs) H):bF P w K mg base eE (k+1) f fd ps sp:=by
 obtain⟨oc,od,kV,doc,pm,an,cdv,ct,osl,rfl,lk,hcd⟩:=F.ex
 refine KZ lk hcd S len fun A outer s H vs Q E hr hsp=> ?_
 obtain⟨t,h,q⟩:=hbody cdv A outer s H vs Q E hr hsp
 exact⟨t,h.nox,q⟩
def eV.binds{x qual:Str}{st:Stmt}{f:Addr}{fd:FuncData}{ps:List Str}(F:eV K x qual st f fd)
  (h:∀(kV doc pm:Value) (an:Option Addr) (cdv ct:Value) (us:List Value),us.length=ps.length->bindArgs (PySem.W.fnOf x qual (iz st) (gN st) (aD st) .none kV doc pm an cdv ct) ⟨us,[]⟩=pure (ps.zip us)):Binds K fd ps []:=by
 obtain⟨oc,od,kV,doc,pm,an,cdv,ct,osl,rfl,lk,hcd⟩:=F.ex
 exact .all (h kV doc pm an cdv ct)
def Bg{x qual:Str}{st:Stmt}{f:Addr}{oc:Value}{od an:Option Addr}{osl:Array (Option Value)}{kV doc pm cdv ct:Value}(l:K.lookup f=some ⟨oc,od,.func (PySem.W.fnOf x qual (iz st) (gN st) (aD st) .none kV doc pm an cdv ct),osl⟩)
  (c:PySem.W.codeIn K cdv qual=true) (k:PySem.W.keepIn K (.ref f)=true):eV K x qual st f (PySem.W.fnOf x qual (iz st) (gN st) (aD st) .none kV doc pm an cdv ct):=⟨⟨oc,od,kV,doc,pm,an,cdv,ct,osl,rfl,l,c⟩,k⟩
end
def IV{A:Around}{k:Nat}(hr:fS k A):A.units+1<cLine:=Nat.lt_of_le_of_lt (Nat.add_le_add_left (by decide:1<=64) _) hr.units
def bD{n:Nat}(h:n<=1000):n<sizeLine:=Nat.lt_of_le_of_lt h (by decide)
section
variable{X:Cx}
def pv(i:Nat){x:Str}{pos:Pos}(hN:X.N[i]?=some x:=by rfl)(hv:IA X.env.scope x:=by first|exact Or.inl rfl|exact Or.inr (Or.inl rfl)|exact Or.inr (Or.inr rfl))(hd:(x==("__debug__":Str))=false:=by decide)
  (hcd:(x==("__classdict__":Str))=false:=by decide):PE X (.Name x pos) (JV i):=FV hN hv hd hcd
end
section
variable{prog:Program}{w:World}{A:Around}{s:Shared}
def ph{elt target iter:Expr}{ifs:List Expr}{scope:Scope}{pos:Pos}{it acc:Value}{env:Env}{R:Result->Shared->Prop}(I:Nat->Shared->Prop)
  (turn:∀n s,I n s->wpAny (model prog w) A (pyNext it) (fun r s₁=>match r with
   |none=>R (.ok .next) s₁
   |some v=>wpAny (model prog w) A (letOwnedTupleGo target it v) (fun _ s₁'=>wpAny (model prog w) A (assign target env v) (fun _ s₂=>
     wpAny (model prog w) A (forIn ifs true fun c r=>if r=true then do let ok←isTrue c env (eval c env);pure (ForInStep.yield ok) else pure (ForInStep.yield r)) (fun ok s₃=>
      if ok=true then wpAny (model prog w) A (eval elt env) (fun x s₄=>
       wpAny (model prog w) A (call (.builtin "list.append") [acc,x]) (fun _ s₅=>∃m,m<n/\I m s₅) (fun _ _=>False) s₄) (fun _ _=>False) s₃
      else∃m,m<n/\I m s₃) (fun _ _=>False) s₂) (fun _ _=>False) s₁') (fun _ _=>False) s₁) (fun _ _=>False) s)
  (n:Nat) (h:I n s):codeAny (model prog w) A (.compLoop (.ListComp elt [⟨target,iter,ifs,0⟩] scope pos) 0 it acc env) R s:=by
 refine codeAny_loop rfl I (fun n s hI=> ?_) n h
 show wpAny _ A ((compTurn (.ListComp elt [⟨target,iter,ifs,0⟩] scope pos) 0 it acc env).onRaise (fun x=>do noteFrame x env;theTreesLotGoes x)) _ _ s
 refine wpAny_noted ?_
 rw[compTurn_list]
 refine Qaq (wpAny_standAt (Qaq (QRq (turn n s hI) (fun r s₁ h₁=> ?_) fun _ _ h'=>h'.elim)))
 cases r with
 |none=>exact Qgq h₁
 | some v=>
   refine Qaq (QRq h₁ (fun _ s₁' h₁'=> ?_) fun _ _ h'=>h'.elim)
   refine Qaq (QRq h₁' (fun _ s₂ h₂=>Qaq (QRq h₂ (fun ok s₃ h₃=> ?_) fun _ _ h'=>h'.elim)) fun _ _ h'=>h'.elim)
   cases ok with
   |false=>exact Qgq ⟨rfl,h₃⟩
   | true=>
     exact Qaq (Qaq (QRq h₃ (fun x s₄ h₄=>Qaq (QRq h₄ (fun _ s₅ h₅=>Qgq (Qgq ⟨rfl,h₅⟩)) fun _ _ h'=>h'.elim)) fun _ _ h'=>h'.elim))
end
noncomputable def bo(X:Cx)(N:List Str)(scope:Scope)(cl:List (Str×Addr))(C:Addr)(s:Shared)(H:Hp)(fp:List Addr):Cx where
 prog:=X.prog
 w:=X.w
 K:=X.K
 mg:=X.mg
 base:=X.base
 A:=X.A
 N:=N
 s₀:=s
 H₀:=H
 env:=compEnvC scope cl C X.env
 outer:=X.stack
 stack:=X.stack
 ex:=fp
 fn:=fun _=>false
 calm:=X.calm
 pn:= []
 xe:=fun _ _=>False
def kB(js:List (Option Nat))(σ:St):St:=js.map fun o=>o.bind fun j=>σ.getD j none
structure aU(X:Cx)(N:List Str)(js:List (Option Nat))(scope:Scope)(cl:List (Str×Addr)):Prop where
 kind:scope.kind=.function
 nocell:∀y∈scope.names,y.2≠.cell
 names:∀y∈scope.names,y.2=.local->scope.names.lookup y.1=some .local
 clos:closureFor scope X.env=pure cl
 sub:∀x c,cl.lookup x=some c->X.env.cells.lookup x=some c
 has:∀x,((relabel scope X.env).names.lookup x=some .cell\/(relabel scope X.env).names.lookup x=some .free)->∃c,cl.lookup x=some c
 cap:∀(k j:Nat) (x:Str),js[k]?=some (some j)->N[k]?=some x->X.N[j]?=some x/\(X.env.kindOf x=some .cell\/X.env.kindOf x=some .free)/\((relabel scope X.env).names.lookup x=some .cell\/(relabel scope X.env).names.lookup x=some .free)
 len:js.length=N.length
def rA(X:Cx)(ifs:List Expr)(t:TT):Prop:=
 ∀ (pins:List (Addr×Obj)) (s:Shared) (σ:St) (H:Hp) (Q:Bool->Hp->Prop),Inv X pins σ H s->t σ H Q→
   wpAny (model X.prog X.w) X.A (forIn ifs true fun c r=>if r=true then do let ok←isTrue c X.env (eval c X.env);pure (ForInStep.yield ok) else pure (ForInStep.yield r)) (TP X pins σ Q) X.xe s
def J1{X:Cx}:rA X [] (fun _ H Q=>Q true H):=fun _ _ _ H _ I h=>wpAny_tests_nil ⟨H,I,h⟩
def Ja{X:Cx}{c:Expr}{t:TT}(hc:PT X c t):rA X [c] t:=fun pins s σ H Q I h=>
 wpAny_tests_one (di (hc pins s σ H Q I h) fun ok s' h'=>h')
def K8(J:It)(g:TG)(tt:TT)(te:TE)(Q:VK)(D:Addr)(σ:St)(H:Hp):Prop:=
 ∃ W:Nat->Nat->St->Hp->Prop,(∃m,W 0 m σ H)/\∀i m σ' H',W i m σ' H'→
   (J.stop i H'/\Q (.ref D) H')\/(J.go i H'/\∃Nx:St->Hp->Prop,(∀σ'' H'',Nx σ'' H''->∃m',m'<m/\W (i+1) m' σ'' H'')∧
     ∀ x H2,J.yld i H' x H2->g x σ' H2 fun σ3 H3=>tt σ3 H3 fun ok H4=>
       if ok=true then te σ3 H4 fun y H5=>∃xs,H5 D=some (.lst xs)/\xs.length<sizeLine/\Nx σ3 (upd H5 D (.lst (xs++ [y]))) else Nx σ3 H4)
def Gn(js:List (Option Nat))(wi:TI)(g:TG)(tt:TT)(te:TE):TE:=fun σ H Q=>wi σ H fun J H1=>∀D,H1 D=none->K8 J g tt te Q D (kB js σ) (upd H1 D (.lst []))
def HN{X:Cx}{N:List Str}{js:List (Option Nat)}{scope:Scope}{cl:List (Str×Addr)}{tg iter elt:Expr}{ifs:List Expr}{pos:Pos}{wi:TI}{g:TG}{tt:TT}{te:TE}
  (S:aU X N js scope cl) (hc:X.calm=true) (hi:PI X tg iter wi)
  (hg:∀C s H fp,PG (bo X N scope cl C s H fp) tg g) (ht:∀C s H fp,rA (bo X N scope cl C s H fp) ifs tt) (he:∀C s H fp,PE (bo X N scope cl C s H fp) elt te)
  (hs:∀x,foldedSetIterable iter X.env x=pure x:=by intro _;rfl):PE X (.ListComp elt [⟨tg,iter,ifs,0⟩] scope pos) (Gn js wi g tt te):=by
 intro pins s σ H Q I h
 rw[eval_ListComp]
 refine wpAny_comprehension_free (use:=none) rfl hs S.clos S.kind S.names (di (hi pins s σ H _ I h) fun v s1 h1=>di h1 fun itv s2 h2=> ?_)
 obtain⟨it,fp,tn,J,H2,e,I2,T,st2,f2,hD⟩:=h2
 subst e
 refine wpAny_newObj_type (wpAny_newFunctionEnv S.nocell (by intro y hy;simp at hy) (fun h₁ hns₁ hsb₁=> ?_) S.kind)
 dsimp only at hns₁ hsb₁⊢
 generalize hH2:s2.heap.push {cls:=.type "list",dict:=none,data:=.seq ([]:List Value).toArray}=P2 at hns₁ hsb₁⊢
 have hC:P2.objs.size=s2.heap.objs.size+1:=by rw[←hH2,Heap.size_push]
 have hDC:s2.heap.objs.size≠P2.objs.size:=by rw[hC];exact Qwq (Nat.lt_succ_self _)
 have hCle:s2.heap.objs.size<=P2.objs.size:=by rw[hC];exact Nat.le_succ _
 have below:∀b,b<s2.heap.objs.size->b≠P2.objs.size:=fun b hb=>by rw[hC];exact Qwq (Nat.lt_succ_of_lt hb)
 have old:∀b o,s2.heap.get? b=some o->h₁.get? b=some o:=fun b o e=>hsb₁.extBut b o (below b (Qiq e)) (Qcq _ (hH2▸Qcq _ e))
 have hnew:h₁.get? s2.heap.objs.size=some {cls:=.type "list",dict:=none,data:=.seq ([]:List Value).toArray}:=hsb₁.extBut _ _ hDC (Qcq _ (hH2▸Qrq _ rfl))
 have nD:H2 s2.heap.objs.size=none:=I2.fresh
 have nC:H2 P2.objs.size=none:=I2.hok.fresh hCle
 have fpo:∀b∈fp,b<s2.heap.objs.size:=fun b hb=>by
  obtain⟨o,e,_⟩:=T.obj _ _ st2 b hb
  exact Qiq e
 obtain⟨W,⟨m0,w0⟩,turn⟩:=hD s2.heap.objs.size nD
 have ok':(bo X N scope cl P2.objs.size s2 H2 fp).Ok:=by
  refine⟨I2.ok.mod,S.kind,I2.ok.glob,I2.ok.blt,hCle,fun x y c h1 h2=>I2.ok.inj x y c (S.sub x c h1) (S.sub y c h2),S.has,(fun x c h=>by cases h),I2.ok.hd,I2.ok.frames,.inl rfl,
   fun b hb=>⟨below b (fpo b hb),fun x c h=>(f2 b hb).2.2.2.2.1 x c (S.sub x c h)⟩,I2.bs,QAq I2.ok.bsz I2.sz,fun b o e hb=> ?_,fun b hb z=> ?_,I2.stack,I2.stkFree⟩
  ·rcases(f2 b hb).2.2.2.1 with z|z
   ·exact I2.ok.noex b o e z
   ·exact absurd (Qqq (Qqq (Qiq e) I2.ok.bsz) z) (Nat.lt_irrefl _)
  ·rcases Qsq.mp (I2.stkSub b z) with q|q
   ·exact(f2 b hb).2.1 q
   ·exact(f2 b hb).2.2.1 q
 have hobj:dA X.prog X.w (upd H2 s2.heap.objs.size (.lst [])) h₁ s2.heap.objs.size (.lst []):=⟨Nat.zero_le _,[],0,.nil,hnew⟩
 have I4:Inv (bo X N scope cl P2.objs.size s2 H2 fp) [] (kB js σ) (upd H2 s2.heap.objs.size (.lst [])) {s2 with heap:=h₁,toks:=s2.toks+([]:List (Str×Value)).length}:=by
  refine⟨ok',rfl,I2.bare,Un.laid old (Qmq _) nD,⟨_,hns₁,fun i x v h1 h2 h3=> ?_⟩,fun x c h=> ?_,by show upd H2 _ _ P2.objs.size=none;rw[bA hDC.symm];exact nC,fun x c h=> ?_,fun p hp=>absurd (show p∈([]:List (Addr×Obj)) from hp) (by simp),I2.hok.laid old (Qmq _) hobj,by show(kB js σ).length=N.length;unfold kB;rw[lQm];exact S.len⟩
  ·unfold kB at h2
   rw[gQm] at h2
   cases e:js[i]? with
   |none=>rw[e] at h2;cases h2
   | some o=>
     rw[e] at h2
     cases o with
     |none=>cases h2
     | some j=>
       have h2':σ.getD j none=some v:=Option.some.inj h2
       have hj:σ[j]?=some (some v):=by
         rw[Qlq] at h2'
         cases q:σ[j]? with
         |none=>rw[q] at h2';cases h2'
         |some y=>rw[q] at h2';exact congrArg some h2'
       obtain⟨c1,c2,c3⟩:=S.cap i j x e h1
       obtain⟨m,hn,hl⟩:=I2.loc
       have vis:IA X.env.scope x:=by
         rcases c2 with z|z
         · exact .inr (.inl z)
         · exact .inr (.inr z)
       obtain⟨u,r,l⟩:=hl j x v c1 hj vis
       refine⟨u,r,.inr ⟨c3,?_⟩⟩
       obtain⟨c,hc'⟩:=S.has x c3
       refine⟨c,hc',?_⟩
       rcases l with⟨z,_⟩|⟨_,c',e',z⟩
       · rcases c2 with y|y <;>rw[y] at z <;>cases z
       · rw[S.sub x c hc'] at e'
         cases e'
         obtain⟨o,ho,hd⟩:=z
         exact⟨o,old _ _ ho,hd⟩
  ·obtain⟨v,o,ho,hd⟩:=I2.cell x c (S.sub x c h)
   exact⟨v,o,old _ _ ho,hd⟩
  ·obtain⟨v,o,ho,hd⟩:=I2.cell x c (S.sub x c h)
   rw[bA (Qwq (Qiq ho))]
   exact I2.freeC x c (S.sub x c h)
 have stat:∀{pins':List (Addr×Obj)} {H':Hp},pins'= []->(∀b∈fp,H' b=none)->∀b∈fp,qv (bo X N scope cl P2.objs.size s2 H2 fp) pins' H' b:=fun{pins' H'} ep hn b hb=>by
  subst ep
  refine⟨hn b hb,below b (fpo b hb),fun z=>ok'.exfs b hb z,.inl hb,fun x c h=>(f2 b hb).2.2.2.2.1 x c (S.sub x c h),fun p hp=>absurd (show p∈([]:List (Addr×Obj)) from hp) (by simp)⟩
 have loop:codeAny (model X.prog X.w) X.A (.compLoop (.ListComp elt [⟨tg,iter,ifs,0⟩] scope pos) 0 (.ref it) (.ref s2.heap.objs.size) (compEnvC scope cl P2.objs.size X.env))
   (compPost (model X.prog X.w) X.A X.xe none (EP X pins σ Q) (.ref s2.heap.objs.size) P2.objs.size) {s2 with heap:=h₁,toks:=s2.toks+([]:List (Str×Value)).length}:=by
  refine ph (fun n s'=>∃i σ' H',Inv (bo X N scope cl P2.objs.size s2 H2 fp) [] σ' H' s'/\tn i s'.heap/\(∀b∈fp,H' b=none)/\W i n σ' H') ?_ m0
   ⟨0,_,_,I4,T.keep _ _ _ st2 fun b _ o e=>old b o e,fun b hb=>by rw[bA (Qwq (fpo b hb))];exact(f2 b hb).1,w0⟩
  rintro n s3 ⟨i,σ3,H3,I3,st3,fr3,w3⟩
  rcases turn i n σ3 H3 w3 with⟨stop,q⟩|⟨go,Nx,hN,step⟩
  ·refine di (T.done (bo X N scope cl P2.objs.size s2 H2 fp) rfl rfl rfl hc i [] s3 σ3 H3 _ I3 (stat rfl fr3) st3 stop) fun r s4 qr=> ?_
   obtain⟨hr,I5⟩:=qr
   subst hr
   obtain⟨m,hn,_⟩:=id I5.loc
   refine⟨m,hn,fun h' hs'=>⟨.ref s2.heap.objs.size,H3,?_,rfl,q⟩⟩
   have u:=I5.base
   have ne:∀b o,s2.heap.get? b=some o->b≠P2.objs.size:=fun b o e=>below b (Qiq e)
   refine I2.call' (ch:=fp) I5.os ⟨fun b o e n hb hx=>(hs'.2 b (ne b o e)).trans (u.keep b o e n hb hx),fun b o e n hb hx=> ?_,u.free,fun b o e hx=> ?_,u.tups,u.frzs,u.tbls⟩ (fun b ob e=> ?_) I5.bare fun b hb=>⟨(f2 b hb).2.2.2.1,(f2 b hb).2.1,(f2 b hb).2.2.2.2.1,(f2 b hb).2.2.2.2.2⟩
   ·obtain⟨sl,e1⟩:=u.slot b o e n hb hx
    exact⟨sl,(hs'.2 b (ne b o e)).trans e1⟩
   ·obtain⟨o',e1⟩:=u.there b o e hx
    exact⟨o',(hs'.2 b (ne b o e)).trans e1⟩
   ·refine(I5.hok b ob e).stay (fun c w' hc q=>(hs'.2 c ?_).trans q) (fun _ q=>q) fun _ _ q=>q
    have fC:H3 P2.objs.size=none:=I5.free
    rintro rfl
    rcases hc with z|z
    ·rw[←z,fC] at e;cases e
    ·rw[fC] at z;cases z
  ·refine di (T.item (bo X N scope cl P2.objs.size s2 H2 fp) rfl rfl rfl hc i [] s3 σ3 H3 _ I3 (stat rfl fr3) st3 go) fun r s4 qr=> ?_
   obtain⟨u,hr,h4⟩:=qr
   subst hr
   refine di h4 fun _ s5 qr=> ?_
   obtain⟨x,H5,I5,r5,y5,st5,fr5⟩:=qr
   have I5':=I5.pinned (stat rfl fr5) (T.obj _ _ st5)
   refine di (hg P2.objs.size s2 H2 fp _ s5 σ3 H5 x u _ I5' r5 (step x H5 y5)) fun _ s6 qr=> ?_
   obtain⟨σ6,H6,I6,q6⟩:=qr
   refine di (ht P2.objs.size s2 H2 fp _ s6 σ6 H6 _ I6 q6) fun ok s7 qr=> ?_
   obtain⟨H7,I7,q7⟩:=qr
   have again:∀{s8:Shared} {H8:Hp},Inv (bo X N scope cl P2.objs.size s2 H2 fp) ([]++nR fp s5.heap) σ6 H8 s8->Nx σ6 H8->∃m,m<n/\∃i σ' H',Inv (bo X N scope cl P2.objs.size s2 H2 fp) [] σ' H' s8/\tn i s8.heap/\(∀b∈fp,H' b=none)/\W i m σ' H':=fun{s8 H8} I8 n8=>by
    obtain⟨m',hm,w8⟩:=hN σ6 H8 n8
    refine⟨m',hm,i+1,σ6,H8,I8.unpinned,T.keep _ _ _ st5 fun b hb o e=>(I8.pin (b,o) (Qoq _ (Qoq _ (dZ hb e)))).1,fun b hb=> ?_,w8⟩
    obtain⟨o,e,d⟩:=T.obj _ _ st5 b hb
    exact(I8.pin (b,o) (Qoq _ (Qoq _ (dZ hb e)))).2.1
   cases ok with
   |false=>exact again I7 q7
   | true=>
     refine di (he P2.objs.size s2 H2 fp _ s7 σ6 H7 _ I7 q7) fun yv s8 qr=> ?_
     obtain⟨y,H8,I8,ry,xs,hx,hl,n8⟩:=qr
     refine di (pK (X:=bo X N scope cl P2.objs.size s2 H2 fp) _ s8 σ6 H8 (.ref s2.heap.objs.size) [y] (.ref s2.heap.objs.size) [yv] (fun _ H'=>Nx σ6 H') I8 rfl (.cons ry .nil) ⟨_,xs,y,rfl,rfl,hx,hl,n8⟩) fun _ s9 qr=> ?_
     obtain⟨z,H9,I9,_,q9⟩:=qr
     exact again I9 q9
 exact codeAny_compStart_list loop (T.self _ 0 _ _ _ (T.keep _ _ _ st2 fun b _ o e=>old b o e) loop)
section
variable{X:Cx}
def GB:i4 X (.builtin "isinstance") (fun xs H Q=>∃x T t b,xs= [x,.ty T]/\p6 X.K H x t/\PySem.W.kitOne X.K t (.type T)=some b/\Q (.bl b) H):=by
 intro pins s σ H xs us Q I r h
 obtain⟨x,T,t,b,rfl,ty,e,q⟩:=h
 obtain⟨u,u',rfl,rx,rt⟩:=vals2 r
 cases (show u'=Value.type T from rt)
 exact DU I rx ty e fun tk=>⟨.bl b,H,I.tok tk,rfl,q⟩
def rS:List V->List V->Bool
 | [],[]=>true
 |x::xs,y::ys=>jE x y&&rS xs ys
 |_,_=>false
theorem yN:∀{xs ys:List V},xs.length≠ys.length->rS xs ys=false
 | [],[],h=>absurd rfl h
 | [],_::_,_=>rfl
 |_::_,[],_=>rfl
 | x::xs,y::ys,h=>by
   have:=yN (xs:=xs) (ys:=ys) fun e=>h (by simp[e])
   show(jE x y&&rS xs ys)=false
   rw[this,Bool.and_false]
theorem xf:∀{xs ys:List V},xs.length=ys.length->(List.range xs.length).all (fun j=>jE (xs.getD j .non) (ys.getD j .non))=rS xs ys
 | [],[],_=>rfl
 | [],_::_,h=>by cases h
 |_::_,[],h=>by cases h
 | x::xs,y::ys,h=>by
   have ih:=xf (xs:=xs) (ys:=ys) (Nat.succ.inj h)
   rw[Qnq,List.range_succ_eq_map,List.all_cons,List.all_map]
   show(jE x y&&_)=(jE x y&&rS xs ys)
   rw[←ih]
   rfl
def A0{A:Around}{s:Shared}{xs ys:List V}{us vs:List Value}(r:bM xs us)(r':bM ys vs)(f:xs.all fO=true)(f':ys.all fO=true)(j:Nat)(h1:j<us.toArray.size)(h2:j<vs.toArray.size):
  SeqAt.EqAt A s us.toArray[j] vs.toArray[j] (jE (xs.getD j .non) (ys.getD j .non)):=by
 have l1:=r.length
 have l2:=r'.length
 have g1:j<xs.length:=by rw[l1];simpa using h1
 have g2:j<ys.length:=by rw[l2];simpa using h2
 obtain⟨u,e1,q1⟩:=r.get (gQe g1)
 obtain⟨v,e2,q2⟩:=r'.get (gQe g2)
 have d1:xs.getD j .non=xs[j]:=by rw[Qlq,gQe g1];rfl
 have d2:ys.getD j .non=ys[j]:=by rw[Qlq,gQe g2];rfl
 have a1:us.toArray[j]=u:=by
  have:=(gQs.mp e1).2
  simpa using this
 have a2:vs.toArray[j]=v:=by
  have:=(gQs.mp e2).2
  simpa using this
 rw[a1,a2,d1,d2]
 exact EJ q1 q2 (QUq.mp f _ (List.getElem_mem g1)) (QUq.mp f' _ (List.getElem_mem g2))
def Lx(K:PySem.W.Frag)(neg:Bool):R2:=fun x y H Q=>∃a b xs ys,x=.ref a/\y=.ref b/\iK K H a xs/\iK K H b ys/\xs.all fO=true/\ys.all fO=true/\Q (.bl (if neg then !rS xs ys else rS xs ys)) H
def GE(hu:X.A.units<cLine):jf X (compareOp .NotEq) (Lx X.K true):=by
 intro pins s σ H x y v u Q I rx ry h
 obtain⟨a,b,xs,ys,rfl,rfl,ha,hb,fa,fb,q⟩:=h
 cases rx
 cases ry
 obtain⟨its,r,pl,hz⟩:=I.list ha
 obtain⟨jts,r',pl',hz'⟩:=I.list hb
 by_cases hl:xs.length=ys.length
 ·have hsz:its.toArray.size=jts.toArray.size:=by simp[←r.length,←r'.length,hl]
  refine SeqAt.RcNeAt.lists (e:=fun j=>jE (xs.getD j .non) (ys.getD j .non)) pl.isList pl'.isList hsz hu (fun j h1 h2=>A0 r r' fa fb j h1 h2) _ _ _ _ ⟨.bl _,H,I,rfl,?_⟩
  rw[show its.toArray.size=xs.length by simp[r.length],xf hl]
  exact q
 ·refine SeqAt.RcNeAt.lists_lengths pl.isList pl'.isList (by simpa [←r.length,←r'.length] using hl) hu _ _ _ _ ⟨.bl _,H,I,rfl,?_⟩
  have q':Q (.bl (!rS xs ys)) H:=q
  rw[yN hl] at q'
  exact q'
end
section
variable{X:Cx}
def AA{bs:List Bool}{its:List Value}(r:bM (bs.map V.bl) its){i:Nat}{v:Value}(h:its.toArray[i]?=some v):v=.bool (bs.getD i false):=by
 have hi:i<its.length:=by
  have:=(Array.getElem?_eq_some_iff.mp h).1
  simpa using this
 have l:=r.length
 rw[lQm] at l
 have hb:i<bs.length:=by omega
 obtain⟨u,e,q⟩:=r.get (i:=i) (x:=V.bl bs[i]) (by rw[gQm,gQe hb];rfl)
 have e':its[i]?=some v:=by simpa using h
 rw[e] at e'
 cases e'
 have d:bs.getD i false=bs[i]:=by rw[Qlq,gQe hb];rfl
 rw[d]
 exact q
theorem yZ:∀bs:List Bool,(List.range bs.length).all (fun i=>bs.getD i false)=bs.all id
 | []=>rfl
 | b::bs=>by
   rw[Qnq,List.range_succ_eq_map,List.all_cons,List.all_map,List.all_cons,←yZ bs]
   rfl
theorem AI:∀bs:List Bool,(List.range bs.length).any (fun i=>bs.getD i false)=bs.any id
 | []=>rfl
 | b::bs=>by
   rw[Qnq,List.range_succ_eq_map,List.any_cons,List.any_map,List.any_cons,←AI bs]
   rfl
def IL(K:PySem.W.Frag)(f:List Bool->Bool):List V->Hp->VK->Prop:=fun xs H Q=>∃a bs,xs= [.ref a]/\iK K H a (bs.map V.bl)/\Q (.bl (f bs)) H
def Dd(hc:X.calm=true):i4 X (.builtin "all") (IL X.K fun bs=>bs.all id):=by
 intro pins s σ H xs us Q I r h
 obtain⟨a,bs,rfl,ha,q⟩:=h
 obtain⟨u,rfl,rx⟩:=vals1 r
 cases (show u=Value.ref a from rx)
 obtain⟨its,rv,pl,hz⟩:=I.list ha
 have hl:its.toArray.size=bs.length:=by have:=rv.length;simp at this;simp[this]
 have hlt:a<s.heap.objs.size:=by obtain⟨o,e,_⟩:=pl.isList;exact Qiq e
 refine call_all_walk (wpAny_pyIter_list pl.isList ⟨s.heap.objs.size,_,_,_,_,_,fun i=>bs.getD i false,rfl,Walks.list (A:=X.A.in1) (show X.A.in1.handled=none from I.ok.hd hc) s.heap.objs.size a (Qwq hlt) its.toArray,⟨⟨_,Qrq _ rfl,rfl,rfl⟩,pl.isList.at fun o e=>Qcq _ e⟩,?_,fun h' tk hk=> ?_⟩)
 ·intro i v s' Q' E' hv hq
  rw[AA rv hv]
  exact wpAny_truthy_bool hq
 ·rw[hl,yZ]
  refine⟨.bl _,H,I.kept (h':=h') fun b o e=>hk b o ?_ (Qcq _ e),rfl,q⟩
  have:=Qiq e
  simp
  exact Qwq this
def Dz(hc:X.calm=true):i4 X (.builtin "any") (IL X.K fun bs=>bs.any id):=by
 intro pins s σ H xs us Q I r h
 obtain⟨a,bs,rfl,ha,q⟩:=h
 obtain⟨u,rfl,rx⟩:=vals1 r
 cases (show u=Value.ref a from rx)
 obtain⟨its,rv,pl,hz⟩:=I.list ha
 have hl:its.toArray.size=bs.length:=by have:=rv.length;simp at this;simp[this]
 have hlt:a<s.heap.objs.size:=by obtain⟨o,e,_⟩:=pl.isList;exact Qiq e
 refine call_any_walk (wpAny_pyIter_list pl.isList ⟨s.heap.objs.size,_,_,_,_,_,fun i=>bs.getD i false,rfl,Walks.list (A:=X.A.in1) (show X.A.in1.handled=none from I.ok.hd hc) s.heap.objs.size a (Qwq hlt) its.toArray,⟨⟨_,Qrq _ rfl,rfl,rfl⟩,pl.isList.at fun o e=>Qcq _ e⟩,?_,fun h' tk hk=> ?_⟩)
 ·intro i v s' Q' E' hv hq
  rw[AA rv hv]
  exact wpAny_truthy_bool hq
 ·rw[hl,AI]
  refine⟨.bl _,H,I.kept (h':=h') fun b o e=>hk b o ?_ (Qcq _ e),rfl,q⟩
  have:=Qiq e
  simp
  exact Qwq this
end
end L2
namespace Dk
open PySem
def uH:mroOf (Value.type "dict")=pure [Value.type "dict",Value.type "object"]:=by
 rw[mroOf_type]
 rfl
def rJ:typeLookup (Value.type "dict") (Str.ofString "__new__")=pure (some (Value.builtin "dict.__new__")):=by
 rw[typeLookup_type,builtinLookup_eq_fast]
 rfl
def zT:isSubtype (Value.type "dict") (Value.type "dict")=pure true:=by
 rw[isSubtype_type]
 rfl
def iQ:plainId "dict.__new__"=true:=by decide +kernel
def dN:TypeCalled "dict" "dict.__new__" "dict.__init__" where
 notType:=by decide +kernel
 canCreate:=by decide +kernel
 mro:=⟨_,_,uH⟩
 made:=madeBy_type uH rJ (by decide +kernel)
 plain:=iQ
 sub:=zT
 init:=F.slot_dict_init
def rM(a:Value):checkTypeCall "dict" {pos:= [a]}=pure ():=by rfl
def tF(a:Value):checkBuiltinCall "dict.__new__" {pos:= [Value.type "dict",a]}=pure ():=by with_unfolding_all rfl
def tJ:entryFor table "dict.__new__"=some Builtin.«dict.__new__»:=by rfl
def rD{prog:Program}{w:World}{A:Around}{E:Value->Shared->Prop}{s:Shared}(a:Value){Q₁:Value->Shared->Prop}
  (h:Q₁ (.ref s.heap.objs.size) {s with heap:=s.heap.push {cls:=.type "dict",data:=.dict #[]}}):
  codeAny (model prog w) A (.call (.builtin "dict.__new__") {pos:= [.type "dict",a]}) (wants Q₁ E) s:=by
 refine codeAny_of_tree ?_
 show wpAny _ _ (do checkBuiltinCall "dict.__new__" _;_) _ _ _
 refine Qaq (wpAny_of_eq (tF a) (Qgq ⟨plainId_quiet iQ _,codeAny_builtin tJ ?_⟩))
 rw[Around.under_plainId iQ]
 refine Qaq (Qgq (wpAny_ite_false rfl (Qaq (wpAny_of_eq zT (wpAny_ite_false rfl (Qaq (wpAny_of_eq uH (wpAny_ite_false ?_ ?_))))))))
 ·rfl
 ·refine Qaq ?_
  have e:newObj (.type "dict") (.dict #[])=newObjAsIs (.type "dict") (.dict #[]):=by
   unfold newObj
   simp
  rw[e]
  exact Qaq (wpAny_alloc (Qgq (Qgq h)))
def zO{prog:Program}{w:World}{A:Around}{E:Value->Shared->Prop}{s:Shared}{a:Value}{Q:Value->Shared->Prop}
  (h:wpAny (model prog w) A.in1.in1 (Builtin.«dict.__init__» {pos:= [.ref s.heap.objs.size,a]})
   (fun fin s'=>match fin with|.done f=>wants (fun r s₂=>r=.none/\Q (.ref s.heap.objs.size) s₂) E (.ok f) s'|.again c'=>c'.quiet=true/\codeAny (model prog w) A.in1 c' (wants (fun r s₂=>r=.none/\Q (.ref s.heap.objs.size) s₂) E) s')
   (fun e s'=>wants (fun r s₂=>r=.none/\Q (.ref s.heap.objs.size) s₂) E (.error e) s') {s with heap:=s.heap.push {cls:=.type "dict",data:=.dict #[]}}):
  wpAny (model prog w) A (call (.type "dict") [a]) Q E s:=by
 obtain⟨c,tl,hmro⟩:=dN.mro
 have hmade:=dN.made
 have hsub:=dN.sub
 refine wpAny_call (codeAny_of_tree ?_)
 refine Qgq ⟨Code.quiet_builtin _ (by decide +kernel),codeAny_builtin F.entry_type_call ?_⟩
 rw[Around.under_plain (weight_type_call_type "dict" [a] []) rfl]
 have h1:=dN.notType
 have h2:=dN.canCreate
 have hct:=rM a
 unfold Builtin.«type.__call__»
 dsimp only
 refine wpAny_ite_false rfl ?_
 refine wpAny_ite_false (by rw[h2];rfl) ?_
 refine Qaq (wpAny_of_eq hct (Qaq (wpAny_of_eq hmro (wpAny_ite_false rfl (Qaq (wpAny_of_eq hmade (Qaq (Qgq (Qaq (QLq (wpAny_call (codeAny_mono (rD (E:=E) (Q₁:=fun v s₁=>v=.ref s.heap.objs.size/\s₁={s with heap:=s.heap.push {cls:=.type "dict",data:=.dict #[]}}) a ⟨rfl,rfl⟩) fun r s₁ hr=> ?_))))))))))))
 cases r with
 |error e=>exact hr
 | ok fl=>
   cases fl with
   | ret obj=>
     obtain⟨rfl,rfl⟩:=hr
     have hS:=Qrq s.heap (o:={cls:=.type "dict",data:=.dict #[]}) rfl
     have hT:Shared.TypeIs {s with heap:=s.heap.push {cls:=.type "dict",data:=.dict #[]}} (.ref s.heap.objs.size) "dict":=⟨_,hS,rfl⟩
     have hli:=dN.init.lookup
     have hbi:=dN.init.bind (.ref s.heap.objs.size)
     refine Qaq (wpAny_isInstance hT hsub (wpAny_ite_false rfl (Qaq (QLq ?_))))
     unfold callSpecial?
     refine Qaq (wpAny_specialOf hT hli (QLq (Qaq (wpAny_of_eq hbi (Qaq (wpAny_call (codeAny_mono (codeAny_call_builtin dN.init.plain F.entry_dict_init (dN.init.check _ _ _ _ _ [a] [] _ hT (F.args_dict_init_2 _ _) h)) fun r s₂ hr=> ?_)))))))
     cases r with
     |error e=>exact hr
     | ok fl=>
       cases fl with
       | ret v=>
         obtain⟨rfl,hq⟩:=hr
         exact Qgq (wpAny_ite_false rfl (Qgq hq))
       |_=>exact hr.elim
   |_=>exact hr.elim
def kW:entryFor table "dict.update.loop"=some Builtin.«dict.update.loop»:=by rfl
def ib:plainId "dict.update.loop"=true:=by decide +kernel
section
variable{prog:Program}{w:World}{K:Type}[DecidableEq K]{knd:KeyKind prog w K}
def BG(kvs:List (K×Value))(k:K)(v:Value):(stored kvs k v).length<=kvs.length+1:=by
 unfold stored
 split
 ·rw[lQm];omega
 ·rw[lQa];simp
def J4(kk:Nat->K)(vv:Nat->Value):Nat->List (K×Value)
 |0=> []
 |i+1=>stored (J4 kk vv i) (kk i) (vv i)
theorem CA(kk:Nat->K)(vv:Nat->Value):∀i,(J4 kk vv i).length<=i
 |0=>Qmq _
 |i+1=>QAq (BG _ _ _) (Nat.succ_le_succ (CA kk vv i))
end
end Dk
namespace L2
open PySem PySem.Spec PyProof.Rows
section
variable{X:Cx}
def key_is{k:Key}{u:Value}(r:RelV (kV k) u)(P:Program)(w:World):(cq P w).is k u=true:=by
 cases k with
 |inl i=>obtain⟨t,rfl⟩:=(show∃t,u=Value.int i t from r);simp[cq,qC,Value.isInt]
 |inr x=>obtain⟨t,rfl⟩:=(show∃t,u=Value.str x t from r);simp[cq,qC,Value.isStrOf]
end
end L2
namespace Dk
open PySem
end Dk
namespace L2
open PySem PySem.Spec PyProof.Rows
def Hr{X:Cx}{N:List Str}{js:List (Option Nat)}{scope:Scope}{cl:List (Str×Addr)}{tg iter elt tgt:Expr}{ifs:List Expr}{pos spos:Pos}{wi:TI}{g gt:TG}{tt:TT}{te:TE}
  (S:aU X N js scope cl) (hc:X.calm=true) (hi:PI X tg iter wi)
  (hg:∀C s H fp,PG (bo X N scope cl C s H fp) tg g) (ht:∀C s H fp,rA (bo X N scope cl C s H fp) ifs tt) (he:∀C s H fp,PE (bo X N scope cl C s H fp) elt te) (hgt:PG X tgt gt)
  (hs:∀x,foldedSetIterable iter X.env x=pure x:=by intro _;rfl) (hsw:swapsWithSole [tgt] (.ListComp elt [⟨tg,iter,ifs,0⟩] scope pos) spos.line X.env=pure true:=by rfl)
  (h1:(assignEach [tgt] X.env).map (·.2)= [assign tgt X.env]:=by rfl):PS X (.Assign [tgt] (.ListComp elt [⟨tg,iter,ifs,0⟩] scope pos) spos) (Eg (Gn js wi g tt te) gt):=by
 intro pins s σ H Dn I h
 rw[exec_Assign_arm]
 refine Qaq (wpAny_standAt (Qaq (wpAny_of_eq hsw (wpAny_ite_true rfl (Qaq ?_)))))
 rw[h1]
 show wpAny _ _ (do let _←comprehension _ _ _ _ _ _ _ (some fun v=>assignAll v [assign tgt X.env]);pure ()) _ _ _
 refine Qaq ?_
 refine wpAny_comprehension_free (use:=some fun v=>assignAll v [assign tgt X.env]) rfl hs S.clos S.kind S.names (di (hi pins s σ H _ I h) fun v s1 h1=>di h1 fun itv s2 h2=> ?_)
 obtain⟨it,fp,tn,J,H2,e,I2,T,st2,f2,hD⟩:=h2
 subst e
 refine wpAny_newObj_type (wpAny_newFunctionEnv S.nocell (by intro y hy;simp at hy) (fun h₁ hns₁ hsb₁=> ?_) S.kind)
 dsimp only at hns₁ hsb₁⊢
 generalize hH2:s2.heap.push {cls:=.type "list",dict:=none,data:=.seq ([]:List Value).toArray}=P2 at hns₁ hsb₁⊢
 have hC:P2.objs.size=s2.heap.objs.size+1:=by rw[←hH2,Heap.size_push]
 have hDC:s2.heap.objs.size≠P2.objs.size:=by rw[hC];exact Qwq (Nat.lt_succ_self _)
 have hCle:s2.heap.objs.size<=P2.objs.size:=by rw[hC];exact Nat.le_succ _
 have below:∀b,b<s2.heap.objs.size->b≠P2.objs.size:=fun b hb=>by rw[hC];exact Qwq (Nat.lt_succ_of_lt hb)
 have old:∀b o,s2.heap.get? b=some o->h₁.get? b=some o:=fun b o e=>hsb₁.extBut b o (below b (Qiq e)) (Qcq _ (hH2▸Qcq _ e))
 have hnew:h₁.get? s2.heap.objs.size=some {cls:=.type "list",dict:=none,data:=.seq ([]:List Value).toArray}:=hsb₁.extBut _ _ hDC (Qcq _ (hH2▸Qrq _ rfl))
 have nD:H2 s2.heap.objs.size=none:=I2.fresh
 have nC:H2 P2.objs.size=none:=I2.hok.fresh hCle
 have fpo:∀b∈fp,b<s2.heap.objs.size:=fun b hb=>by
  obtain⟨o,e,_⟩:=T.obj _ _ st2 b hb
  exact Qiq e
 obtain⟨W,⟨m0,w0⟩,turn⟩:=hD s2.heap.objs.size nD
 have ok':(bo X N scope cl P2.objs.size s2 H2 fp).Ok:=by
  refine⟨I2.ok.mod,S.kind,I2.ok.glob,I2.ok.blt,hCle,fun x y c h1 h2=>I2.ok.inj x y c (S.sub x c h1) (S.sub y c h2),S.has,(fun x c h=>by cases h),I2.ok.hd,I2.ok.frames,.inl rfl,
   fun b hb=>⟨below b (fpo b hb),fun x c h=>(f2 b hb).2.2.2.2.1 x c (S.sub x c h)⟩,I2.bs,QAq I2.ok.bsz I2.sz,fun b o e hb=> ?_,fun b hb z=> ?_,I2.stack,I2.stkFree⟩
  ·rcases(f2 b hb).2.2.2.1 with z|z
   ·exact I2.ok.noex b o e z
   ·exact absurd (Qqq (Qqq (Qiq e) I2.ok.bsz) z) (Nat.lt_irrefl _)
  ·rcases Qsq.mp (I2.stkSub b z) with q|q
   ·exact(f2 b hb).2.1 q
   ·exact(f2 b hb).2.2.1 q
 have hobj:dA X.prog X.w (upd H2 s2.heap.objs.size (.lst [])) h₁ s2.heap.objs.size (.lst []):=⟨Nat.zero_le _,[],0,.nil,hnew⟩
 have I4:Inv (bo X N scope cl P2.objs.size s2 H2 fp) [] (kB js σ) (upd H2 s2.heap.objs.size (.lst [])) {s2 with heap:=h₁,toks:=s2.toks+([]:List (Str×Value)).length}:=by
  refine⟨ok',rfl,I2.bare,Un.laid old (Qmq _) nD,⟨_,hns₁,fun i x v h1 h2 h3=> ?_⟩,fun x c h=> ?_,by show upd H2 _ _ P2.objs.size=none;rw[bA hDC.symm];exact nC,fun x c h=> ?_,fun p hp=>absurd (show p∈([]:List (Addr×Obj)) from hp) (by simp),I2.hok.laid old (Qmq _) hobj,by show(kB js σ).length=N.length;unfold kB;rw[lQm];exact S.len⟩
  ·unfold kB at h2
   rw[gQm] at h2
   cases e:js[i]? with
   |none=>rw[e] at h2;cases h2
   | some o=>
     rw[e] at h2
     cases o with
     |none=>cases h2
     | some j=>
       have h2':σ.getD j none=some v:=Option.some.inj h2
       have hj:σ[j]?=some (some v):=by
         rw[Qlq] at h2'
         cases q:σ[j]? with
         |none=>rw[q] at h2';cases h2'
         |some y=>rw[q] at h2';exact congrArg some h2'
       obtain⟨c1,c2,c3⟩:=S.cap i j x e h1
       obtain⟨m,hn,hl⟩:=I2.loc
       have vis:IA X.env.scope x:=by
         rcases c2 with z|z
         · exact .inr (.inl z)
         · exact .inr (.inr z)
       obtain⟨u,r,l⟩:=hl j x v c1 hj vis
       refine⟨u,r,.inr ⟨c3,?_⟩⟩
       obtain⟨c,hc'⟩:=S.has x c3
       refine⟨c,hc',?_⟩
       rcases l with⟨z,_⟩|⟨_,c',e',z⟩
       · rcases c2 with y|y <;>rw[y] at z <;>cases z
       · rw[S.sub x c hc'] at e'
         cases e'
         obtain⟨o,ho,hd⟩:=z
         exact⟨o,old _ _ ho,hd⟩
  ·obtain⟨v,o,ho,hd⟩:=I2.cell x c (S.sub x c h)
   exact⟨v,o,old _ _ ho,hd⟩
  ·obtain⟨v,o,ho,hd⟩:=I2.cell x c (S.sub x c h)
   rw[bA (Qwq (Qiq ho))]
   exact I2.freeC x c (S.sub x c h)
 have stat:∀{pins':List (Addr×Obj)} {H':Hp},pins'= []->(∀b∈fp,H' b=none)->∀b∈fp,qv (bo X N scope cl P2.objs.size s2 H2 fp) pins' H' b:=fun{pins' H'} ep hn b hb=>by
  subst ep
  refine⟨hn b hb,below b (fpo b hb),fun z=>ok'.exfs b hb z,.inl hb,fun x c h=>(f2 b hb).2.2.2.2.1 x c (S.sub x c h),fun p hp=>absurd (show p∈([]:List (Addr×Obj)) from hp) (by simp)⟩
 have loop:codeAny (model X.prog X.w) X.A (.compLoop (.ListComp elt [⟨tg,iter,ifs,0⟩] scope pos) 0 (.ref it) (.ref s2.heap.objs.size) (compEnvC scope cl P2.objs.size X.env))
   (compPost (model X.prog X.w) X.A X.xe (some fun v=>assignAll v [assign tgt X.env]) (fun _ s9=>wpAny (model X.prog X.w) X.A (pure ()) (fun _ s10=>wpAny (model X.prog X.w) X.A (pure Flow.next) (SP X pins Dn) X.xe s10) X.xe s9) (.ref s2.heap.objs.size) P2.objs.size) {s2 with heap:=h₁,toks:=s2.toks+([]:List (Str×Value)).length}:=by
  refine ph (fun n s'=>∃i σ' H',Inv (bo X N scope cl P2.objs.size s2 H2 fp) [] σ' H' s'/\tn i s'.heap/\(∀b∈fp,H' b=none)/\W i n σ' H') ?_ m0
   ⟨0,_,_,I4,T.keep _ _ _ st2 fun b _ o e=>old b o e,fun b hb=>by rw[bA (Qwq (fpo b hb))];exact(f2 b hb).1,w0⟩
  rintro n s3 ⟨i,σ3,H3,I3,st3,fr3,w3⟩
  rcases turn i n σ3 H3 w3 with⟨stop,q⟩|⟨go,Nx,hN,step⟩
  ·refine di (T.done (bo X N scope cl P2.objs.size s2 H2 fp) rfl rfl rfl hc i [] s3 σ3 H3 _ I3 (stat rfl fr3) st3 stop) fun r s4 qr=> ?_
   obtain⟨hr,I5⟩:=qr
   subst hr
   obtain⟨m,hn,_⟩:=id I5.loc
   have toX:∀h',Heap.SameBut P2.objs.size s4.heap h'->Inv X pins σ H3 {s4 with heap:=h'}:=by
    intro h' hs'
    have u:=I5.base
    have ne:∀b o,s2.heap.get? b=some o->b≠P2.objs.size:=fun b o e=>below b (Qiq e)
    refine I2.call' (ch:=fp) I5.os ⟨fun b o e n hb hx=>(hs'.2 b (ne b o e)).trans (u.keep b o e n hb hx),fun b o e n hb hx=> ?_,u.free,fun b o e hx=> ?_,u.tups,u.frzs,u.tbls⟩ (fun b ob e=> ?_) I5.bare fun b hb=>⟨(f2 b hb).2.2.2.1,(f2 b hb).2.1,(f2 b hb).2.2.2.2.1,(f2 b hb).2.2.2.2.2⟩
    ·obtain⟨sl,e1⟩:=u.slot b o e n hb hx
     exact⟨sl,(hs'.2 b (ne b o e)).trans e1⟩
    ·obtain⟨o',e1⟩:=u.there b o e hx
     exact⟨o',(hs'.2 b (ne b o e)).trans e1⟩
    ·refine(I5.hok b ob e).stay (fun c w' hc q=>(hs'.2 c ?_).trans q) (fun _ q=>q) fun _ _ q=>q
     have fC:H3 P2.objs.size=none:=I5.free
     rintro rfl
     rcases hc with z|z
     ·rw[←z,fC] at e;cases e
     ·rw[fC] at z;cases z
   have IX:=toX s4.heap ⟨rfl,fun _ _=>rfl⟩
   have okC:qv X pins H3 P2.objs.size:=I2.fpOk hCle I5.free
   obtain⟨oC,es,ep,hoC,hdC,hrC⟩:=hn
   have IP:=IX.pinned (fp:= [P2.objs.size]) (fun b hb=>by rw[Qfq] at hb;rw[hb];exact okC) (fun b hb=>by rw[Qfq] at hb;rw[hb];exact⟨oC,hoC,fun v=>by rw[hdC];simp⟩)
   show wpAny _ _ (assignAll (.ref s2.heap.objs.size) [assign tgt X.env]) _ _ _
   rw[assignAll.eq_2]
   refine di (hgt _ s4 σ H3 (.ref s2.heap.objs.size) (.ref s2.heap.objs.size) _ IP rfl q) fun _ s6 qr=> ?_
   obtain⟨σ6,H6,I6,q6⟩:=qr
   have pC:=I6.pin (P2.objs.size,oC) (Qoq _ (Qoq _ (dZ (Qfq.mpr rfl) hoC)))
   refine⟨m,⟨oC,es,ep,pC.1,hdC,hrC⟩,fun h' hs'=>Qgq (Qgq ⟨σ6,H6,?_,q6⟩)⟩
   exact I6.unpinned.turned (it:=P2.objs.size) (t':=s6.toks) (fun b o' hb e=>(hs'.2 b hb).trans e) pC.2.1 pC.2.2.1 okC.2.2.2.1 okC.2.2.2.2.1 okC.2.2.2.2.2
  ·refine di (T.item (bo X N scope cl P2.objs.size s2 H2 fp) rfl rfl rfl hc i [] s3 σ3 H3 _ I3 (stat rfl fr3) st3 go) fun r s4 qr=> ?_
   obtain⟨u,hr,h4⟩:=qr
   subst hr
   refine di h4 fun _ s5 qr=> ?_
   obtain⟨x,H5,I5,r5,y5,st5,fr5⟩:=qr
   have I5':=I5.pinned (stat rfl fr5) (T.obj _ _ st5)
   refine di (hg P2.objs.size s2 H2 fp _ s5 σ3 H5 x u _ I5' r5 (step x H5 y5)) fun _ s6 qr=> ?_
   obtain⟨σ6,H6,I6,q6⟩:=qr
   refine di (ht P2.objs.size s2 H2 fp _ s6 σ6 H6 _ I6 q6) fun ok s7 qr=> ?_
   obtain⟨H7,I7,q7⟩:=qr
   have again:∀{s8:Shared} {H8:Hp},Inv (bo X N scope cl P2.objs.size s2 H2 fp) ([]++nR fp s5.heap) σ6 H8 s8->Nx σ6 H8->∃m,m<n/\∃i σ' H',Inv (bo X N scope cl P2.objs.size s2 H2 fp) [] σ' H' s8/\tn i s8.heap/\(∀b∈fp,H' b=none)/\W i m σ' H':=fun{s8 H8} I8 n8=>by
    obtain⟨m',hm,w8⟩:=hN σ6 H8 n8
    refine⟨m',hm,i+1,σ6,H8,I8.unpinned,T.keep _ _ _ st5 fun b hb o e=>(I8.pin (b,o) (Qoq _ (Qoq _ (dZ hb e)))).1,fun b hb=> ?_,w8⟩
    obtain⟨o,e,d⟩:=T.obj _ _ st5 b hb
    exact(I8.pin (b,o) (Qoq _ (Qoq _ (dZ hb e)))).2.1
   cases ok with
   |false=>exact again I7 q7
   | true=>
     refine di (he P2.objs.size s2 H2 fp _ s7 σ6 H7 _ I7 q7) fun yv s8 qr=> ?_
     obtain⟨y,H8,I8,ry,xs,hx,hl,n8⟩:=qr
     refine di (pK (X:=bo X N scope cl P2.objs.size s2 H2 fp) _ s8 σ6 H8 (.ref s2.heap.objs.size) [y] (.ref s2.heap.objs.size) [yv] (fun _ H'=>Nx σ6 H') I8 rfl (.cons ry .nil) ⟨_,xs,y,rfl,rfl,hx,hl,n8⟩) fun _ s9 qr=> ?_
     obtain⟨z,H9,I9,_,q9⟩:=qr
     exact again I9 q9
 exact codeAny_compStart_list loop (T.self _ 0 _ _ _ (T.keep _ _ _ st2 fun b _ o e=>old b o e) loop)
end L2
namespace Dk
open PySem
end Dk
namespace L2
open PySem PySem.Spec PyProof.Rows
section
variable{X:Cx}
def HX(K:PySem.W.Frag):List V->Hp->VK->Prop:=fun xs H Q=>∃(a:Addr) (ss:List Str),xs= [.ref a]/\iK K H a (ss.map V.str)/\ss.length<64/\∀(l:Addr) (out:List Str),H l=none->sortedS out=true->out.Perm ss->Q (.ref l) (upd H l (.lst (out.map V.str)))
theorem v7:∀{ys:List Str} {its:List Value},bM (ys.map V.str) its->StrsAre its ys
 | [],_,r=>by cases r;exact .nil
 | y::ys,_,r=>by
   cases r with
   | cons h t=>
     obtain⟨tk,rfl⟩:=h
     exact .cons y tk (v7 t)
def ye{ss:List Str}{vs:List Value}(h:StrsAre vs ss):bM (ss.map V.str) vs:=by
 induction h with
 |nil=>exact .nil
 |cons y t _ ih=>exact .cons ⟨t,rfl⟩ ih
def xS:i4 X (.builtin "sorted") (HX X.K):=by
 intro pins s σ H xs us Q I r h
 obtain⟨a,ss,rfl,ha,h64,q⟩:=h
 obtain⟨u,rfl,rx⟩:=vals1 r
 cases (show u=Value.ref a from rx)
 obtain⟨its,rv,pl,hz⟩:=I.list ha
 have hil:its.length=ss.length:=by have:=rv.length;simpa using this.symm
 have big:s.heap.objs.size<=s.heap.objs.size+1:=Nat.le_succ _
 refine sorted_strs pl.isList (v7 rv) (by omega) fun out ss' hA hp hs=> ?_
 obtain⟨e,he⟩:=sortedAll_at s.heap its out
 have hlen:ss'.length=ss.length:=hp.length_eq
 refine⟨.ref (s.heap.objs.size+1),_,I.laid (a:=s.heap.objs.size+1) (o:=.lst (ss'.map V.str)) (h':=sortedAll s.heap its out) (t':=s.toks) (fun b o hb=> ?_) big ⟨?_,out.toList,e,ye hA,?_⟩,rfl,q _ ss' (I.hok.fresh big) hs hp⟩
 ·exact sortedAll_old hb
 ·rw[lQm,hlen]
  exact QAq (nQl h64) (by decide)
 ·simpa using he
end
end L2
namespace Zp
open PySem
section
variable{prog:Program}{w:World}{A:Around}{E:Value->Shared->Prop}{s:Shared}
def KU{i t:Addr}{k:Nat}{vs:Array Value}{v:Value}{Q:Value->Shared->Prop}(gi:s.heap.IsTupleIter i t k)(gt:s.heap.IsTuple t vs)(hv:vs[k]?=some v)
  (q:∀h',h'.IsTupleIter i t (k+1)->Heap.SameBut i s.heap h'->Q v {s with heap:=h'}):wpAny (model prog w) A (Builtin.SmallTypes.nextOf (.ref i)) Q E s:=by
 obtain⟨oi,g1,g2,g3⟩:=id gi
 obtain⟨ot,t1,_,nt,t2⟩:=gt
 unfold Builtin.SmallTypes.nextOf
 refine Qaq (wpAny_callSpecial?_slot (name:=Str.ofString "__next__") gi.typeIs F.slot_tuple_iterator_next (wpAny_call_entry F.slot_tuple_iterator_next gi.typeIs F.entry_tuple_iterator_next ?_ (F.args_tuple_iterator_next_1 _)))
 refine(?_:wpAny _ _ (field (.ref i) 0 >>= _) _ _ s)
 refine Qaq (QMq g1 g3 (x:=.ref t) rfl ?_)
 refine(?_:wpAny _ _ (if (Value.ref t==Value.none)=true then _ else _) _ _ s)
 rw[Quq (fun z=>by cases (show false=true from z))]
 refine(?_:wpAny _ _ (field (.ref i) 1 >>= _) _ _ s)
 refine Qaq (QMq g1 g3 (x:=.int k 0) rfl ?_)
 refine(?_:wpAny _ _ (seqItems? (.ref t) >>= _) _ _ s)
 refine Qaq (wpAny_seqItems t1 t2 ?_)
 simp only[Int.toNat_natCast,hv]
 refine Qaq (wpAny_setField g1 g3 (by simp) (Qgq ⟨v,rfl,Qgq (q _ ⟨_,Heap.get?_update_self _ g1 (Obj.isFreed_of_fields (Obj.data_mapFields g3 _)),(Obj.cls_mapFields ..).trans g2,?_⟩ (Heap.SameBut.update ..))⟩))
 rw[Obj.data_mapFields g3]
 simp[rawInt]
def K1{i t:Addr}{k:Nat}{vs:Array Value}{Q:Value->Shared->Prop}(hA:A.handled=none)(gi:s.heap.IsTupleIter i t k)(gt:s.heap.IsTuple t vs)(hv:vs[k]?=none)
  (q:∀h' e,Heap.ExtBut i s.heap h'->(∃o,h'.get? e=some o/\o.cls=.type "StopIteration")->E (.ref e) {s with heap:=h'}):wpAny (model prog w) A (Builtin.SmallTypes.nextOf (.ref i)) Q E s:=by
 obtain⟨oi,g1,g2,g3⟩:=id gi
 obtain⟨ot,t1,_,nt,t2⟩:=gt
 unfold Builtin.SmallTypes.nextOf
 refine Qaq (wpAny_callSpecial?_slot (name:=Str.ofString "__next__") gi.typeIs F.slot_tuple_iterator_next (wpAny_call_entry F.slot_tuple_iterator_next gi.typeIs F.entry_tuple_iterator_next ?_ (F.args_tuple_iterator_next_1 _)))
 refine(?_:wpAny _ _ (field (.ref i) 0 >>= _) _ _ s)
 refine Qaq (QMq g1 g3 (x:=.ref t) rfl ?_)
 refine(?_:wpAny _ _ (if (Value.ref t==Value.none)=true then _ else _) _ _ s)
 rw[Quq (fun z=>by cases (show false=true from z))]
 refine(?_:wpAny _ _ (field (.ref i) 1 >>= _) _ _ s)
 refine Qaq (QMq g1 g3 (x:=.int k 0) rfl ?_)
 refine(?_:wpAny _ _ (seqItems? (.ref t) >>= _) _ _ s)
 refine Qaq (wpAny_seqItems t1 t2 ?_)
 simp only[Int.toNat_natCast,hv]
 refine Qaq (wpAny_rule (Qaq (wpAny_setField g1 g3 (by simp) ?_)))
 refine(?_:wpAny _ _ (newExc (.type "StopIteration") [] >>= _) _ _ _)
 refine Qaq ?_
 simp only[newExc,newTuple]
 refine Qaq (wpAny_newObj_type ?_ (by size_fits))
 refine Qaq (m:=firstArgMember _ _) (wpAny_of_eq (a:=Value.none) (by first|rfl|(simp only[firstArgMember];rfl)) (wpAny_newObj_type ?_ (by size_fits)))
 simp only[raiseNew]
 refine Qaq (wpAny_handled ?_)
 first|rw[show A.in1.handled=none from hA]|rw[hA]
 exact Qaq (Qgq (wpAny_throw (q _ _ (((Heap.SameBut.update ..).extBut.push _).push _) ⟨_,Qrq _ rfl,rfl⟩)))
end
def Rest(z O i j:Addr)(h h':Heap):Prop:=∀c o,c≠z->c≠O->c≠i->c≠j->h.get? c=some o->h'.get? c=some o
end Zp
namespace L2
open PySem PySem.Spec PyProof.Rows
section
variable{X:Cx}{pins:List (Addr×Obj)}{σ:St}{H:Hp}{s:Shared}{h':Heap}
def Inv.turnedL{t':Nat}{fp:List Addr}(I:Inv X pins σ H s)(hf:∀b∈fp,qv X pins H b)(k:∀b o,b∉fp->s.heap.get? b=some o->h'.get? b=some o):Inv X pins σ H {s with heap:=h',toks:=t'}:=by
 have nit:∀b u,H b=some u->b∉fp:=fun b u e z=>by rw[(hf b z).1] at e;cases e
 refine I.step (g':=s.gens) (d':=s.drawn) (ch:=fp) (fun b hb=>⟨(hf b hb).2.2.2.1,(hf b hb).2.1,(hf b hb).2.2.2.2.1,(hf b hb).2.2.2.2.2⟩) (fun b o _ _ hc e _=>k b o hc e) (fun b o _ _ hc e _=>⟨o.slots,k b o hc e⟩) (fun _ _ _ _ n=>n)
  (fun b o hc e=>⟨o,k b o hc e⟩) (fun _ _ e=>e) (fun _ _ _ e=>e) (fun b ps e=>⟨#[],by rw[e];simp⟩) (fun m hm=> ?_) (fun b u e=> ?_) I.bare
 ·obtain⟨o,es,ep,ho,r⟩:=hm
  exact⟨o,es,ep,k _ o (fun z=>(hf _ z).2.1 rfl) ho,r⟩
 ·refine(I.hok b u e).stay (fun c v hc q=>k c v ?_ q) (fun _ q=>q) fun _ _ q=>q
  rcases hc with z|z
  ·rw[z];exact nit b u e
  ·exact nit c _ z
def Inv.turnedNew{t':Nat}{fp:List Addr}{p:Addr}{o:HO}(I:Inv X pins σ H s)(hf:∀b∈fp,qv X pins H b)(k:∀b u,b∉fp->s.heap.get? b=some u->h'.get? b=some u)(hp:s.heap.objs.size<=p)
  (new:dA X.prog X.w (upd H p o) h' p o):Inv X pins σ (upd H p o) {s with heap:=h',toks:=t'}:=by
 have hn:=I.hok.fresh hp
 have nit:∀b u,H b=some u->b∉fp:=fun b u e z=>by rw[(hf b z).1] at e;cases e
 have np:∀b u,H b=some u->upd H p o b=some u:=fun b u e=>by rw[bA (gd e hn)];exact e
 refine I.step (g':=s.gens) (d':=s.drawn) (ch:=fp) (fun b hb=>⟨(hf b hb).2.2.2.1,(hf b hb).2.1,(hf b hb).2.2.2.2.1,(hf b hb).2.2.2.2.2⟩) (fun b o _ _ hc e _=>k b o hc e) (fun b o _ _ hc e _=>⟨o.slots,k b o hc e⟩)
  (fun b u _ e n=>by rw[bA (fun z=>Nat.lt_irrefl _ (Qqq (Qiq e) (by rw[z];exact hp)))];exact n)
  (fun b o hc e=>⟨o,k b o hc e⟩) (fun b xs e=>np b _ e) (fun b u v e=>np b _ e) (fun b ps e=>⟨#[],by rw[np b _ e];simp⟩) (fun m hm=> ?_) (fun b u e=> ?_) I.bare
 ·obtain⟨o,es,ep,ho,r⟩:=hm
  exact⟨o,es,ep,k _ o (fun z=>(hf _ z).2.1 rfl) ho,r⟩
 ·by_cases hb:b=p
  ·subst hb
   rw[cj] at e
   cases e
   exact new
  ·rw[bA hb] at e
   refine(I.hok b u e).stay (fun c v hc q=>k c v ?_ q) (fun c q=>np c _ q) fun c _ q=>np c _ q
   rcases hc with z|z
   ·rw[z];exact nit b u e
   ·exact nit c _ z
end
end L2
namespace Zp
open PySem PySem.W PyProof.Rows
def qd:KasT (Array Nat)->List (Array Nat)
 |.ret p=> [p]
 |.ask _ _ k=>qd (k true)++qd (k false)
def t5(n:Nat):KasT (Array Nat)->Bool
 |.ret _=>true
 |.ask i j k=>decide (i<n)&&decide (j<n)&&decide (i≠j)&&t5 n (k true)&&t5 n (k false)
def su:∀n:Nat,n<=3->2<=n->t5 n (kas_sort n)=true/\(qd (kas_sort n)).all (fun p=>p.toList.isPerm (List.range n))=true:=by
 intro n h3 h2
 have:n=2\/n=3:=by omega
 rcases this with rfl|rfl
 ·decide +kernel
 ·decide +kernel
inductive e_(h:Heap):List Value->List Str->Prop
 |nil:e_ h [] []
 |cons {a:Addr} {o:Obj} {xs:Array Value} {n:Nat} {x:Str} {t:Tok} {vs:List Value} {fs:List Str}:h.get? a=some o->o.cls=.type "tuple" ->o.data=.seq xs n->xs[0]?=some (.str x t)->e_ h vs fs->e_ h (.ref a::vs) (x::fs)
theorem e_.keep{h h':Heap}(k:∀a o,h.get? a=some o->o.cls=.type "tuple" ->h'.get? a=some o):∀{vs:List Value} {fs:List Str},e_ h vs fs->e_ h' vs fs
 |_,_,.nil=>.nil
 |_,_,.cons e c d f r=>.cons (k _ _ e c) c d f (r.keep k)
theorem e_.len{h:Heap}:∀{vs:List Value} {fs:List Str},e_ h vs fs->vs.length=fs.length
 |_,_,.nil=>rfl
 |_,_,.cons _ _ _ _ r=>congrArg (·+1) r.len
theorem e_.get{h:Heap}:∀{vs:List Value} {fs:List Str} {i:Nat},e_ h vs fs->i<fs.length->∃a o xs n t,vs.getD i Value.none=.ref a/\h.get? a=some o/\o.data=.seq xs n/\xs[0]?=some (.str (fs.getD i "") t)
 |_,_,0,.cons e c d f r,_=>⟨_,_,_,_,_,rfl,e,d,f⟩
 | _,_,i+1,.cons e c d f r,hi=>by
   have:=r.get (i:=i) (by simpa using hi)
   simpa using this
 |_,_,_,.nil,hi=>by simp at hi
theorem e_.firsts{h:Heap}:∀{vs:List Value} {fs:List Str},e_ h vs fs->∃gs:List Value,KatTups h vs gs/\gs.length=fs.length/\∀v∈gs,∃x t,v=.str x t
 |_,_,.nil=>⟨[],KatTups.nil,rfl,by simp⟩
 | _,_,.cons e c d f r=>by
   obtain⟨gs,k,l,m⟩:=r.firsts
   exact⟨_::gs,KatTups.cons e c d f k,by simp[l],fun v hv=>by
     rcases Qsq.mp hv with z|z
     · exact⟨_,_,z⟩
     · exact m v z⟩
end Zp
namespace L2
open PySem PySem.Spec PyProof.Rows
section
variable{X:Cx}
def GV:jf X (binaryOp .Mult) (rI IntMulOk fun i j=>.int (i*j)):=Mq fun _ _ _ _ _ _ _ hc q=>mul_int q hc
inductive vQ(H:Hp):List Addr->List Str->Prop
 |nil:vQ H [] []
 |cons {a:Addr} {x:Str} {us:List V} {rs:List Addr} {ss:List Str}:H a=some (.tup (.str x::us))->vQ H rs ss->vQ H (a::rs) (x::ss)
theorem zq{pins:List (Addr×Obj)}{σ:St}{H:Hp}{s:Shared}(I:Inv X pins σ H s):∀{rs:List Addr} {ss:List Str},vQ H rs ss->Zp.e_ s.heap (rs.map Value.ref) ss
 |_,_,.nil=>.nil
 | _,_,.cons (a:=a) h r=>by
   obtain⟨its,rv,⟨o,h1,h2,n,h3⟩,hz⟩:=I.tuple (hZ.of h)
   cases rv with
   | cons r0 rr=>
     obtain⟨t,rfl⟩:=r0
     exact .cons (t:=t) h1 h2 h3 (by simp) (zq I r)
theorem wx:∀{rs:List Addr} {us:List Value},bM (rs.map V.ref) us->us=rs.map Value.ref
 | [],_,r=>by cases r;rfl
 | a::rs,_,r=>by
   cases r with
   | cons h t=>
     cases h
     rw[wx t]
     rfl
theorem tE:∀(rs:List Addr),bM (rs.map V.ref) (rs.map Value.ref)
 | []=>.nil
 |a::rs=>.cons rfl (tE rs)
end
section
variable{X:Cx}
def GK:K9 X (fun x y H Q=>∃p xs k v,x=.ref p/\y=.int ((k:Nat):Int)/\iK X.K H p xs/\xs[k]?=some v/\Q v H):=by
 intro pins s σ H x y v u Q I rx ry h
 obtain⟨p,xs,k,z,rfl,rfl,hq,he,q⟩:=h
 cases rx
 obtain⟨t,rfl⟩:=ry
 obtain⟨its,r,pl,hz⟩:=I.list hq
 obtain⟨w',ew,rw'⟩:=r.get he
 have hk:k<xs.length:=(gQs.mp he).1
 have hn:=mi
 exact wpAny_getItem_list pl.isList (x:=w') (Int.natCast_nonneg k) (by omega) (by simpa using ew) ⟨z,H,I,rw',q⟩
end
section
variable{X:Cx}
def EN(K:PySem.W.Frag):R2:=fun x y H Q=>∃a b xs,x=.ref a/\y=.ref b/\iK K H a xs/\iK K H b []/\Q (.bl (!xs.isEmpty)) H
def Gz(hu:X.A.units<cLine):jf X (compareOp .NotEq) (EN X.K):=by
 intro pins s σ H x y v u Q I rx ry h
 obtain⟨a,b,xs,rfl,rfl,ha,hb,q⟩:=h
 cases xs with
 |nil=>exact GE hu pins s σ H _ _ v u Q I rx ry ⟨a,b,[],[],rfl,rfl,ha,hb,rfl,rfl,q⟩
 | cons z zs=>
   cases rx
   cases ry
   obtain⟨its,r,pl,hz⟩:=I.list ha
   obtain⟨jts,r',pl',hz'⟩:=I.list hb
   have l1:=r.length
   have l2:=r'.length
   exact SeqAt.RcNeAt.lists_lengths pl.isList pl'.isList (by simp[←l1,←l2]) hu _ _ _ _ ⟨.bl true,H,I,rfl,q⟩
end
end L2
namespace HT
open PySem PySem.Spec PyProof.Rows
section
variable{prog:Program}{w:World}{A:Around}{E:Value->Shared->Prop}{s:Shared}
def mM{t sl:Addr}{items:Array Value}{vl vu:Value}{lo hi:Option Int}{Q:Value->Shared->Prop}(ht:IsTup s.heap t items)(hs:s.heap.IsSliceOf sl vl vu .none)(pl:IsPart vl lo)(pu:IsPart vu hi)
  (hw:fX items.size 0 lo=0/\fX items.size items.size hi=items.size) (h:Q (.ref t) s):wpAny (model prog w) A (getItem (.ref t) (.ref sl)) Q E s:=by
 obtain⟨os,hos,hcs,hds⟩:=id hs
 have hTs:s.TypeIs (.ref sl) "slice":=⟨os,hos,hcs⟩
 unfold getItem
 try with_reducible refine QLq ?_
 first|refine Qaq (Qgq ?_)|skip
 refine Qaq (wpAny_sequenceKey ht.typeIs (by decide) ?_)
 refine Qaq (wpAny_callSpecial?_slot (name:=Str.ofString "__getitem__") ht.typeIs PyProof.Rows.slot_tuple_getitem
  (wpAny_call_entry PyProof.Rows.slot_tuple_getitem ht.typeIs entry_tuple_getitem ?_ (args_tuple_getitem _ _)))
 show wpAny _ _ (Builtin.Tuple.tupleItemsOf (.ref t) >>= _) _ _ s
 refine Qaq (tupleItemsOf_ ht ?_)
 refine Qaq (wpAny_typeOf hTs ?_)
 rw[Qhq (by decide)]
 refine Qaq (jP hs pl pu ?_)
 have hyes:(((fX items.size 0 lo:Nat):Int)==0&&(1:Int)==1&&(fX items.size items.size hi-fX items.size 0 lo)==items.size)=true:=by
  rw[hw.1,hw.2]
  simp
 show wpAny _ _ (if (((fX items.size 0 lo:Nat):Int)==0&&(1:Int)==1&&(fX items.size items.size hi-fX items.size 0 lo)==items.size)=true then _ else _) _ _ s
 rw[Qhq hyes]
 have ex:∀{A:Around} {E:Value->Shared->Prop} {R:Bool->Shared->Prop},R true s->wpAny (model prog w) A (Builtin.Tuple.tupleIsExact (.ref t)) R E s:=fun{A E R} h=>by
  unfold Builtin.Tuple.tupleIsExact
  exact Qaq (wpAny_typeOf ht.typeIs (Qgq h))
 refine Qaq (m:=Builtin.Tuple.tupleIsExact _) (ex ?_)
 rw[Qhq rfl]
 refine Qaq (wpAny_rule ?_)
 exact Qgq ⟨_,rfl,Qgq h⟩
end
end HT
namespace L2
open PySem PySem.Spec PyProof.Rows
def MM(K:PySem.W.Frag):V->Option Int->Option Int->Hp->VK->Prop:=fun x lo hi H Q=>∃a xs,x=.ref a/\hZ K H a xs∧
 (HT.fX xs.length 0 lo=0/\HT.fX xs.length xs.length hi=xs.length->Q (.ref a) H)/\(¬(HT.fX xs.length 0 lo=0/\HT.fX xs.length xs.length hi=xs.length)->∀p,H p=none->Q (.ref p) (upd H p (.tup (BI xs lo hi))))
def G5{X:Cx}:MP X (MM X.K):=by
 intro pins s σ H x v vl vu lo hi sl Q I rx hs pl pu h
 obtain⟨a,xs,rfl,hx,q1,q2⟩:=h
 by_cases hw:HT.fX xs.length 0 lo=0/\HT.fX xs.length xs.length hi=xs.length
 ·cases rx
  obtain⟨its,r,ht,hz⟩:=I.tuple hx
  have hlen:its.toArray.size=xs.length:=by rw[Qjq];exact r.length.symm
  refine⟨"tuple",_,PyProof.Rows.slot_tuple_getitem.lookup,ht.typeIs,?_⟩
  exact HT.mM ht hs pl pu (by rw[hlen];exact hw) ⟨.ref a,H,I,rfl,q1 hw⟩
 ·exact Jk pins s σ H _ v vl vu lo hi sl Q I rx hs pl pu ⟨a,xs,rfl,hx,hw,q2 hw⟩
end L2
namespace DL
open PySem PySem.Spec PyProof.Rows L2
inductive D where
 |non|bl (b:Bool)|int (i:Int)|str (x:Str)|tup (xs:List D)|ref (k:Nat)|fn (x:Str)
inductive O where
 |lst (xs:List D)|frz (xs:List D)|dct (kvs:List (Key×D))
abbrev aH:=List O
abbrev de:=List (Option D)
structure Md where
 K:PySem.W.Frag
 mg:Str->Option Value
mutual
inductive Rel(M:Md)(ρ:List Addr)(H:Hp):D->V->Prop
 |non:Rel M ρ H .non .non
 |bl (b:Bool):Rel M ρ H (.bl b) (.bl b)
 |int (i:Int):Rel M ρ H (.int i) (.int i)
 |str (x:Str):Rel M ρ H (.str x) (.str x)
 |tup {a:Addr} {vs:List V} {ds:List D}:H a=some (.tup vs)->bt M ρ H ds vs->Rel M ρ H (.tup ds) (.ref a)
 |ref {k:Nat} {a:Addr}:ρ[k]?=some a->Rel M ρ H (.ref k) (.ref a)
 |fn {x:Str} {a:Addr}:M.mg x=some (.ref a)->Rel M ρ H (.fn x) (.ref a)
inductive bt(M:Md)(ρ:List Addr)(H:Hp):List D->List V->Prop
 |nil:bt M ρ H [] []
 |cons {d:D} {v:V} {ds:List D} {vs:List V}:Rel M ρ H d v->bt M ρ H ds vs->bt M ρ H (d::ds) (v::vs)
end
section
variable{M:Md}{ρ ρ':List Addr}{H H':Hp}
def NA:HO->Prop
 |.tup _=>True
 |.frz _ _=>True
 |_=>False
structure cK(ρ:List Addr)(H:Hp)(ρ':List Addr)(H':Hp):Prop where
 pre:ρ <+: ρ'
 new:∀a∈ρ',a∈ρ\/H a=none
 keep:∀a o,H a=some o->a∉ρ\/NA o->H' a=some o
 grow:∀a,H' a=none->H a=none
def cK.refl:cK ρ H ρ H:=⟨List.prefix_refl _,fun _ h=>.inl h,fun _ _ h _=>h,fun _ h=>h⟩
def cK.trans{ρ1 ρ2:List Addr}{H1 H2:Hp}(e:cK ρ H ρ1 H1)(f:cK ρ1 H1 ρ2 H2):cK ρ H ρ2 H2 where
 pre:=e.pre.trans f.pre
 new:=fun a h=>(f.new a h).elim (fun h=>e.new a h) fun h=>.inr (e.grow a h)
 keep:=fun a o h c=>f.keep a o (e.keep a o h c) (c.imp (fun n m=>(e.new a m).elim n fun z=>by rw[z] at h;cases h) id)
 grow:=fun a h=>e.grow a (f.grow a h)
def cK.laid{a:Addr}{o:HO}(h:H a=none):cK ρ H ρ (upd H a o) where
 pre:=List.prefix_refl _
 new:=fun _ h=>.inl h
 keep:=fun b o' e _=>by rw[bA];exact e;intro z;subst z;rw[h] at e;cases e
 grow:=fun b e=>by
  by_cases z:b=a
  ·subst z;exact h
  ·rw[bA z] at e;exact e
theorem lD{α:Type}:∀{l:List α},l.Nodup->∀{i j:Nat} {a:α},l[i]?=some a->l[j]?=some a->i=j
 | [],_,_,_,_,h,_=>by simp at h
 |x::l,n,0,0,_,_,_=>rfl
 | x::l,n,0,j+1,a,h1,h2=>by
   rw[List.nodup_cons] at n
   simp at h1 h2
   subst h1
   exact absurd (mQg h2) n.1
 | x::l,n,i+1,0,a,h1,h2=>by
   rw[List.nodup_cons] at n
   simp at h1 h2
   subst h2
   exact absurd (mQg h1) n.1
 | x::l,n,i+1,j+1,a,h1,h2=>by
   rw[List.nodup_cons] at n
   simp at h1 h2
   exact congrArg (·+1) (lD n.2 h1 h2)
def cH{α β:Type}{a c:α}{b d:β}(h:some (a,b)=some (c,d)):a=c/\b=d:=by cases h;exact⟨rfl,rfl⟩
def dv{α:Type}{l l':List α}(h:l <+: l'){k:Nat}{a:α}(e:l[k]?=some a):l'[k]?=some a:=by
 obtain⟨t,rfl⟩:=h
 rw[QHq (gQs.mp e).1]
 exact e
mutual
theorem Rel.ext(e:cK ρ H ρ' H'):∀{d:D} {v:V},Rel M ρ H d v->Rel M ρ' H' d v
 |_,_,.non=>.non
 |_,_,.bl b=>.bl b
 |_,_,.int i=>.int i
 |_,_,.str x=>.str x
 |_,_,.tup h hs=>.tup (e.keep _ _ h (.inr trivial)) (bt.ext e hs)
 |_,_,.ref h=>.ref (dv e.pre h)
 |_,_,.fn h=>.fn h
theorem bt.ext(e:cK ρ H ρ' H'):∀{ds:List D} {vs:List V},bt M ρ H ds vs->bt M ρ' H' ds vs
 |_,_,.nil=>.nil
 |_,_,.cons h hs=>.cons (Rel.ext e h) (bt.ext e hs)
end
mutual
theorem Rel.pre(e:ρ <+: ρ'):∀{d:D} {v:V},Rel M ρ H d v->Rel M ρ' H d v
 |_,_,.non=>.non
 |_,_,.bl b=>.bl b
 |_,_,.int i=>.int i
 |_,_,.str x=>.str x
 |_,_,.tup h hs=>.tup h (bt.pre e hs)
 |_,_,.ref h=>.ref (dv e h)
 |_,_,.fn h=>.fn h
theorem bt.pre(e:ρ <+: ρ'):∀{ds:List D} {vs:List V},bt M ρ H ds vs->bt M ρ' H ds vs
 |_,_,.nil=>.nil
 |_,_,.cons h hs=>.cons (Rel.pre e h) (bt.pre e hs)
end
theorem bt.length:∀{ds:List D} {vs:List V},bt M ρ H ds vs->ds.length=vs.length
 |_,_,.nil=>rfl
 |_,_,.cons _ h=>congrArg (·+1) h.length
theorem bt.append:∀{ds es:List D} {vs ws:List V},bt M ρ H ds vs->bt M ρ H es ws->bt M ρ H (ds++es) (vs++ws)
 |_,_,_,_,.nil,h=>h
 |_,_,_,_,.cons h hs,h'=>.cons h (hs.append h')
theorem bt.get:∀{ds:List D} {vs:List V} {i:Nat} {d:D},bt M ρ H ds vs->ds[i]?=some d->∃v,vs[i]?=some v/\Rel M ρ H d v
 |_,_,0,_,.cons h _,e=>by cases e;exact⟨_,rfl,h⟩
 |_,_,i+1,_,.cons _ hs,e=>hs.get (i:=i) (by simpa using e)
 |_,_,_,_,.nil,e=>by simp at e
theorem bt.set{d:D}{v:V}(h:Rel M ρ H d v):∀{ds:List D} {vs:List V} (i:Nat),bt M ρ H ds vs->bt M ρ H (ds.set i d) (vs.set i v)
 |_,_,_,.nil=>.nil
 |_,_,0,.cons _ t=>.cons h t
 |_,_,i+1,.cons q t=>.cons q (bt.set h i t)
theorem bt.take:∀{ds:List D} {vs:List V} (n:Nat),bt M ρ H ds vs->bt M ρ H (ds.take n) (vs.take n)
 |_,_,0,_=>.nil
 |_,_,_+1,.nil=>.nil
 |_,_,n+1,.cons h hs=>.cons h (hs.take n)
theorem bt.drop:∀{ds:List D} {vs:List V} (n:Nat),bt M ρ H ds vs->bt M ρ H (ds.drop n) (vs.drop n)
 |_,_,0,h=>h
 |_,_,_+1,.nil=>.nil
 |_,_,n+1,.cons _ hs=>hs.drop n
theorem bt.eraseIdx:∀{ds:List D} {vs:List V} (n:Nat),bt M ρ H ds vs->bt M ρ H (ds.eraseIdx n) (vs.eraseIdx n)
 |_,_,_,.nil=>.nil
 |_,_,0,.cons _ h=>h
 |_,_,n+1,.cons h hs=>.cons h (hs.eraseIdx n)
theorem bt.rep{ds:List D}{vs:List V}(h:bt M ρ H ds vs):∀k:Nat,bt M ρ H (List.replicate k ds).flatten (List.replicate k vs).flatten
 |0=>.nil
 |k+1=>by rw[QNq,QNq,List.flatten_cons,List.flatten_cons];exact h.append (h.rep k)
def cQ(M:Md)(ρ:List Addr)(H:Hp):List (Key×D)->List (Key×V)->Prop
 | [],kv=>kv= []
 |(k,d)::r,kv=>∃v t,kv=(k,v)::t/\Rel M ρ H d v/\cQ M ρ H r t
theorem cQ.imp{ρ':List Addr}{H':Hp}(f:∀d v,Rel M ρ H d v->Rel M ρ' H' d v):∀{l:List (Key×D)} {kv:List (Key×V)},cQ M ρ H l kv->cQ M ρ' H' l kv
 | [],_,h=>h
 |(_,_)::_,_,⟨v,t,e,h,hs⟩=>⟨v,t,e,f _ _ h,cQ.imp f hs⟩
theorem cQ.length:∀{l:List (Key×D)} {kv:List (Key×V)},cQ M ρ H l kv->l.length=kv.length
 | [],_,h=>by cases h;rfl
 |(_,_)::_,_,⟨v,t,e,h,hs⟩=>by subst e;exact congrArg (·+1) hs.length
def o_(M:Md)(ρ:List Addr)(H:Hp)(a:Addr):O->Prop
 |.lst ds=>∃vs,H a=some (.lst vs)/\bt M ρ H ds vs
 |.frz ds=>∃vs o,H a=some (.frz o (.lst vs))/\bt M ρ H ds vs
 |.dct kvs=>∃kv,H a=some (.dK kv)/\cQ M ρ H kvs kv
structure gQ(M:Md)(ρ:List Addr)(S:aH)(H:Hp):Prop where
 len:ρ.length=S.length
 nd:ρ.Nodup
 obj:∀(k:Nat) (a:Addr) (o:O),ρ[k]?=some a->S[k]?=some o->o_ M ρ H a o
def o_.lay{a b:Addr}{o:O}{u:HO}(h:o_ M ρ H a o)(hb:H b=none):o_ M ρ (upd H b u) a o:=by
 have e:cK ρ H ρ (upd H b u):=cK.laid hb
 have ne:∀{x},H a=some x->upd H b u a=some x:=fun{x} h=>by rw[bA];exact h;intro z;subst z;rw[hb] at h;cases h
 cases o with
 |lst ds=>obtain⟨vs,h1,h2⟩:=h;exact⟨vs,ne h1,h2.ext e⟩
 |frz ds=>obtain⟨vs,o,h1,h2⟩:=h;exact⟨vs,o,ne h1,h2.ext e⟩
 |dct kvs=>obtain⟨kv,h1,h2⟩:=h;exact⟨kv,ne h1,h2.imp fun _ _ r=>r.ext e⟩
def gQ.lay{S:aH}{b:Addr}{u:HO}(h:gQ M ρ S H)(hb:H b=none):gQ M ρ S (upd H b u):=⟨h.len,h.nd,fun k a o h1 h2=>(h.obj k a o h1 h2).lay hb⟩
theorem o_.pre{a:Addr}{o:O}(e:ρ <+: ρ')(h:o_ M ρ H a o):o_ M ρ' H a o:=by
 cases o with
 |lst ds=>obtain⟨vs,h1,h2⟩:=h;exact⟨vs,h1,h2.pre e⟩
 |frz ds=>obtain⟨vs,o,h1,h2⟩:=h;exact⟨vs,o,h1,h2.pre e⟩
 |dct kvs=>obtain⟨kv,h1,h2⟩:=h;exact⟨kv,h1,h2.imp fun _ _ r=>r.pre e⟩
def gQ.box{S:aH}{a:Addr}{o:O}(h:gQ M ρ S H)(hn:a∉ρ)(ho:o_ M (ρ++ [a]) H a o):gQ M (ρ++ [a]) (S++ [o]) H where
 len:=by rw[lQa,lQa,h.len];rfl
 nd:=by rw[List.nodup_append];exact⟨h.nd,by simp,fun x hx y hy=>by rw[Qfq] at hy;subst hy;exact fun z=>hn (z▸hx)⟩
 obj:=fun k b u h1 h2=>by
  by_cases c:k<ρ.length
  ·rw[QHq c] at h1
   rw[QHq (h.len▸c)] at h2
   exact(h.obj k b u h1 h2).pre (List.prefix_append _ _)
  ·have c:ρ.length<=k:=Nat.le_of_not_lt c
   rw[QQq c] at h1
   rw[QQq (h.len▸c)] at h2
   have z:k-ρ.length=0:=by
    have:=(gQs.mp h1).1
    simp at this
    omega
   have z2:k-S.length=0:=by rw[←h.len];exact z
   rw[z] at h1
   rw[z2] at h2
   cases h1
   cases h2
   exact ho
def gQ.put{S:aH}{k:Nat}{a:Addr}{o o':O}{u:HO}(h:gQ M ρ S H)(hk:ρ[k]?=some a)(ho:S[k]?=some o)(hu:o_ M ρ (upd H a u) a o')(ne:∀x,H a=some x->¬NA x):gQ M ρ (S.set k o') (upd H a u)/\cK ρ H ρ (upd H a u):=by
 have ma:a∈ρ:=mQg hk
 have e:cK ρ H ρ (upd H a u):=by
  refine⟨List.prefix_refl _,fun _ h=>.inl h,fun b x hx c=> ?_,fun b hb=> ?_⟩
  ·rw[bA]
   ·exact hx
   ·intro z
    subst z
    exact c.elim (fun n=>n ma) fun im=>ne _ hx im
  ·by_cases z:b=a
   ·subst z;rw[cj] at hb;cases hb
   ·rw[bA z] at hb;exact hb
 refine⟨⟨by rw[List.length_set];exact h.len,h.nd,fun j b p h1 h2=> ?_⟩,e⟩
 by_cases c:j=k
 ·subst c
  rw[hk] at h1
  cases h1
  rw[Qyq (gQs.mp ho).1] at h2
  cases h2
  exact hu
 ·rw[QKq (Ne.symm c)] at h2
  have ba:b≠a:=by
   intro z
   subst z
   have l1:=(gQs.mp h1)
   have l2:=(gQs.mp hk)
   obtain⟨l1,e1⟩:=l1
   obtain⟨l2,e2⟩:=l2
   exact c (lD h.nd h1 hk)
  have q:=h.obj j b p h1 h2
  cases p with
  |lst ds=>obtain⟨vs,q1,q2⟩:=q;exact⟨vs,by rw[bA ba];exact q1,q2.ext e⟩
  |frz ds=>obtain⟨vs,o,q1,q2⟩:=q;exact⟨vs,o,by rw[bA ba];exact q1,q2.ext e⟩
  |dct kvs=>obtain⟨kv,q1,q2⟩:=q;exact⟨kv,by rw[bA ba];exact q1,q2.imp fun _ _ r=>r.ext e⟩
end
structure En(M:Md)(ρ:List Addr)(H:Hp)(Γ:de)(σ:L2.St):Prop where
 len:σ.length=Γ.length
 get:∀(i:Nat) (d:D),Γ[i]?=some (some d)->∃v,σ[i]?=some (some v)/\Rel M ρ H d v
def En.ext{M:Md}{ρ ρ':List Addr}{H H':Hp}{Γ:de}{σ:L2.St}(h:En M ρ H Γ σ)(e:cK ρ H ρ' H'):En M ρ' H' Γ σ:=⟨h.len,fun i d q=>by obtain⟨v,h1,h2⟩:=h.get i d q;exact⟨v,h1,h2.ext e⟩⟩
def En.set{M:Md}{ρ:List Addr}{H:Hp}{Γ:de}{σ:L2.St}{i:Nat}{d:D}{v:V}(h:En M ρ H Γ σ)(r:Rel M ρ H d v):En M ρ H (Γ.set i (some d)) (σ.set i (some v)) where
 len:=by rw[List.length_set,List.length_set];exact h.len
 get:=fun j e q=>by
  by_cases c:i=j
  ·subst c
   have l:i<Γ.length:=by
    have:=(gQs.mp q).1
    rwa [List.length_set] at this
   rw[Qyq l] at q
   cases q
   exact⟨v,Qyq (h.len▸l),r⟩
  ·rw[QKq c] at q⊢
   exact h.get j e q
structure Ok(M:Md)(ρ:List Addr)(Γ:de)(S:aH)(σ:L2.St)(H:Hp):Prop where
 en:En M ρ H Γ σ
 st:gQ M ρ S H
def Ok.to{M:Md}{ρ ρ':List Addr}{Γ:de}{S S':aH}{σ:L2.St}{H H':Hp}(h:Ok M ρ Γ S σ H)(e:cK ρ H ρ' H')(s:gQ M ρ' S' H'):Ok M ρ' Γ S' σ H':=⟨h.en.ext e,s⟩
abbrev bH:=de->aH->Option (D×aH)
abbrev h_:=de->aH->Option (List D×aH)
abbrev ko:=de->aH->Option (Bool×aH)
def tD(M:Md)(f:bH):TE:=fun σ H Q=>∃ρ Γ S d S',Ok M ρ Γ S σ H/\f Γ S=some (d,S')/\∀ρ' v H',cK ρ H ρ' H'->gQ M ρ' S' H'->Rel M ρ' H' d v->Q v H'
def tL(M:Md)(f:h_):TE:=fun σ H Q=>∃ρ Γ S ds S',Ok M ρ Γ S σ H/\f Γ S=some (ds,S')∧
 ∀ρ' a vs H',cK ρ H ρ' H'->gQ M ρ' S' H'->H a=none->a∉ρ'->H' a=some (.lst vs)->bt M ρ' H' ds vs->Q (.ref a) H'
def zf(M:Md)(f:h_):TA:=fun σ H Q=>∃ρ Γ S ds S',Ok M ρ Γ S σ H/\f Γ S=some (ds,S')/\∀ρ' vs H',cK ρ H ρ' H'->gQ M ρ' S' H'->bt M ρ' H' ds vs->Q vs H'
def tB(M:Md)(f:ko):TT:=fun σ H Q=>∃ρ Γ S b S',Ok M ρ Γ S σ H/\f Γ S=some (b,S')/\∀ρ' H',cK ρ H ρ' H'->gQ M ρ' S' H'->Q b H'
section
variable{X:Cx}
abbrev md(X:Cx):Md:=⟨X.K,X.mg⟩
def kb{e:Expr}{t t':TE}(h:PE X e t)(w:∀σ H Q,t' σ H Q->t σ H Q):PE X e t':=fun pins s σ H Q I q=>h pins s σ H Q I (w _ _ _ q)
def Mt{e:Expr}{t t':TT}(h:PT X e t)(w:∀σ H Q,t' σ H Q->t σ H Q):PT X e t':=fun pins s σ H Q I q=>h pins s σ H Q I (w _ _ _ q)
def Ni{e:Expr}{t t':TT}(h:PW X e t)(w:∀σ H Q,t' σ H Q->t σ H Q):PW X e t':=fun wh pins s σ H Q I q=>h wh pins s σ H Q I (w _ _ _ q)
def Np{es:List Expr}{t t':TA}(h:PA X es t)(w:∀σ H Q,t' σ H Q->t σ H Q):PA X es t':=fun pos pins s σ H Q I q=>h pos pins s σ H Q I (w _ _ _ q)
def CP{e:Stmt}{t t':TS}(h:PS X e t)(w:∀D σ H,t' D σ H->t D σ H):PS X e t':=fun pins s σ H D I q=>h pins s σ H D I (w _ _ _ q)
def Ld{e:List Stmt}{t t':TS}(h:sk X e t)(w:∀D σ H,t' D σ H->t D σ H):sk X e t':=fun pins s σ H D I q=>h pins s σ H D I (w _ _ _ q)
noncomputable def ak(i:Nat):bH:=fun Γ S=>match Γ[i]? with
 |some (some d)=>some (d,S)
 |_=>none
def Eu{i:Nat}{Γ:de}{S:aH}{d:D}{S':aH}(h:ak i Γ S=some (d,S')):Γ[i]?=some (some d)/\S'=S:=by
 unfold ak at h
 split at h
 ·cases h;exact⟨by assumption,rfl⟩
 ·cases h
def Lw{e:Expr}{i:Nat}(h:PE X e (JV i)):PE X e (tD (md X) (ak i)):=kb h fun σ H Q qq=>by
 obtain⟨ρ,Γ,S,d,S',ok,e,q⟩:=qq
 obtain⟨e1,rfl⟩:=Eu e
 obtain⟨v,h1,h2⟩:=ok.en.get i d e1
 exact⟨v,h1,q ρ v H cK.refl ok.st h2⟩
noncomputable def cF(d:D):bH:=fun _ S=>some (d,S)
def dI{e:Expr}{v:V}{d:D}(h:PE X e (tC v))(r:∀ρ H,Rel (md X) ρ H d v):PE X e (tD (md X) (cF d)):=kb h fun σ H Q qq=>by
 obtain⟨ρ,Γ,S,d',S',ok,e,q⟩:=qq
 cases e
 exact q ρ v H cK.refl ok.st (r _ _)
def ao{i:Int}{j pos}:PE X (.Constant (.int i) j pos) (tD (md X) (cF (.int i))):=dI Kc fun _ _=>.int i
def rL{b:Bool}{j pos}:PE X (.Constant (.bool b) j pos) (tD (md X) (cF (.bl b))):=dI La fun _ _=>.bl b
def uD{j pos}:PE X (.Constant .none j pos) (tD (md X) (cF .non)):=dI Kb fun _ _=>.non
def bf{x:Str}{j pos}:PE X (.Constant (.str x) j pos) (tD (md X) (cF (.str x))):=dI Kj fun _ _=>.str x
def cO(f:h_):bH:=fun Γ S=>(f Γ S).bind fun(ds,S')=>some (.ref S'.length,S'++ [.lst ds])
def cx{e:Expr}{f:h_}(h:PE X e (tL (md X) f)):PE X e (tD (md X) (cO f)):=kb h fun σ H Q qq=>by
 obtain⟨ρ,Γ,S,d,S',ok,e,q⟩:=qq
 unfold cO at e
 cases e1:f Γ S with
 |none=>rw[e1] at e;cases e
 | some p=>
   obtain⟨ds,S1⟩:=p
   rw[e1] at e
   obtain⟨rfl,rfl⟩:=cH e
   refine⟨ρ,Γ,S,ds,S1,ok,e1,fun ρ' a vs H' x st fr nr ha rs=> ?_⟩
   have rs':=rs.pre (List.prefix_append ρ' [a])
   refine q (ρ'++ [a]) (.ref a) H' ⟨x.pre.trans (List.prefix_append _ _),fun b hb=> ?_,x.keep,x.grow⟩ (st.box nr ⟨vs,ha,rs'⟩) (.ref ?_)
   · rcases mQa.mp hb with hb|hb
     · exact x.new b hb
     · rw[Qfq] at hb;subst hb;exact .inr fr
   · rw[←st.len,QQq (Qmq _)]
     simp
noncomputable def au:h_:=fun _ S=>some ([],S)
noncomputable def aj(f:bH)(g:h_):h_:=fun Γ S=>(f Γ S).bind fun(d,S1)=>(g Γ S1).bind fun(ds,S2)=>some (d::ds,S2)
def aq{α β:Type}{o:Option α}{f:α->Option β}{b:β}(h:o.bind f=some b):∃a,o=some a/\f a=some b:=by
 cases o with
 |none=>cases h
 |some a=>exact⟨a,rfl,h⟩
def ar:PA X [] (zf (md X) au):=Np fZ fun σ H Q qq=>by
 obtain⟨ρ,Γ,S,d,S',ok,e,q⟩:=qq
 cases e
 exact q ρ [] H cK.refl ok.st .nil
def ai{e:Expr}{es:List Expr}{f:bH}{g:h_}(ha:PE X e (tD (md X) f))(hr:PA X es (zf (md X) g))(hs:starEach (e::es) X.env=(false,eval e X.env)::starEach es X.env:=by rfl):PA X (e::es) (zf (md X) (aj f g)):=
 Np (dB ha hr hs) fun σ H Q qq=>by
  obtain⟨ρ,Γ,S,d,S',ok,e,q⟩:=qq
  obtain⟨⟨x,S1⟩,e1,e⟩:=aq e
  obtain⟨⟨xs,S2⟩,e2,e⟩:=aq e
  obtain⟨rfl,rfl⟩:=cH e
  refine⟨ρ,Γ,S,x,S1,ok,e1,fun ρ1 v H1 x1 st1 r1=>⟨ρ1,Γ,S1,xs,S2,ok.to x1 st1,e2,fun ρ2 vs H2 x2 st2 r2=> ?_⟩⟩
  exact q ρ2 (v::vs) H2 (x1.trans x2) st2 (.cons (r1.ext x2) r2)
def bg(f:h_):bH:=fun Γ S=>(f Γ S).bind fun(ds,S1)=>if ds.length<=sizeLine then some (.tup ds,S1) else none
def aS{es:List Expr}{f:h_}{k pos}(h:PA X es (zf (md X) f)):PE X (.Tuple es k pos) (tD (md X) (bg f)):=kb (JX h) fun σ H Q qq=>by
 obtain⟨ρ,Γ,S,d,S',ok,e,q⟩:=qq
 obtain⟨⟨ds,S1⟩,e1,e⟩:=aq e
 dsimp only at e
 split at e
 ·rename_i c
  obtain⟨rfl,rfl⟩:=cH e
  refine⟨ρ,Γ,S,ds,S1,ok,e1,fun ρ1 vs H1 x1 st1 r1=>⟨r1.length▸c,fun p hp=> ?_⟩⟩
  exact q ρ1 (.ref p) _ (x1.trans (cK.laid hp)) (st1.lay hp) (.tup cj (r1.ext (cK.laid hp)))
 ·cases e
def bP(f:h_):h_:=fun Γ S=>(f Γ S).bind fun(ds,S1)=>if ds.length<=sizeLine then some (ds,S1) else none
def dR{M:Md}{ρ ρ':List Addr}{S:aH}{H H':Hp}{p:Addr}(x:cK ρ H ρ' H')(st:gQ M ρ' S H')(hp:H' p=none):p∉ρ':=fun m=>by
 obtain⟨k,hk⟩:=List.getElem?_of_mem m
 have l:k<S.length:=st.len▸(gQs.mp hk).1
 have:=st.obj k p _ hk (gQe l)
 cases e:S[k] with
 |lst ds=>rw[e] at this;obtain⟨vs,h,_⟩:=this;rw[hp] at h;cases h
 |frz ds=>rw[e] at this;obtain⟨vs,o,h,_⟩:=this;rw[hp] at h;cases h
 |dct ds=>rw[e] at this;obtain⟨vs,h,_⟩:=this;rw[hp] at h;cases h
def cP{es:List Expr}{f:h_}{pos}(h:PA X es (zf (md X) f)):PE X (.List es pos) (tL (md X) (bP f)):=kb (Jd h) fun σ H Q qq=>by
 obtain⟨ρ,Γ,S,d,S',ok,e,q⟩:=qq
 obtain⟨⟨ds,S1⟩,e1,e⟩:=aq e
 dsimp only at e
 split at e
 ·rename_i c
  obtain⟨rfl,rfl⟩:=cH e
  refine⟨ρ,Γ,S,ds,S1,ok,e1,fun ρ1 vs H1 x1 st1 r1=>⟨r1.length▸c,fun p hp=> ?_⟩⟩
  exact q ρ1 p vs _ (x1.trans (cK.laid hp)) (st1.lay hp) (x1.grow p hp) (dR x1 st1 hp) cj (r1.ext (cK.laid hp))
 ·cases e
end
section
variable{X:Cx}{a b c e:Expr}{pos:Pos}
def Gd:jf X (binaryOp .Add) (fun x y H Q=>∃a b ys,x=.ref a/\y=.ref b/\hZ X.K H a []/\hZ X.K H b ys/\Q (.ref b) H):=by
 intro pins s σ H x y v u Q I rx ry h
 obtain⟨a,b,ys,rfl,rfl,ha,hb,q⟩:=h
 cases rx
 cases ry
 obtain⟨its,r1,ht,_⟩:=I.tuple ha
 obtain⟨its2,r2,hb,_⟩:=I.tuple hb
 cases r1
 obtain⟨⟨cls,dd,data,sl⟩,ho,hc,n,hd⟩:=id ht
 obtain⟨⟨cls2,dd2,data2,sl2⟩,ho2,hc2,n2,hd2⟩:=id hb
 simp only at hc hd hc2 hd2
 subst hc hd hc2 hd2
 exact concat_meets ⟨_,ho,rfl⟩ ⟨_,ho2,rfl⟩ noFill_tuple_add seq_tuple_add PySem.F.slot_tuple_add PySem.F.entry_tuple_add (PySem.F.args_tuple_add_2 _ _)
   (tuple_addW0 a b _ its2.toArray n n2 dd dd2 sl sl2 (by simp)) ⟨ho,ho2,.ref b,H,I,rfl,q⟩
abbrev rq:=aH->D->D->Option D
def jd(M:Md)(r:R2)(o:rq):Prop:=∀{ρ:List Addr} {S:aH} {H:Hp} {x y d:D} {u v:V} {Q:VK},gQ M ρ S H->Rel M ρ H x u->Rel M ρ H y v->o S x y=some d->(∀w H',cK ρ H ρ H'->gQ M ρ S H'->Rel M ρ H' d w->Q w H')->r u v H Q
noncomputable def aC(o:rq)(f g:bH):bH:=fun Γ S=>(f Γ S).bind fun(x,S1)=>(g Γ S1).bind fun(y,S2)=>(o S2 x y).bind fun d=>some (d,S2)
def qW{r:R2}{o:rq}{f g:bH}(ho:jd (md X) r o)(h:PE X e (GO r (tD (md X) f) (tD (md X) g))):PE X e (tD (md X) (aC o f g)):=kb h fun σ H Q qq=>by
 obtain⟨ρ,Γ,S,d,S',ok,e,q⟩:=qq
 obtain⟨⟨x,S1⟩,e1,e⟩:=aq e
 obtain⟨⟨y,S2⟩,e2,e⟩:=aq e
 obtain⟨d',e3,e⟩:=aq e
 obtain⟨rfl,rfl⟩:=cH e
 refine⟨ρ,Γ,S,x,S1,ok,e1,fun ρ1 v H1 x1 st1 r1=>⟨ρ1,Γ,S1,y,S2,ok.to x1 st1,e2,fun ρ2 w H2 x2 st2 r2=> ?_⟩⟩
 exact ho st2 (r1.ext x2) r2 e3 fun w' H3 x3 st3 r3=>q ρ2 w' H3 ((x1.trans x2).trans x3) st3 r3
noncomputable def cM:rq:=fun _ x y=>match x,y with
 |.int i,.int j=>some (.int (i+j))
 |.str i,.str j=>if i.length+j.length<=sizeLine then some (.str (i++j)) else none
 |.tup i,.tup j=>if i.length+j.length<=sizeLine then some (.tup (i++j)) else none
 |_,_=>none
abbrev LF(K:PySem.W.Frag):R2:=fun x y H Q=>(∃i j,x=.int i/\y=.int j/\Q (.int (i+j)) H)\/(∃i j,x=.str i/\y=.str j/\i.length+j.length<=sizeLine/\Q (.str (i++j)) H)∨
 (∃a b ys,x=.ref a/\y=.ref b/\hZ K H a []/\hZ K H b ys/\Q (.ref b) H)\/IS K x y H Q
def Hk:jf X (binaryOp .Add) (LF X.K):=Jx.or (BF.or (Gd.or HI))
def Jp{M:Md}:jd M (LF M.K) cM:=by
 intro ρ S H x y d u v Q st r1 r2 e q
 cases r1 with
 |int i=>cases r2 <;>simp only[cM,reduceCtorEq] at e;cases e;exact .inl ⟨_,_,rfl,rfl,q _ _ cK.refl st (.int _)⟩
 | str i=>
   cases r2 <;>simp only[cM,reduceCtorEq] at e
   split at e <;>cases e
   exact .inr (.inl ⟨_,_,rfl,rfl,by assumption,q _ _ cK.refl st (.str _)⟩)
 | tup h1 h2=>
   cases r2 with
   | tup h3 h4=>
     simp only[cM] at e
     split at e <;>cases e
     rename_i hl
     have l1:=h2.length
     have l2:=h4.length
     cases h2 with
     |nil=>exact .inr (.inr (.inl ⟨_,_,_,rfl,rfl,hZ.of h1,hZ.of h3,q _ _ cK.refl st (.tup h3 h4)⟩))
     | cons h2 h2'=>
       refine .inr (.inr (.inr ⟨_,_,_,_,rfl,rfl,hZ.of h1,hZ.of h3,by simp,by rw[←l1,←l2];exact hl,fun z=> ?_,fun z p hp=> ?_⟩))
       · subst z
         cases h4
         rw[List.append_nil] at q
         exact q _ _ cK.refl st (.tup h1 (.cons h2 h2'))
       · exact q _ _ (cK.laid hp) (st.lay hp) (.tup cj ((bt.append (.cons h2 h2') h4).ext (cK.laid hp)))
   |_=>simp only[cM,reduceCtorEq] at e
 |_=>simp only[cM,reduceCtorEq] at e
def cC{f g:bH}(ha:PE X a (tD (md X) f))(hb:PE X b (tD (md X) g)):PE X (.BinOp a .Add b pos) (tD (md X) (aC cM f g)):=qW Jp (qM Hk ha hb)
noncomputable def intD(C:Int->Int->Prop)[∀i j,Decidable (C i j)](k:Int->Int->D):rq:=fun _ x y=>match x,y with
 |.int i,.int j=>if C i j then some (k i j) else none
 |_,_=>none
def xx{M:Md}{C:Int->Int->Prop}[∀i j,Decidable (C i j)]{k:Int->Int->D}{g:Int->Int->V}(hk:∀i j ρ H,Rel M ρ H (k i j) (g i j)):jd M (rI C g) (intD C k):=by
 intro ρ S H x y d u v Q st r1 r2 e q
 cases r1 <;>cases r2 <;>simp only[intD,reduceCtorEq] at e
 split at e <;>cases e
 exact⟨_,_,rfl,rfl,by assumption,q _ _ cK.refl st (hk _ _ _ _)⟩
def pd{M:Md}{k:Int->Int->D}{g:Int->Int->V}(hk:∀i j ρ H,Rel M ρ H (k i j) (g i j)):jd M (D2 g) (intD (fun _ _=>True) k):=by
 intro ρ S H x y d u v Q st r1 r2 e q
 cases r1 <;>cases r2 <;>simp only[intD,reduceCtorEq] at e
 rw[Qhq trivial] at e
 cases e
 exact⟨_,_,rfl,rfl,q _ _ cK.refl st (hk _ _ _ _)⟩
instance{i j:Int}:Decidable (Gm i j):=by unfold Gm;infer_instance
instance{i j:Int}:Decidable (Ge i j):=by unfold Ge;infer_instance
open Classical in
noncomputable instance{i j:Int}:Decidable (IntMulOk i j):=Classical.propDecidable _
abbrev mN:rq:=intD (fun _ _=>True) fun i j=>.int (i-j)
noncomputable abbrev nW:rq:=intD IntMulOk fun i j=>.int (i*j)
abbrev rF:rq:=intD (fun _ j=>0<j) fun i j=>.int (i%j)
abbrev AC:rq:=intD Gm fun i j=>.int (i/j)
abbrev yi:rq:=intD Ge fun i j=>.int (i^j.toNat)
def sP{f g:bH}(ha:PE X a (tD (md X) f))(hb:PE X b (tD (md X) g)):PE X (.BinOp a .Sub b pos) (tD (md X) (aC mN f g)):=qW (pd fun i j _ _=>.int _) (qM Jr ha hb)
def tM{f g:bH}(ha:PE X a (tD (md X) f))(hb:PE X b (tD (md X) g)):PE X (.BinOp a .Mult b pos) (tD (md X) (aC nW f g)):=qW (xx fun i j _ _=>.int _) (qM GV ha hb)
def uw{f g:bH}(ha:PE X a (tD (md X) f))(hb:PE X b (tD (md X) g)):PE X (.BinOp a .Mod b pos) (tD (md X) (aC rF f g)):=qW (xx fun i j _ _=>.int _) (qM Jg ha hb)
def EE{f g:bH}(ha:PE X a (tD (md X) f))(hb:PE X b (tD (md X) g)):PE X (.BinOp a .FloorDiv b pos) (tD (md X) (aC AC f g)):=qW (xx fun i j _ _=>.int _) (qM GX ha hb)
def FQ{f g:bH}(ha:PE X a (tD (md X) f))(hb:PE X b (tD (md X) g)):PE X (.BinOp a .Pow b pos) (tD (md X) (aC yi f g)):=qW (xx fun i j _ _=>.int _) (qM JT ha hb)
def pk(f:bH):bH:=fun Γ S=>(f Γ S).bind fun(d,S1)=>match d with
 |.int i=>some (.int (-i),S1)
 |_=>none
def lj{f:bH}(ha:PE X a (tD (md X) f)):PE X (.UnaryOp .USub a pos) (tD (md X) (pk f)):=kb (L8 I0 ha) fun σ H Q qq=>by
 obtain⟨ρ,Γ,S,d,S',ok,e,q⟩:=qq
 obtain⟨⟨x,S1⟩,e1,e⟩:=aq e
 dsimp only at e
 split at e
 ·obtain⟨rfl,rfl⟩:=cH e
  refine⟨ρ,Γ,S,_,S1,ok,e1,fun ρ1 v H1 x1 st1 r1=> ?_⟩
  cases r1
  exact⟨_,rfl,q _ _ _ x1 st1 (.int _)⟩
 ·cases e
def sL:D->Option V
 |.non=>some .non
 |.bl b=>some (.bl b)
 |.int i=>some (.int i)
 |.str x=>some (.str x)
 |_=>none
def mh{M:Md}{ρ:List Addr}{H:Hp}{d:D}{u v:V}(r:Rel M ρ H d u)(e:sL d=some v):u=v:=by
 cases r <;>simp[sL] at e <;>exact e
noncomputable def fm(neg:Bool):rq:=fun _ x y=>match sL x,sL y with
 |some u,some v=>if yL u v=true then some (.bl (if neg then !decide (u=v) else decide (u=v))) else none
 |_,_=>none
def Ah{neg:Bool}{S:aH}{x y d:D}(e:fm neg S x y=some d):∃u v,sL x=some u/\sL y=some v/\yL u v=true/\d=.bl (if neg then !decide (u=v) else decide (u=v)):=by
 unfold fm at e
 split at e
 ·split at e <;>cases e
  exact⟨_,_,by assumption,by assumption,by assumption,rfl⟩
 ·cases e
def cJ{M:Md}:jd M MR (fm false):=by
 intro ρ S H x y d u v Q st r1 r2 e q
 obtain⟨u',v',h1,h2,h3,rfl⟩:=Ah e
 cases mh r1 h1
 cases mh r2 h2
 exact⟨h3,q _ _ cK.refl st (.bl _)⟩
def vZ{M:Md}:jd M MJ (fm true):=by
 intro ρ S H x y d u v Q st r1 r2 e q
 obtain⟨u',v',h1,h2,h3,rfl⟩:=Ah e
 cases mh r1 h1
 cases mh r2 h2
 exact⟨h3,q _ _ cK.refl st (.bl _)⟩
abbrev Dq:rq:=intD (fun _ _=>True) fun i j=>.bl (decide (i<j))
abbrev Ed:rq:=intD (fun _ _=>True) fun i j=>.bl (decide (i<=j))
abbrev IT:rq:=intD (fun _ _=>True) fun i j=>.bl (decide (j<i))
abbrev Mp:rq:=intD (fun _ _=>True) fun i j=>.bl (decide (j<=i))
def l_{M:Md}:jd M (D2 fun i j=>.bl (decide (i<j))) Dq:=pd fun i j _ _=>.bl _
def zk{M:Md}:jd M (D2 fun i j=>.bl (decide (i<=j))) Ed:=pd fun i j _ _=>.bl _
def vX{M:Md}:jd M (D2 fun i j=>.bl (decide (j<i))) IT:=pd fun i j _ _=>.bl _
def IH{M:Md}:jd M (D2 fun i j=>.bl (decide (j<=i))) Mp:=pd fun i j _ _=>.bl _
def isNone:D->Bool
 |.non=>true
 |_=>false
def AY(neg:Bool):rq:=fun _ x y=>match y with
 |.non=>some (.bl (if neg then !isNone x else isNone x))
 |_=>none
def wU{M:Md}{ρ:List Addr}{H:Hp}{d:D}{u:V}(r:Rel M ρ H d u):decide (u=V.non)=isNone d:=by
 cases r <;>simp[isNone]
def Kn{M:Md}:jd M (fun x y H Q=>y=.non/\Q (.bl (decide (x=.non))) H) (AY false):=by
 intro ρ S H x y d u v Q st r1 r2 e q
 cases r2 <;>simp only[AY,reduceCtorEq] at e
 cases e
 rw[wU r1]
 exact⟨rfl,q _ _ cK.refl st (.bl _)⟩
def HZ{M:Md}:jd M (fun x y H Q=>y=.non/\Q (.bl (!decide (x=.non))) H) (AY true):=by
 intro ρ S H x y d u v Q st r1 r2 e q
 cases r2 <;>simp only[AY,reduceCtorEq] at e
 cases e
 rw[wU r1]
 exact⟨rfl,q _ _ cK.refl st (.bl _)⟩
def kY{op:CmpOp}{r:R2}{o:rq}{f g:bH}(ho:jf X (compareOp op) r)(hk:jd (md X) r o)(ha:PE X a (tD (md X) f))(hb:PE X b (tD (md X) g))(hm:behindInMarks op b=false):PE X (.Compare a [op] [b] pos) (tD (md X) (aC o f g)):=qW hk (HA ho ha hb hm)
noncomputable def aK(f:bH):ko:=fun Γ S=>(f Γ S).bind fun(d,S1)=>match d with
 |.bl k=>some (k,S1)
 |_=>none
def sD{f:bH}{Γ:de}{S S':aH}{k:Bool}(e:aK f Γ S=some (k,S')):f Γ S=some (.bl k,S'):=by
 obtain⟨⟨d,S1⟩,e1,e⟩:=aq e
 dsimp only at e
 split at e
 ·cases e;exact e1
 ·cases e
def KP{r:R2}{o:rq}{f g:bH}(ho:jd (md X) r o)(h:PT X e (GF (GO r (tD (md X) f) (tD (md X) g)))):PT X e (tB (md X) (aK (aC o f g))):=Mt h fun σ H Q qq=>by
 obtain⟨ρ,Γ,S,d,S',ok,e,q⟩:=qq
 have e:=sD e
 obtain⟨⟨x,S1⟩,e1,e⟩:=aq e
 obtain⟨⟨y,S2⟩,e2,e⟩:=aq e
 obtain⟨d',e3,e⟩:=aq e
 obtain⟨rfl,rfl⟩:=cH e
 refine⟨ρ,Γ,S,x,S1,ok,e1,fun ρ1 v H1 x1 st1 r1=>⟨ρ1,Γ,S1,y,S2,ok.to x1 st1,e2,fun ρ2 w H2 x2 st2 r2=> ?_⟩⟩
 exact ho st2 (r1.ext x2) r2 e3 fun w' H3 x3 st3 r3=>by cases r3;exact⟨_,rfl,q ρ2 H3 ((x1.trans x2).trans x3) st3⟩
def bG{op:CmpOp}{r:R2}{o:rq}{f g:bH}(ho:jf X (compareOp op) r)(hk:jd (md X) r o)(ha:PE X a (tD (md X) f))(hb:PE X b (tD (md X) g))(hm:behindInMarks op b=false):PT X (.Compare a [op] [b] pos) (tB (md X) (aK (aC o f g))):=KP hk (mv ho ha hb hm)
noncomputable def Bu(S:aH):D->Option Bool
 |.non=>some false
 |.bl b=>some b
 |.int i=>some (i !=0)
 |.str y=>if y.length<=sizeLine then some ((y.length:Int) !=0) else none
 |.tup xs=>some (!xs.isEmpty)
 | .ref k=>match S[k]? with
   |some (.lst xs)=>some (!xs.isEmpty)
   |some (.dct xs)=>some (!xs.isEmpty)
   |_=>none
 |.fn _=>none
def bt.isEmpty{M:Md}{ρ:List Addr}{H:Hp}{ds:List D}{vs:List V}(h:bt M ρ H ds vs):ds.isEmpty=vs.isEmpty:=by cases h <;>rfl
theorem cQ.isEmpty{M:Md}{ρ:List Addr}{H:Hp}{ds:List (Key×D)}{vs:List (Key×V)}(h:cQ M ρ H ds vs):ds.isEmpty=vs.isEmpty:=by
 cases ds with
 |nil=>cases h;rfl
 |cons p r=>obtain⟨v,t,e,_⟩:=h;subst e;rfl
def Iq{M:Md}{ρ:List Addr}{S:aH}{H:Hp}{d:D}{u:V}{k:Bool}(st:gQ M ρ S H)(r:Rel M ρ H d u)(e:Bu S d=some k):JR M.K u H k:=by
 cases r with
 |non=>cases e;rfl
 |bl=>cases e;rfl
 |int=>cases e;rfl
 |str=>simp only[Bu] at e;split at e <;>cases e;exact⟨by assumption,rfl⟩
 |tup h hs=>cases e;exact .inr (.inl ⟨_,hZ.of h,by rw[hs.isEmpty]⟩)
 |fn=>cases e
 | ref h=>
   simp only[Bu] at e
   split at e
   · cases e
     obtain⟨vs,h1,h2⟩:=st.obj _ _ _ h (by assumption)
     exact .inl ⟨vs,iK.of h1,by rw[h2.isEmpty]⟩
   · cases e
     obtain⟨vs,h1,h2⟩:=st.obj _ _ _ h (by assumption)
     exact .inr (.inr ⟨vs,h1,by rw[h2.isEmpty]⟩)
   · cases e
def kc(f:bH):ko:=fun Γ S=>(f Γ S).bind fun(d,S1)=>(Bu S1 d).bind fun k=>some (k,S1)
def jM{f:bH}(ha:PE X a (tD (md X) f))(he:∀whole,isTrue a X.env whole=(do let v←whole;standAt a.pos;holding [v] (truthy v)):=by intro _;rfl):PT X a (tB (md X) (kc f)):=Mt (Fl ha he) fun σ H Q qq=>by
 obtain⟨ρ,Γ,S,k,S',ok,e,q⟩:=qq
 obtain⟨⟨x,S1⟩,e1,e⟩:=aq e
 obtain⟨k',e2,e⟩:=aq e
 obtain⟨rfl,rfl⟩:=cH e
 exact⟨ρ,Γ,S,x,S1,ok,e1,fun ρ1 v H1 x1 st1 r1=>⟨k',Iq st1 r1 e2,q _ _ x1 st1⟩⟩
def xM(f:ko):ko:=fun Γ S=>(f Γ S).bind fun(k,S1)=>some (!k,S1)
def vR{f:ko}(ha:PT X a (tB (md X) f)):PT X (.UnaryOp .Not a pos) (tB (md X) (xM f)):=Mt (Kv ha) fun σ H Q qq=>by
 obtain⟨ρ,Γ,S,k,S',ok,e,q⟩:=qq
 obtain⟨⟨k1,S1⟩,e1,e⟩:=aq e
 obtain⟨rfl,rfl⟩:=cH e
 exact⟨ρ,Γ,S,k1,S1,ok,e1,fun ρ1 H1 x1 st1=>q _ _ x1 st1⟩
def gB(f g:ko):ko:=fun Γ S=>(f Γ S).bind fun(k,S1)=>if k=true then g Γ S1 else some (false,S1)
def GM(f g:ko):ko:=fun Γ S=>(f Γ S).bind fun(k,S1)=>if k=true then some (true,S1) else g Γ S1
def eS{f:ko}(ha:PT X a (tB (md X) f)):PW X (.BoolOp .And [a] pos) (tB (md X) f):=Hm ha
def Gi{f:ko}(ha:PT X a (tB (md X) f)):PW X (.BoolOp .Or [a] pos) (tB (md X) f):=JM ha
def w_and{rest:List Expr}{f g:ko}(ha:PT X a (tB (md X) f))(hb:PW X (.BoolOp .And (b::rest) pos) (tB (md X) g)):PW X (.BoolOp .And (a::b::rest) pos) (tB (md X) (gB f g)):=Ni (JA ha hb) fun σ H Q qq=>by
 obtain⟨ρ,Γ,S,k,S',ok,e,q⟩:=qq
 obtain⟨⟨k1,S1⟩,e1,e⟩:=aq e
 refine⟨ρ,Γ,S,k1,S1,ok,e1,fun ρ1 H1 x1 st1=> ?_⟩
 dsimp only at e
 split at e
 ·rename_i c
  rw[Qhq c]
  exact⟨ρ1,Γ,S1,k,S',ok.to x1 st1,e,fun ρ2 H2 x2 st2=>q _ _ (x1.trans x2) st2⟩
 ·rename_i c
  rw[Quq c]
  obtain⟨rfl,rfl⟩:=cH e
  exact q _ _ x1 st1
def w_or{rest:List Expr}{f g:ko}(ha:PT X a (tB (md X) f))(hb:PW X (.BoolOp .Or (b::rest) pos) (tB (md X) g)):PW X (.BoolOp .Or (a::b::rest) pos) (tB (md X) (GM f g)):=Ni (Lm ha hb) fun σ H Q qq=>by
 obtain⟨ρ,Γ,S,k,S',ok,e,q⟩:=qq
 obtain⟨⟨k1,S1⟩,e1,e⟩:=aq e
 refine⟨ρ,Γ,S,k1,S1,ok,e1,fun ρ1 H1 x1 st1=> ?_⟩
 dsimp only at e
 split at e
 ·rename_i c
  rw[Qhq c]
  obtain⟨rfl,rfl⟩:=cH e
  exact q _ _ x1 st1
 ·rename_i c
  rw[Quq c]
  exact⟨ρ1,Γ,S1,k,S',ok.to x1 st1,e,fun ρ2 H2 x2 st2=>q _ _ (x1.trans x2) st2⟩
def Ap(f g:bH):bH:=fun Γ S=>(f Γ S).bind fun(d,S1)=>match d with
 |.bl true=>g Γ S1
 |.bl false=>some (.bl false,S1)
 |_=>none
def LR(f g:bH):bH:=fun Γ S=>(f Γ S).bind fun(d,S1)=>match d with
 |.bl true=>some (.bl true,S1)
 |.bl false=>g Γ S1
 |_=>none
def B9{op}{f:bH}(h:PE X a (tD (md X) f)):PE X (.BoolOp op [a] pos) (tD (md X) f):=Kw h
def Ft{rest:List Expr}{f g:bH}(ha:PE X a (tD (md X) f))(hb:PE X (.BoolOp .And (b::rest) pos) (tD (md X) g)):PE X (.BoolOp .And (a::b::rest) pos) (tD (md X) (Ap f g)):=kb (JG ha hb) fun σ H Q qq=>by
 obtain⟨ρ,Γ,S,d,S',ok,e,q⟩:=qq
 obtain⟨⟨x,S1⟩,e1,e⟩:=aq e
 refine⟨ρ,Γ,S,x,S1,ok,e1,fun ρ1 v H1 x1 st1 r1=> ?_⟩
 dsimp only at e
 split at e
 ·cases r1
  refine⟨_,rfl,?_⟩
  rw[Qhq rfl]
  exact⟨ρ1,Γ,S1,d,S',ok.to x1 st1,e,fun ρ2 w H2 x2 st2 r2=>q _ _ _ (x1.trans x2) st2 r2⟩
 ·cases r1
  refine⟨_,rfl,?_⟩
  rw[Quq Qtq]
  obtain⟨rfl,rfl⟩:=cH e
  exact q _ _ _ x1 st1 (.bl _)
 ·cases e
def Ng{rest:List Expr}{f g:bH}(ha:PE X a (tD (md X) f))(hb:PE X (.BoolOp .Or (b::rest) pos) (tD (md X) g)):PE X (.BoolOp .Or (a::b::rest) pos) (tD (md X) (LR f g)):=kb (Lb ha hb) fun σ H Q qq=>by
 obtain⟨ρ,Γ,S,d,S',ok,e,q⟩:=qq
 obtain⟨⟨x,S1⟩,e1,e⟩:=aq e
 refine⟨ρ,Γ,S,x,S1,ok,e1,fun ρ1 v H1 x1 st1 r1=> ?_⟩
 dsimp only at e
 split at e
 ·cases r1
  refine⟨_,rfl,?_⟩
  rw[Qhq rfl]
  obtain⟨rfl,rfl⟩:=cH e
  exact q _ _ _ x1 st1 (.bl _)
 ·cases r1
  refine⟨_,rfl,?_⟩
  rw[Quq Qtq]
  exact⟨ρ1,Γ,S1,d,S',ok.to x1 st1,e,fun ρ2 w H2 x2 st2 r2=>q _ _ _ (x1.trans x2) st2 r2⟩
 ·cases e
def tf(c:ko)(f g:bH):bH:=fun Γ S=>(c Γ S).bind fun(k,S1)=>if k=true then f Γ S1 else g Γ S1
def sW{h:ko}{f g:bH}(hc:PT X c (tB (md X) h))(ha:PE X a (tD (md X) f))(hb:PE X b (tD (md X) g)):PE X (.IfExp c a b pos) (tD (md X) (tf h f g)):=kb (FI hc ha hb) fun σ H Q qq=>by
 obtain⟨ρ,Γ,S,d,S',ok,e,q⟩:=qq
 obtain⟨⟨k1,S1⟩,e1,e⟩:=aq e
 refine⟨ρ,Γ,S,k1,S1,ok,e1,fun ρ1 H1 x1 st1=> ?_⟩
 dsimp only at e
 split at e
 ·rename_i c
  rw[Qhq c]
  exact⟨ρ1,Γ,S1,d,S',ok.to x1 st1,e,fun ρ2 w H2 x2 st2 r2=>q _ _ _ (x1.trans x2) st2 r2⟩
 ·rename_i c
  rw[Quq c]
  exact⟨ρ1,Γ,S1,d,S',ok.to x1 st1,e,fun ρ2 w H2 x2 st2 r2=>q _ _ _ (x1.trans x2) st2 r2⟩
noncomputable def aQ:rq:=fun S x y=>match x,y with
 |.tup xs,.int i=>k8 xs i
 |.str z,.int i=>if z.length<=sizeLine then(k8 z.cps.toList i).map fun c=>.str ⟨#[c]⟩ else none
 | .ref k,.int i=>match S[k]? with
   |some (.lst xs)=>k8 xs i
   |some (.frz xs)=>k8 xs i
   |_=>none
 |_,_=>none
def Ik{α β:Type}{xs:List α}{ys:List β}{i:Int}{x:α}(h:k8 xs i=some x)(l:xs.length=ys.length):∃j:Nat,xs[j]?=some x/\∀y,ys[j]?=some y->k8 ys i=some y:=by
 unfold k8 at h
 obtain⟨j,e,h⟩:=aq h
 exact⟨j,h,fun y hy=>by unfold k8;rw[←l,e];exact hy⟩
def bt.atI{M:Md}{ρ:List Addr}{H:Hp}{ds:List D}{vs:List V}{i:Int}{d:D}(h:bt M ρ H ds vs)(e:L2.k8 ds i=some d):∃v,L2.k8 vs i=some v/\Rel M ρ H d v:=by
 obtain⟨j,h1,h2⟩:=Ik e h.length
 obtain⟨v,h3,h4⟩:=h.get h1
 exact⟨v,h2 v h3,h4⟩
def KM{M:Md}:jd M (Nm M.K) aQ:=by
 intro ρ S H x y d u v Q st r1 r2 e q
 cases r2 <;>cases r1 <;>simp only[aQ,reduceCtorEq] at e
 ·split at e
  ·obtain⟨c,h1,h2⟩:=oQm.mp e
   subst h2
   exact .inr (.inr ⟨_,_,c,rfl,rfl,by assumption,h1,q _ _ cK.refl st (.str _)⟩)
  ·cases e
 ·rename_i h hs
  obtain⟨v,h1,h2⟩:=hs.atI e
  exact .inr (.inl ⟨_,_,_,v,rfl,rfl,hZ.of h,h1,q _ _ cK.refl st h2⟩)
 ·rename_i h
  split at e
  ·obtain⟨vs,g1,g2⟩:=st.obj _ _ _ h (by assumption)
   obtain⟨v,h1,h2⟩:=g2.atI e
   exact .inl ⟨_,_,_,v,rfl,rfl,iK.of g1,h1,q _ _ cK.refl st h2⟩
  ·obtain⟨vs,o,g1,g2⟩:=st.obj _ _ _ h (by assumption)
   obtain⟨v,h1,h2⟩:=g2.atI e
   exact .inl ⟨_,_,_,v,rfl,rfl,.inl (.inr ⟨o,g1⟩),h1,q _ _ cK.refl st h2⟩
  ·cases e
def az{f g:bH}(ha:PE X a (tD (md X) f))(hb:PE X b (tD (md X) g))(hs:CB b:=by intro _ _;rfl):PE X (.Subscript a b pos) (tD (md X) (aC aQ f g)):=qW KM (L_ Ky ha hb hs)
end
inductive Tag where
 |tu|fr|st (k:Nat)|fz (k:Nat)
def BJ(M:Md)(ρ:List Addr)(H:Hp)(a:Addr)(vs:List V):Tag->Prop
 |.tu=>hZ M.K H a vs
 |.fr=>H a=some (.lst vs)/\a∉ρ
 |.st k=>ρ[k]?=some a/\H a=some (.lst vs)
 |.fz k=>ρ[k]?=some a/\∃o,H a=some (.frz o (.lst vs))
abbrev eF:=de->aH->Option ((List D×Tag)×aH)
def tQ(M:Md)(f:eF):TE:=fun σ H Q=>∃ρ Γ S ds t S',Ok M ρ Γ S σ H/\f Γ S=some ((ds,t),S')∧
 ∀ρ' a vs H',cK ρ H ρ' H'->gQ M ρ' S' H'->BJ M ρ' H' a vs t->bt M ρ' H' ds vs->Q (.ref a) H'
def BJ.sq{M:Md}{ρ:List Addr}{H:Hp}{a:Addr}{vs:List V}{t:Tag}(h:BJ M ρ H a vs t):iK M.K H a vs\/hZ M.K H a vs:=by
 cases t with
 |tu=>exact .inr h
 |fr=>exact .inl (iK.of h.1)
 |st k=>exact .inl (iK.of h.2)
 |fz k=>obtain⟨_,o,h⟩:=h;exact .inl (.inl (.inr ⟨o,h⟩))
def Tag.isL:Tag->Bool
 |.tu=>false
 |_=>true
def Tag.isM:Tag->Bool
 |.fr=>true
 |.st _=>true
 |_=>false
def BJ.sqL{M:Md}{ρ:List Addr}{H:Hp}{a:Addr}{vs:List V}{t:Tag}(h:BJ M ρ H a vs t)(c:t.isL=true):iK M.K H a vs:=by
 cases t with
 |tu=>cases c
 |fr=>exact iK.of h.1
 |st k=>exact iK.of h.2
 |fz k=>obtain⟨_,o,h⟩:=h;exact .inl (.inr ⟨o,h⟩)
def BJ.sqM{M:Md}{ρ:List Addr}{H:Hp}{a:Addr}{vs:List V}{t:Tag}(h:BJ M ρ H a vs t)(c:t.isM=true):H a=some (.lst vs):=by
 cases t with
 |tu=>cases c
 |fr=>exact h.1
 |st k=>exact h.2
 |fz k=>cases c
def BJ.sqT{M:Md}{ρ:List Addr}{H:Hp}{a:Addr}{vs:List V}{t:Tag}(h:BJ M ρ H a vs t)(c:t.isL=false):hZ M.K H a vs:=by
 cases t with
 |tu=>exact h
 |fr=>cases c
 |st k=>cases c
 |fz k=>cases c
def Tag.stays(S:aH)(ds:List D):Tag->Prop
 |.st k=>S[k]?=some (.lst ds)
 |.fz k=>S[k]?=some (.frz ds)
 |_=>True
def hZ.ext{K:PySem.W.Frag}{ρ ρ':List Addr}{H H':Hp}{a:Addr}{vs:List V}(e:cK ρ H ρ' H')(h:hZ K H a vs):hZ K H' a vs:=by
 rcases h with(h|⟨o,h⟩)|h
 ·exact .inl (.inl (e.keep _ _ h (.inr trivial)))
 ·exact .inl (.inr ⟨o,e.keep _ _ h (.inr trivial)⟩)
 ·exact .inr h
def BJ.to{M:Md}{ρ ρ':List Addr}{S:aH}{H H':Hp}{a:Addr}{vs:List V}{ds:List D}{t:Tag}(h:BJ M ρ H a vs t)(r:bt M ρ H ds vs)(e:cK ρ H ρ' H')(st:gQ M ρ' S H')(c:t.stays S ds):∃vs',BJ M ρ' H' a vs' t/\bt M ρ' H' ds vs':=by
 cases t with
 |tu=>exact⟨vs,hZ.ext e h,r.ext e⟩
 |fr=>exact⟨vs,⟨e.keep _ _ h.1 (.inl h.2),fun m=>(e.new a m).elim h.2 fun z=>by have h1:=h.1;rw[z] at h1;cases h1⟩,r.ext e⟩
 | st k=>
   have hk:=dv e.pre h.1
   obtain⟨vs',h1,h2⟩:=st.obj k a _ hk c
   exact⟨vs',⟨hk,h1⟩,h2⟩
 | fz k=>
   have hk:=dv e.pre h.1
   obtain⟨vs',o,h1,h2⟩:=st.obj k a _ hk c
   exact⟨vs',⟨hk,o,h1⟩,h2⟩
section
variable{X:Cx}{a b c e:Expr}{pos:Pos}
def gA(f:h_):eF:=fun Γ S=>(f Γ S).bind fun(ds,S1)=>some ((ds,.fr),S1)
def iu{f:h_}(h:PE X e (tL (md X) f)):PE X e (tQ (md X) (gA f)):=kb h fun σ H Q qq=>by
 obtain⟨ρ,Γ,S,ds,t,S',ok,e,q⟩:=qq
 obtain⟨⟨ds',S1⟩,e1,e⟩:=aq e
 obtain⟨e2,rfl⟩:=cH e
 obtain⟨rfl,rfl⟩:=Prod.mk.inj e2
 exact⟨ρ,Γ,S,ds',S1,ok,e1,fun ρ' a vs H' x st fr nr ha rs=>q _ _ _ _ x st ⟨ha,nr⟩ rs⟩
noncomputable def uf(S:aH):D->Option (List D×Tag)
 |.tup ds=>some (ds,.tu)
 | .ref k=>match S[k]? with
   |some (.lst ds)=>some (ds,.st k)
   |some (.frz ds)=>some (ds,.fz k)
   |_=>none
 |_=>none
def aX(f:bH):eF:=fun Γ S=>(f Γ S).bind fun(d,S1)=>(uf S1 d).bind fun p=>some (p,S1)
def GS{M:Md}{ρ:List Addr}{S:aH}{H:Hp}{d:D}{v:V}{ds:List D}{t:Tag}(st:gQ M ρ S H)(r:Rel M ρ H d v)(e:uf S d=some (ds,t)):∃a vs,v=.ref a/\BJ M ρ H a vs t/\bt M ρ H ds vs:=by
 cases r with
 |tup h hs=>simp only[uf] at e;cases e;exact⟨_,_,rfl,hZ.of h,hs⟩
 | ref h=>
   simp only[uf] at e
   split at e
   · rename_i q
     cases e
     obtain⟨vs,h1,h2⟩:=st.obj _ _ _ h q
     exact⟨_,vs,rfl,⟨h,h1⟩,h2⟩
   · rename_i q
     cases e
     obtain⟨vs,o,h1,h2⟩:=st.obj _ _ _ h q
     exact⟨_,vs,rfl,⟨h,o,h1⟩,h2⟩
   · cases e
 |_=>simp only[uf,reduceCtorEq] at e
def dk{f:bH}(h:PE X e (tD (md X) f)):PE X e (tQ (md X) (aX f)):=kb h fun σ H Q qq=>by
 obtain⟨ρ,Γ,S,ds,t,S',ok,e,q⟩:=qq
 obtain⟨⟨d,S1⟩,e1,e⟩:=aq e
 obtain⟨⟨ds',t'⟩,e2,e⟩:=aq e
 obtain⟨e3,rfl⟩:=cH e
 obtain⟨rfl,rfl⟩:=Prod.mk.inj e3
 refine⟨ρ,Γ,S,d,S1,ok,e1,fun ρ' v H' x st r=> ?_⟩
 obtain⟨a,vs,rfl,h1,h2⟩:=GS st r e2
 exact q _ _ _ _ x st h1 h2
def fD{f:eF}{p:Pos}(hg:Gl X "len")(hm:X.mg "len"=none)(ha:PE X a (tQ (md X) f))(hs:starEach [a] X.env= [(false,eval a X.env)]:=by rfl):
  PE X (.Call (.Name "len" p) [a] [] pos) (tD (md X) fun Γ S=>(f Γ S).bind fun(p,S1)=>some (.int p.1.length,S1)):=
 kb (dJ w6 hg hm PySem.boot_len (dB ha fZ hs) (he:=hs)) fun σ H Q qq=>by
  obtain⟨ρ,Γ,S,d,S',ok,e,q⟩:=qq
  obtain⟨⟨⟨ds,t⟩,S1⟩,e1,e⟩:=aq e
  obtain⟨rfl,rfl⟩:=cH e
  refine⟨ρ,Γ,S,ds,t,S1,ok,e1,fun ρ' a vs H' x st h r=>⟨a,vs,rfl,h.sq,?_⟩⟩
  have:=q _ (.int vs.length) _ x st (by rw[←r.length];exact .int _)
  exact this
def ie(f:eF):bH:=fun Γ S=>(f Γ S).bind fun(p,S1)=>some (.int p.1.length,S1)
def tupQ(f:eF):bH:=fun Γ S=>(f Γ S).bind fun(p,S1)=>some (.tup p.1,S1)
def ee{f:eF}{p:Pos}(hg:Gl X "tuple")(hm:X.mg "tuple"=none)(ha:PE X a (tQ (md X) f))(hs:starEach [a] X.env= [(false,eval a X.env)]:=by rfl)(ht:∀Γ S ds t S',f Γ S=some ((ds,t),S')->t.isL=true):
  PE X (.Call (.Name "tuple" p) [a] [] pos) (tD (md X) (tupQ f)):=
 kb (g6 u7 hg hm (by rfl) (dB ha fZ hs) (he:=hs)) fun σ H Q qq=>by
  obtain⟨ρ,Γ,S,d,S',ok,e,q⟩:=qq
  obtain⟨⟨⟨ds,t⟩,S1⟩,e1,e⟩:=aq e
  obtain⟨rfl,rfl⟩:=cH e
  refine⟨ρ,Γ,S,ds,t,S1,ok,e1,fun ρ' a vs H' x st h r=>⟨a,vs,rfl,.inl ⟨h.sqL (ht _ _ _ _ _ e1),fun l hl=> ?_⟩⟩⟩
  exact q _ _ _ (x.trans (cK.laid hl)) (st.lay hl) (.tup cj (r.ext (cK.laid hl)))
def fW{f:h_}:∀Γ S ds t S',gA f Γ S=some ((ds,t),S')->t.isL=true:=fun Γ S ds t S' e=>by
 obtain⟨⟨ds',S1⟩,e1,e⟩:=aq e
 cases e
 rfl
def iE(f:eF):eF:=fun Γ S=>(f Γ S).bind fun(p,S1)=>if p.2.isL=true then some (p,S1) else none
def jx{f:eF}:∀Γ S ds t S',iE f Γ S=some ((ds,t),S')->t.isL=true:=fun Γ S ds t S' e=>by
 obtain⟨⟨⟨ds',t'⟩,S1⟩,e1,e⟩:=aq e
 dsimp only at e
 split at e <;>cases e
 assumption
def B_{f:eF}(h:PE X e (tQ (md X) f)):PE X e (tQ (md X) (iE f)):=kb h fun σ H Q qq=>by
 obtain⟨ρ,Γ,S,ds,t,S',ok,e,q⟩:=qq
 obtain⟨⟨⟨ds',t'⟩,S1⟩,e1,e⟩:=aq e
 dsimp only at e
 split at e
 ·obtain⟨e3,rfl⟩:=cH e
  obtain⟨rfl,rfl⟩:=Prod.mk.inj e3
  exact⟨ρ,Γ,S,ds',t',S1,ok,e1,q⟩
 ·cases e
def DI:List D->Option (List Bool)
 | []=>some []
 |.bl b::r=>(DI r).bind fun bs=>some (b::bs)
 |_::_=>none
theorem Bq{M:Md}{ρ:List Addr}{H:Hp}:∀{ds:List D} {vs:List V} {bs:List Bool},bt M ρ H ds vs->DI ds=some bs->vs=bs.map V.bl
 | [],_,_,h,e=>by cases h;cases e;rfl
 | d::ds,_,_,h,e=>by
   cases d with
   | bl b=>
     simp only[DI] at e
     obtain⟨bs',e1,e⟩:=aq e
     cases e
     cases h with
     | cons h hs=>
       cases h
       rw[Bq hs e1]
       rfl
   |_=>cases e
def sT(f:eF):bH:=fun Γ S=>(f Γ S).bind fun(p,S1)=>if p.2.isL=true then(DI p.1).bind fun bs=>some (.bl (bs.all id),S1) else none
def Ih(f:eF):bH:=fun Γ S=>(f Γ S).bind fun(p,S1)=>if p.2.isL=true then(DI p.1).bind fun bs=>some (.bl (bs.any id),S1) else none
def AK{f:eF}{p:Pos}(hc:X.calm=true)(hg:Gl X "all")(hm:X.mg "all"=none)(ha:PE X a (tQ (md X) f))(hs:starEach [a] X.env= [(false,eval a X.env)]:=by rfl):
  PE X (.Call (.Name "all" p) [a] [] pos) (tD (md X) (sT f)):=
 kb (dJ (Dd hc) hg hm (by rfl) (dB ha fZ hs) (he:=hs)) fun σ H Q qq=>by
  obtain⟨ρ,Γ,S,d,S',ok,e,q⟩:=qq
  obtain⟨⟨⟨ds,t⟩,S1⟩,e1,e⟩:=aq e
  dsimp only at e
  split at e
  ·rename_i c
   obtain⟨bs,e2,e⟩:=aq e
   obtain⟨rfl,rfl⟩:=cH e
   refine⟨ρ,Γ,S,ds,t,S1,ok,e1,fun ρ' a vs H' x st h r=>⟨a,bs,rfl,?_,q _ _ _ x st (.bl _)⟩⟩
   rw[←Bq r e2]
   exact h.sqL c
  ·cases e
def KO{f:eF}{p:Pos}(hc:X.calm=true)(hg:Gl X "any")(hm:X.mg "any"=none)(ha:PE X a (tQ (md X) f))(hs:starEach [a] X.env= [(false,eval a X.env)]:=by rfl):
  PE X (.Call (.Name "any" p) [a] [] pos) (tD (md X) (Ih f)):=
 kb (dJ (Dz hc) hg hm (by rfl) (dB ha fZ hs) (he:=hs)) fun σ H Q qq=>by
  obtain⟨ρ,Γ,S,d,S',ok,e,q⟩:=qq
  obtain⟨⟨⟨ds,t⟩,S1⟩,e1,e⟩:=aq e
  dsimp only at e
  split at e
  ·rename_i c
   obtain⟨bs,e2,e⟩:=aq e
   obtain⟨rfl,rfl⟩:=cH e
   refine⟨ρ,Γ,S,ds,t,S1,ok,e1,fun ρ' a vs H' x st h r=>⟨a,bs,rfl,?_,q _ _ _ x st (.bl _)⟩⟩
   rw[←Bq r e2]
   exact h.sqL c
  ·cases e
noncomputable def G8(S:aH)(T:String):D->Option Bool
 |.non=>some (T=="NoneType")
 |.bl _=>some (T=="bool" ||T=="int")
 |.int _=>some (T=="int")
 |.str _=>some (T=="str")
 |.tup _=>some (T=="tuple")
 | .ref k=>match S[k]? with
   |some (.lst _)=>some (T=="list")
   |some (.frz _)=>some (T=="list")
   |some (.dct _)=>some (T=="dict")
   |_=>none
 |.fn _=>none
def Lp(K:PySem.W.Frag)(T:String):Prop:=(PySem.W.kitOne K (.type "NoneType") (.type T)=some (T=="NoneType"))/\(PySem.W.kitOne K (.type "bool") (.type T)=some (T=="bool" ||T=="int"))/\(PySem.W.kitOne K (.type "int") (.type T)=some (T=="int"))/\(PySem.W.kitOne K (.type "str") (.type T)=some (T=="str"))∧
 (PySem.W.kitOne K (.type "tuple") (.type T)=some (T=="tuple"))/\(PySem.W.kitOne K (.type "list") (.type T)=some (T=="list"))/\(PySem.W.kitOne K (.type "dict") (.type T)=some (T=="dict"))
def DA(T:String)(f:bH):bH:=fun Γ S=>(f Γ S).bind fun(d,S1)=>(G8 S1 T d).bind fun k=>some (.bl k,S1)
def IK{T:String}{tn:Expr}{f:bH}{p:Pos}(hk:Lp X.K T)(hg:Gl X "isinstance")(hm:X.mg "isinstance"=none)(ha:PE X a (tD (md X) f))(ht:PE X tn (tC (.ty T)))(hs:starEach [a,tn] X.env= [(false,eval a X.env),(false,eval tn X.env)]:=by rfl)(hs1:starEach [tn] X.env= [(false,eval tn X.env)]:=by rfl):
  PE X (.Call (.Name "isinstance" p) [a,tn] [] pos) (tD (md X) (DA T f)):=
 kb (dJ GB hg hm boot_isinstance (dB ha (dB ht fZ hs1) (by rw[hs,hs1])) (he:=by rw[hs,hs1]) (hpl:=by rw[hs1];rfl)) fun σ H Q qq=>by
  obtain⟨ρ,Γ,S,d,S',ok,e,q⟩:=qq
  obtain⟨⟨d',S1⟩,e1,e⟩:=aq e
  obtain⟨k,e2,e⟩:=aq e
  obtain⟨rfl,rfl⟩:=cH e
  obtain⟨k1,k2,k3,k4,k5,k6,k7⟩:=hk
  refine⟨ρ,Γ,S,d',S1,ok,e1,fun ρ' v H' x st r=> ?_⟩
  have fin:=q _ _ _ x st (.bl _)
  cases r with
  |non=>cases e2;exact⟨_,_,_,_,rfl,.non,k1,fin⟩
  |bl=>cases e2;exact⟨_,_,_,_,rfl,.bl _,k2,fin⟩
  |int=>cases e2;exact⟨_,_,_,_,rfl,.int _,k3,fin⟩
  |str=>cases e2;exact⟨_,_,_,_,rfl,.str _,k4,fin⟩
  |tup h hs=>cases e2;exact⟨_,_,_,_,rfl,.tup h,k5,fin⟩
  |fn=>cases e2
  | ref h=>
    simp only[G8] at e2
    split at e2
    · rename_i q';cases e2;obtain⟨vs,h1,_⟩:=st.obj _ _ _ h q';exact⟨_,_,_,_,rfl,.lst h1,k6,fin⟩
    · rename_i q';cases e2;obtain⟨vs,o,h1,_⟩:=st.obj _ _ _ h q';exact⟨_,_,_,_,rfl,.frz h1,k6,fin⟩
    · rename_i q';cases e2;obtain⟨vs,h1,_⟩:=st.obj _ _ _ h q';exact⟨_,_,_,_,rfl,.dK h1,k7,fin⟩
    · cases e2
abbrev Iw:=List D->Option D
def FF(M:Md)(r:List V->Hp->VK->Prop)(o:Iw):Prop:=∀{ρ:List Addr} {S:aH} {H:Hp} {xs:List D} {d:D} {us:List V} {Q:VK},gQ M ρ S H->bt M ρ H xs us->o xs=some d->(∀w,Rel M ρ H d w->Q w H)->r us H Q
def yP(o:Iw)(f:h_):bH:=fun Γ S=>(f Γ S).bind fun(xs,S1)=>(o xs).bind fun d=>some (d,S1)
def rT{r:List V->Hp->VK->Prop}{o:Iw}{f:h_}(ho:FF (md X) r o)(h:PE X e (Mi r (zf (md X) f))):PE X e (tD (md X) (yP o f)):=kb h fun σ H Q qq=>by
 obtain⟨ρ,Γ,S,d,S',ok,e,q⟩:=qq
 obtain⟨⟨xs,S1⟩,e1,e⟩:=aq e
 obtain⟨d',e3,e⟩:=aq e
 obtain⟨rfl,rfl⟩:=cH e
 exact⟨ρ,Γ,S,xs,S1,ok,e1,fun ρ1 vs H1 x1 st1 r1=>ho st1 r1 e3 fun w r3=>q ρ1 w H1 x1 st1 r3⟩
def Hz:Iw
 | [.int i]=>some (.int (if i<0 then -i else i))
 |_=>none
def maxD:Iw
 | [.int i,.int j]=>some (.int (if j>i then j else i))
 |_=>none
def minD:Iw
 | [.int i,.int j]=>some (.int (if j<i then j else i))
 |_=>none
def intOfD:Iw
 | [.int i]=>some (.int i)
 | [.bl k]=>some (.int (if k then 1 else 0))
 |_=>none
def JW{M:Md}:FF M (fun xs H Q=>∃i,xs= [.int i]/\Q (.int (if i<0 then -i else i)) H) Hz:=by
 intro ρ S H xs d us Q st r e q
 unfold Hz at e
 split at e <;>cases e
 cases r with|cons r rr=>cases rr;cases r;exact⟨_,rfl,q _ (.int _)⟩
def Fj{M:Md}:FF M (fun xs H Q=>∃i j,xs= [.int i,.int j]/\Q (.int (if j>i then j else i)) H) maxD:=by
 intro ρ S H xs d us Q st r e q
 unfold maxD at e
 split at e <;>cases e
 cases r with|cons r rr=>cases rr with|cons r' rr=>cases rr;cases r;cases r';exact⟨_,_,rfl,q _ (.int _)⟩
def AZ{M:Md}:FF M (fun xs H Q=>∃i j,xs= [.int i,.int j]/\Q (.int (if j<i then j else i)) H) minD:=by
 intro ρ S H xs d us Q st r e q
 unfold minD at e
 split at e <;>cases e
 cases r with|cons r rr=>cases rr with|cons r' rr=>cases rr;cases r;cases r';exact⟨_,_,rfl,q _ (.int _)⟩
def jT{M:Md}:FF M (fun xs H Q=>(∃i,xs= [.int i]/\Q (.int i) H)\/∃k,xs= [.bl k]/\Q (.int (if k then 1 else 0)) H) intOfD:=by
 intro ρ S H xs d us Q st r e q
 unfold intOfD at e
 split at e <;>cases e
 ·cases r with|cons r rr=>cases rr;cases r;exact .inl ⟨_,rfl,q _ (.int _)⟩
 ·cases r with|cons r rr=>cases rr;cases r;exact .inr ⟨_,rfl,q _ (.int _)⟩
def ff:List D->Option (List V)
 | []=>some []
 |d::r=>(sL d).bind fun v=>(ff r).bind fun vs=>some (v::vs)
def pz{d:D}{v:V}(e:sL d=some v):fO v=true:=by
 cases d <;>simp[sL] at e <;>subst e <;>rfl
theorem fP{M:Md}{ρ:List Addr}{H:Hp}:∀{ds:List D} {us vs:List V},bt M ρ H ds us->ff ds=some vs->us=vs/\vs.all fO=true
 |_,_,_,.nil,e=>by cases e;exact⟨rfl,rfl⟩
 | _,_,_,.cons h hs,e=>by
   obtain⟨v,e1,e⟩:=aq e
   obtain⟨vs,e2,e⟩:=aq e
   cases e
   obtain⟨h1,h2⟩:=fP hs e2
   rw[mh h e1,h1]
   exact⟨rfl,by rw[List.all_cons,pz e1,h2];rfl⟩
noncomputable def Cn(neg:Bool)(f:bH)(g:eF):bH:=fun Γ S=>(f Γ S).bind fun(x,S1)=>(g Γ S1).bind fun(p,S2)=>(sL x).bind fun v=>(ff p.1).bind fun vs=>some (.bl (if neg then !EI v vs else EI v vs),S2)
def uc{f:bH}{t:TE}(hw:∀σ H Q,tD (md X) f σ H Q->t σ H Q)(h:PT X e (GF t)):PT X e (tB (md X) (aK f)):=Mt h fun σ H Q ⟨ρ,Γ,S,k,S',ok,e,q⟩=>
 hw _ _ _ ⟨ρ,Γ,S,.bl k,S',ok,sD e,fun ρ' v H' x st r=>by cases r;exact⟨k,rfl,q _ _ x st⟩⟩
def IB{neg:Bool}{f:bH}{g:eF}:∀σ H Q,tD (md X) (Cn neg f g) σ H Q->GO (MB X.K neg) (tD (md X) f) (tQ (md X) g) σ H Q:=fun σ H Q qq=>by
 obtain⟨ρ,Γ,S,d,S',ok,e,q⟩:=qq
 obtain⟨⟨x,S1⟩,e1,e⟩:=aq e
 obtain⟨⟨⟨ds,t⟩,S2⟩,e2,e⟩:=aq e
 obtain⟨v,e3,e⟩:=aq e
 obtain⟨vs,e4,e⟩:=aq e
 obtain⟨rfl,rfl⟩:=cH e
 refine⟨ρ,Γ,S,x,S1,ok,e1,fun ρ1 u H1 x1 st1 r1=>⟨ρ1,Γ,S1,ds,t,S2,ok.to x1 st1,e2,fun ρ2 a us H2 x2 st2 h2 r2=> ?_⟩⟩
 cases mh r1 e3
 obtain⟨h3,h4⟩:=fP r2 e4
 subst h3
 exact⟨a,us,rfl,h2.sq,pz e3,h4,q _ _ _ (x1.trans x2) st2 (.bl _)⟩
def Ds{f:bH}{g:eF}(ha:PE X a (tD (md X) f))(hb:PE X b (tQ (md X) g))(hm:behindInMarks .In b=false:=by rfl):PT X (.Compare a [.In] [b] pos) (tB (md X) (aK (Cn false f g))):=uc IB (mv D4 ha hb hm)
def xo{f:bH}{g:eF}(ha:PE X a (tD (md X) f))(hb:PE X b (tQ (md X) g))(hm:behindInMarks .NotIn b=false:=by rfl):PT X (.Compare a [.NotIn] [b] pos) (tB (md X) (aK (Cn true f g))):=uc IB (mv xO ha hb hm)
end
inductive Out where
 |nx (Γ:de) (S:aH)|bk (Γ:de) (S:aH)|ct (Γ:de) (S:aH)|rt (d:D) (S:aH)|rl (ds:List D) (S:aH)
abbrev dm:=de->aH->Option Out
def xN(M:Md)(ρ:List Addr)(H:Hp)(D:Ends):Out->Prop
 |.nx Γ' S'=>∀ρ' σ' H',cK ρ H ρ' H'->Ok M ρ' Γ' S' σ' H'->D.nx σ' H'
 |.bk Γ' S'=>∀ρ' σ' H',cK ρ H ρ' H'->Ok M ρ' Γ' S' σ' H'->D.bk σ' H'
 |.ct Γ' S'=>∀ρ' σ' H',cK ρ H ρ' H'->Ok M ρ' Γ' S' σ' H'->D.ct σ' H'
 |.rt d S'=>∀ρ' v H',cK ρ H ρ' H'->gQ M ρ' S' H'->Rel M ρ' H' d v->D.rt v H'
 |.rl ds S'=>∀ρ' a vs H',cK ρ H ρ' H'->gQ M ρ' S' H'->H a=none->a∉ρ'->H' a=some (.lst vs)->bt M ρ' H' ds vs->D.rt (.ref a) H'
def xN.to{M:Md}{ρ ρ1:List Addr}{H H1:Hp}{D:Ends}{o:Out}(h:xN M ρ H D o)(e:cK ρ H ρ1 H1):xN M ρ1 H1 D o:=by
 cases o with
 |nx=>exact fun ρ' σ' H' x ok=>h _ _ _ (e.trans x) ok
 |bk=>exact fun ρ' σ' H' x ok=>h _ _ _ (e.trans x) ok
 |ct=>exact fun ρ' σ' H' x ok=>h _ _ _ (e.trans x) ok
 |rt=>exact fun ρ' v H' x st r=>h _ _ _ (e.trans x) st r
 |rl=>exact fun ρ' a vs H' x st fr nr ha r=>h _ _ _ _ (e.trans x) st (e.grow _ fr) nr ha r
def tS(M:Md)(g:dm):TS:=fun D σ H=>∃ρ Γ S o,Ok M ρ Γ S σ H/\g Γ S=some o/\xN M ρ H D o
section
variable{X:Cx}{a b c e:Expr}{pos:Pos}{st:Stmt}{rest body other:List Stmt}
def fR:dm:=fun Γ S=>some (.nx Γ S)
def bJ:sk X [] (tS (md X) fR):=Ld G6 fun D σ H ⟨ρ,Γ,S,o,ok,e,q⟩=>by cases e;exact q _ _ _ cK.refl ok
noncomputable def aG(f g:dm):dm:=fun Γ S=>(f Γ S).bind fun o=>match o with
 |.nx Γ1 S1=>g Γ1 S1
 |o=>some o
def aw{f g:dm}(h1:PS X st (tS (md X) f))(h2:sk X rest (tS (md X) g)):sk X (st::rest) (tS (md X) (aG f g)):=Ld (FW h1 h2) fun D σ H qq=>by
 obtain⟨ρ,Γ,S,o,ok,e,q⟩:=qq
 obtain⟨o1,e1,e⟩:=aq e
 refine⟨ρ,Γ,S,o1,ok,e1,?_⟩
 cases o1 with
 |nx Γ1 S1=>exact fun ρ1 σ1 H1 x1 ok1=>⟨ρ1,Γ1,S1,o,ok1,e,q.to x1⟩
 |bk=>cases e;exact q
 |ct=>cases e;exact q
 |rt=>cases e;exact q
 |rl=>cases e;exact q
def aE{f:dm}(h1:PS X st (tS (md X) f)):sk X [st] (tS (md X) f):=Ib h1
def never:dm:=fun _ _=>none
def Ho:PS X st (tS (md X) never):=CP Gc fun D σ H ⟨ρ,Γ,S,o,ok,e,q⟩=>by cases e
def mY(f:bH):dm:=fun Γ S=>(f Γ S).bind fun(_,S1)=>some (.nx Γ S1)
def cW{f:bH}(h:PE X e (tD (md X) f))(hs:swapsWith e none pos.line X.env=pure false:=by rfl):PS X (.Expr e pos) (tS (md X) (mY f)):=CP (Hg h hs) fun D σ H qq=>by
 obtain⟨ρ,Γ,S,o,ok,e,q⟩:=qq
 obtain⟨⟨d,S1⟩,e1,e⟩:=aq e
 cases e
 exact⟨ρ,Γ,S,d,S1,ok,e1,fun ρ' v H' x st r=>q _ _ _ x (ok.to x st)⟩
noncomputable def cA(f:bH):dm:=fun Γ S=>(f Γ S).bind fun(d,S1)=>some (.rt d S1)
def aM{f:bH}(h:PE X e (tD (md X) f)):PS X (.Return (some e) pos) (tS (md X) (cA f)):=CP (Fg h) fun D σ H qq=>by
 obtain⟨ρ,Γ,S,o,ok,e,q⟩:=qq
 obtain⟨⟨d,S1⟩,e1,e⟩:=aq e
 cases e
 exact⟨ρ,Γ,S,d,S1,ok,e1,q⟩
noncomputable def Gv(f:h_):dm:=fun Γ S=>(f Γ S).bind fun(ds,S1)=>some (.rl ds S1)
def nh{f:h_}(h:PE X e (tL (md X) f)):PS X (.Return (some e) pos) (tS (md X) (Gv f)):=CP (Fg h) fun D σ H qq=>by
 obtain⟨ρ,Γ,S,o,ok,e,q⟩:=qq
 obtain⟨⟨d,S1⟩,e1,e⟩:=aq e
 cases e
 exact⟨ρ,Γ,S,d,S1,ok,e1,q⟩
def eL(c:ko)(f g:dm):dm:=fun Γ S=>(c Γ S).bind fun(k,S1)=>if k=true then f Γ S1 else g Γ S1
def cv{h:ko}{f g:dm}(hc:PT X c (tB (md X) h))(ha:sk X body (tS (md X) f))(hb:sk X other (tS (md X) g)):PS X (.If c body other pos) (tS (md X) (eL h f g)):=CP (L0 hc ha hb) fun D σ H qq=>by
 obtain⟨ρ,Γ,S,o,ok,e,q⟩:=qq
 obtain⟨⟨k,S1⟩,e1,e⟩:=aq e
 refine⟨ρ,Γ,S,k,S1,ok,e1,fun ρ1 H1 x1 st1=> ?_⟩
 dsimp only at e
 split at e
 ·rename_i c
  rw[Qhq c]
  exact⟨ρ1,Γ,S1,o,ok.to x1 st1,e,q.to x1⟩
 ·rename_i c
  rw[Quq c]
  exact⟨ρ1,Γ,S1,o,ok.to x1 st1,e,q.to x1⟩
abbrev om:=D->de->aH->Option (de×aH)
abbrev rE:=List D->de->aH->Option (de×aH)
def tG(M:Md)(g:om):TG:=fun v σ H Q=>∃ρ Γ S d Γ' S',Ok M ρ Γ S σ H/\Rel M ρ H d v/\g d Γ S=some (Γ',S')/\∀ρ' σ' H',cK ρ H ρ' H'->Ok M ρ' Γ' S' σ' H'->Q σ' H'
def Mw(M:Md)(g:rE):HH:=fun vs σ H Q=>∃ρ Γ S ds Γ' S',Ok M ρ Γ S σ H/\bt M ρ H ds vs/\g ds Γ S=some (Γ',S')/\∀ρ' σ' H',cK ρ H ρ' H'->Ok M ρ' Γ' S' σ' H'->Q σ' H'
def M5{t t':TG}(h:PG X e t)(w:∀v σ H Q,t' v σ H Q->t v σ H Q):PG X e t':=fun pins s σ H v u Q I r q=>h pins s σ H v u Q I r (w _ _ _ _ q)
def LA{es:List Expr}{t t':HH}(h:GN X es t)(w:∀v σ H Q,t' v σ H Q->t v σ H Q):GN X es t':=fun pins s σ H v u Q I r q=>h pins s σ H v u Q I r (w _ _ _ _ q)
def bQ(i:Nat):om:=fun d Γ S=>some (Γ.set i (some d),S)
def EB{i:Nat}(h:PG X e (uj i)):PG X e (tG (md X) (bQ i)):=M5 h fun v σ H Q qq=>by
 obtain⟨ρ,Γ,S,d,Γ',S',ok,r,e,q⟩:=qq
 cases e
 exact q _ _ _ cK.refl ⟨ok.en.set r,ok.st⟩
def dr:rE:=fun ds Γ S=>match ds with
 | []=>some (Γ,S)
 |_=>none
def aJ(f:om)(g:rE):rE:=fun ds Γ S=>match ds with
 |d::r=>(f d Γ S).bind fun(Γ1,S1)=>g r Γ1 S1
 | []=>none
def bO:GN X [] (Mw (md X) dr):=LA HU fun vs σ H Q qq=>by
 obtain⟨ρ,Γ,S,ds,Γ',S',ok,r,e,q⟩:=qq
 cases r with
 |nil=>cases e;exact⟨rfl,q _ _ _ cK.refl ok⟩
 |cons=>cases e
def aA{es:List Expr}{f:om}{g:rE}(h1:PG X e (tG (md X) f))(h2:GN X es (Mw (md X) g))(hs:(assignEach (e::es) X.env).map (·.2)=assign e X.env::(assignEach es X.env).map (·.2):=by rfl):GN X (e::es) (Mw (md X) (aJ f g)):=
 LA (Ga h1 h2 hs) fun vs σ H Q qq=>by
  obtain⟨ρ,Γ,S,ds,Γ',S',ok,r,e,q⟩:=qq
  cases r with
  |nil=>cases e
  | cons r rs=>
    obtain⟨⟨Γ1,S1⟩,e1,e⟩:=aq e
    refine⟨_,_,rfl,ρ,Γ,S,_,Γ1,S1,ok,r,e1,fun ρ1 σ1 H1 x1 ok1=>⟨ρ1,Γ1,S1,_,Γ',S',ok1,rs.ext x1,e,fun ρ2 σ2 H2 x2 ok2=>q _ _ _ (x1.trans x2) ok2⟩⟩
def iA(g:rE):om:=fun d Γ S=>match d with
 |.tup ds=>g ds Γ S
 |_=>none
def nG(n:Nat)(g:rE):rE:=fun ds Γ S=>if ds.length=n then g ds Γ S else none
def cN{es:List Expr}{k:Nat}{g:rE}{n:Nat}(hc:X.calm=true)(h:GN X es (Mw (md X) g))(hn:(assignEach es X.env).length=n:=by rfl)(hst:(assignEach es X.env).findIdx? (·.1)=none:=by rfl):
  PG X (.Tuple es k pos) (tG (md X) (iA (nG n g))):=M5 (Jc hc h hn hst) fun v σ H Q ⟨ρ,Γ,S,d,Γ',S',ok,r,e,q⟩=>by
 cases r with
 | tup h hs=>
   simp only[iA,nG] at e
   split at e
   · rename_i c
     exact⟨_,_,rfl,hZ.of h,by rw[←hs.length];exact c,ρ,Γ,S,_,Γ',S',ok,hs,e,q⟩
   · cases e
 |_=>cases e
def rO(f:bH)(g:om):dm:=fun Γ S=>(f Γ S).bind fun(d,S1)=>(g d Γ S1).bind fun(Γ2,S2)=>some (.nx Γ2 S2)
def K4{f:bH}{g:om}:∀D σ H,tS (md X) (rO f g) D σ H->Eg (tD (md X) f) (tG (md X) g) D σ H:=fun D σ H qq=>by
 obtain⟨ρ,Γ,S,o,ok,e,q⟩:=qq
 obtain⟨⟨d,S1⟩,e1,e⟩:=aq e
 obtain⟨⟨Γ2,S2⟩,e2,e⟩:=aq e
 cases e
 exact⟨ρ,Γ,S,d,S1,ok,e1,fun ρ1 v H1 x1 st1 r1=>⟨ρ1,Γ,S1,d,Γ2,S2,ok.to x1 st1,r1,e2,fun ρ2 σ2 H2 x2 ok2=>q _ _ _ (x1.trans x2) ok2⟩⟩
def fM{tg:Expr}{f:bH}{g:om}(he:PE X e (tD (md X) f))(hg:PG X tg (tG (md X) g))(hs:swapsWithSole [tg] e pos.line X.env=pure false:=by rfl)(hw:swappedStores [tg] e X.env=pure none:=by rfl)
  (h1:(assignEach [tg] X.env).map (·.2)= [assign tg X.env]:=by rfl):PS X (.Assign [tg] e pos) (tS (md X) (rO f g)):=CP (Kx he hg hs hw h1) K4
noncomputable def bj(i:Nat)(f:bH):dm:=fun Γ S=>(f Γ S).bind fun(d,S1)=>some (.nx (Γ.set i (some d)) S1)
def LB{i:Nat}{f:bH}(h:PS X st (Eg (tD (md X) f) (uj i))):PS X st (tS (md X) (bj i f)):=CP h fun D σ H qq=>by
 obtain⟨ρ,Γ,S,o,ok,e,q⟩:=qq
 obtain⟨⟨d,S1⟩,e1,e⟩:=aq e
 cases e
 exact⟨ρ,Γ,S,d,S1,ok,e1,fun ρ1 v H1 x1 st1 r1=>q _ _ _ x1 ⟨(ok.en.ext x1).set r1,st1⟩⟩
abbrev yY:=de->aH->Option ((List D×(aH->Prop))×aH)
def Walks(M:Md)(J:It)(ρ:List Addr)(H:Hp)(ds:List D)(W:aH->Prop):Prop:=∀(i:Nat) (ρ':List Addr) (S':aH) (H':Hp),cK ρ H ρ' H'->gQ M ρ' S' H'->W S'→
 (∀d,ds[i]?=some d->J.go i H'/\∀x H'',J.yld i H' x H''->cK ρ' H' ρ' H''/\gQ M ρ' S' H''/\Rel M ρ' H'' d x)/\(i=ds.length->J.stop i H')
def tI(M:Md)(f:yY):TI:=fun σ H R=>∃ρ Γ S ds W S',Ok M ρ Γ S σ H/\f Γ S=some ((ds,W),S')/\∀ρ' J H',cK ρ H ρ' H'->gQ M ρ' S' H'->Walks M J ρ' H' ds W->R J H'
def MQ{tg:Expr}{t t':TI}(h:PI X tg e t)(w:∀σ H R,t' σ H R->t σ H R):PI X tg e t':=fun pins s σ H R I q=>h pins s σ H R I (w _ _ _ q)
def J0{tg l:Expr}{tl:TE}(hl:PE X l tl):PI X tg l (fun σ H R=>tl σ H fun x H1=>∃a,x=.ref a/\((∃xs,iK X.K H1 a xs)/\R (Nn X.K a) H1\/(∃xs,hZ X.K H1 a xs)/\R (Nr X.K a) H1)):=by
 intro pins s σ H R I h
 refine di (hl pins s σ H _ I h) fun v s1 qr=> ?_
 obtain⟨x,H1,I1,r1,q1⟩:=qr
 obtain⟨a,e,q1⟩:=q1
 subst e
 cases r1
 rcases q1 with⟨⟨xs,hq⟩,q⟩|⟨⟨xs,hq⟩,q⟩
 ·obtain⟨its,rv,p,hz⟩:=I1.list hq
  refine wpAny_pyIter_list p.isList ?_
  refine⟨s1.heap.objs.size,[s1.heap.objs.size],_,_,H1,rfl,I1.kept (t':=s1.toks) fun b o e=>Qcq _ e,DH a _,⟨_,Qrq _ rfl,rfl,rfl⟩,fun b hb=> ?_,q⟩
  have e:b=s1.heap.objs.size:=by simpa using hb
  subst e
  exact I1.fpOk (Qmq _) (I1.hok.fresh (Qmq _))
 ·obtain⟨its,rv,p,hz⟩:=I1.tuple hq
  refine wpAny_pyIter_tuple (show s1.heap.IsTuple a its.toArray from p) ?_
  refine⟨s1.heap.objs.size,[s1.heap.objs.size],_,_,H1,rfl,I1.kept (t':=s1.toks) fun b o e=>Qcq _ e,BU a _,⟨_,Qrq _ rfl,rfl,rfl⟩,fun b hb=> ?_,q⟩
  have e:b=s1.heap.objs.size:=by simpa using hb
  subst e
  exact I1.fpOk (Qmq _) (I1.hok.fresh (Qmq _))
def i0(f:eF):yY:=fun Γ S=>(f Γ S).bind fun(p,S1)=>some ((p.1,fun S'=>p.2.stays S' p.1),S1)
def du{tg l:Expr}{f:eF}(hl:PE X l (tQ (md X) f)):PI X tg l (tI (md X) (i0 f)):=MQ (J0 hl) fun σ H R qq=>by
 obtain⟨ρ,Γ,S,ds,W,S',ok,e,q⟩:=qq
 obtain⟨⟨⟨ds',t⟩,S1⟩,e1,e⟩:=aq e
 obtain⟨e2,rfl⟩:=cH e
 obtain⟨rfl,rfl⟩:=Prod.mk.inj e2
 refine⟨ρ,Γ,S,ds',t,S1,ok,e1,fun ρ' a vs H' x st h r=>⟨a,rfl,?_⟩⟩
 cases c:t.isL with
 | true=>
   refine .inl ⟨⟨vs,h.sqL c⟩,q _ _ _ x st fun i ρ2 S2 H2 x2 st2 w=> ?_⟩
   obtain⟨vs',h',r'⟩:=h.to r x2 st2 w
   have sq:=h'.sqL c
   refine⟨fun d hd=> ?_,fun hi=>⟨vs',sq,by rw[hi,r'.length];exact Qmq _⟩⟩
   obtain⟨v,hv,rv⟩:=r'.get hd
   refine⟨⟨vs',v,sq,hv⟩,fun x H3 hy=> ?_⟩
   obtain⟨rfl,hy⟩:=hy
   have:=hy vs' sq
   rw[hv] at this
   cases this
   exact⟨cK.refl,st2,rv⟩
 | false=>
   refine .inr ⟨⟨vs,h.sqT c⟩,q _ _ _ x st fun i ρ2 S2 H2 x2 st2 w=> ?_⟩
   obtain⟨vs',h',r'⟩:=h.to r x2 st2 w
   have sq:=h'.sqT c
   refine⟨fun d hd=> ?_,fun hi=>⟨vs',sq,by rw[hi,r'.length];exact Qmq _⟩⟩
   obtain⟨v,hv,rv⟩:=r'.get hd
   refine⟨⟨vs',v,sq,hv⟩,fun x H3 hy=> ?_⟩
   obtain⟨rfl,hy⟩:=hy
   have:=hy vs' sq
   rw[hv] at this
   cases this
   exact⟨cK.refl,st2,rv⟩
def jR(lo hi:Int):List D:=(List.range (hi-lo).toNat).map fun(i:Nat)=>D.int (lo+(i:Int))
noncomputable def rC(f:bH):yY:=fun Γ S=>(f Γ S).bind fun(d,S1)=>match d with
 |.int j=>if -(2^62)<=j/\j<2^62 then some ((jR 0 j,fun _=>True),S1) else none
 |_=>none
def Em{M:Md}{ρ:List Addr}{H:Hp}{lo hi:Int}:Walks M (Mv lo (hi-lo).toNat) ρ H (jR lo hi) (fun _=>True):=fun i ρ2 S2 H2 x2 st2 w=>by
 unfold jR
 refine⟨fun d hd=> ?_,fun hi=>by rw[lQm,QVq] at hi;exact Nat.le_of_eq hi.symm⟩
 rw[gQm] at hd
 obtain⟨k,hk,rfl⟩:=oQm.mp hd
 have hl:=(gQs.mp hk)
 obtain⟨hl,he⟩:=hl
 rw[List.getElem_range] at he
 subst he
 rw[QVq] at hl
 refine⟨hl,fun x H3 hy=> ?_⟩
 obtain⟨rfl,rfl⟩:=hy
 exact⟨cK.refl,st2,.int _⟩
def kP{tg a:Expr}{f:bH}{p:Pos}(hg:Gl X "range")(hm:X.mg "range"=none)(ha:PE X a (tD (md X) f))(hs:starEach [a] X.env= [(false,eval a X.env)]:=by rfl):PI X tg (.Call (.Name "range" p) [a] [] pos) (tI (md X) (rC f)):=
 MQ (DK hg hm (ai ha ar hs) hs) fun σ H R qq=>by
  obtain⟨ρ,Γ,S,ds,W,S',ok,e,q⟩:=qq
  obtain⟨⟨d,S1⟩,e1,e⟩:=aq e
  dsimp only at e
  split at e
  ·rename_i j
   split at e
   ·rename_i hj
    obtain⟨e2,rfl⟩:=cH e
    obtain⟨rfl,rfl⟩:=Prod.mk.inj e2
    refine⟨ρ,Γ,S,[.int j],S1,ok,by unfold aj au;rw[e1];rfl,fun ρ' vs H' x st r=> ?_⟩
    cases r with
    | cons r rr=>
      cases rr
      cases r
      refine⟨j,rfl,hj.1,hj.2,q _ _ _ x st ?_⟩
      have:=Em (M:=md X) (ρ:=ρ') (H:=H') (lo:=0) (hi:=j)
      rw[Int.sub_zero] at this
      exact this
   ·cases e
  ·cases e
open Classical in
def forL(g:om)(b:dm)(W:aH->Prop):List D->de->aH->Option Out
 | [],Γ,S=>if W S then some (.nx Γ S) else none
 |d ::ds,Γ,S=>if W S then(g d Γ S).bind fun(Γ1,S1)=>(b Γ1 S1).bind fun o=>match o with
    |.nx Γ2 S2=>forL g b W ds Γ2 S2
    |.ct Γ2 S2=>forL g b W ds Γ2 S2
    |.bk Γ2 S2=>some (.nx Γ2 S2)
    |.rt x S2=>some (.rt x S2)
    |.rl x S2=>some (.rl x S2)
  else none
def iC(i:yY)(g:om)(b:dm):dm:=fun Γ S=>(i Γ S).bind fun(p,S1)=>forL g b p.2 p.1 Γ S1
def gR{tg iter:Expr}{i:yY}{g:om}{f:dm}(hp:PassesOwn (model X.prog X.w) X.A X.env X.xe)(hc:X.calm=true)(hi:PI X tg iter (tI (md X) i))(hg:PG X tg (tG (md X) g))(hb:sk X body (tS (md X) f))
  (hs:∀x,foldedSetIterable iter X.env x=pure x:=by intro _;rfl):PS X (.For tg iter body [] pos) (tS (md X) (iC i g f)):=CP (Jj hp hc hi hg hb hs) fun D σ H ⟨ρ,Γ,S,o,ok,e,q⟩=>by
 obtain⟨⟨⟨ds,W⟩,S1⟩,e1,e⟩:=aq e
 refine⟨ρ,Γ,S,ds,W,S1,ok,e1,fun ρ1 J H1 x1 st1 wk=> ?_⟩
 have q1:=q.to x1
 have ok1:=ok.to x1 st1
 refine⟨fun i m σ' H'=>m=ds.length-i/\i<=ds.length/\∃ρ2 Γ2 S2,cK ρ1 H1 ρ2 H'/\Ok (md X) ρ2 Γ2 S2 σ' H'/\forL g f W (ds.drop i) Γ2 S2=some o,⟨ds.length,by simp,Nat.zero_le _,ρ1,Γ,S1,cK.refl,ok1,e⟩,?_⟩
 rintro i m σ2 H2 ⟨rfl,hi,ρ2,Γ2,S2,x2,ok2,e2⟩
 by_cases hlt:i<ds.length
 ·have hd:ds[i]?=some ds[i]:=gQe hlt
  rw[QWq hlt] at e2
  unfold forL at e2
  split at e2
  ·rename_i w
   obtain⟨w1,w2⟩:=wk i ρ2 S2 H2 x2 ok2.st w
   obtain⟨go,yld⟩:=w1 _ hd
   refine .inr ⟨go,fun σ' H'=>∃ρ' Γ' S',cK ρ1 H1 ρ' H'/\Ok (md X) ρ' Γ' S' σ' H'/\forL g f W (ds.drop (i+1)) Γ' S'=some o,fun σ' H' ⟨ρ',Γ',S',h1,h2,h3⟩=>⟨ds.length-(i+1),by omega,rfl,hlt,ρ',Γ',S',h1,h2,h3⟩,fun x H3 hy=> ?_⟩
   obtain⟨x3,st3,r3⟩:=yld x H3 hy
   obtain⟨⟨Γ4,S4⟩,e4,e5⟩:=aq e2
   refine⟨ρ2,Γ2,S2,_,Γ4,S4,ok2.to x3 st3,r3,e4,fun ρ4 σ4 H4 x4 ok4=> ?_⟩
   obtain⟨o5,e6,e7⟩:=aq e5
   have x5:=(x2.trans x3).trans x4
   refine⟨ρ4,Γ4,S4,o5,ok4,e6,?_⟩
   cases o5 with
   |nx Γ6 S6=>exact fun ρ6 σ6 H6 x6 ok6=>⟨ρ6,Γ6,S6,x5.trans x6,ok6,e7⟩
   |ct Γ6 S6=>exact fun ρ6 σ6 H6 x6 ok6=>⟨ρ6,Γ6,S6,x5.trans x6,ok6,e7⟩
   |bk Γ6 S6=>cases e7;exact fun ρ6 σ6 H6 x6 ok6=>q1 _ _ _ (x5.trans x6) ok6
   |rt d6 S6=>cases e7;exact q1.to x5
   |rl d6 S6=>cases e7;exact q1.to x5
  ·cases e2
 ·have e3:i=ds.length:=by omega
  subst e3
  rw[List.drop_length] at e2
  unfold forL at e2
  split at e2
  ·rename_i w
   cases e2
   obtain⟨w1,w2⟩:=wk ds.length ρ2 S2 H2 x2 ok2.st w
   exact .inl ⟨w2 rfl,q1 _ _ _ x2 ok2⟩
  ·cases e2
end
section
variable{M:Md}{ρ:List Addr}{H:Hp}{b:Addr}{us ws:List V}
mutual
theorem Rel.off(hb:H b=some (.lst us)):∀{d:D} {v:V},Rel M ρ H d v->Rel M ρ (upd H b (.lst ws)) d v
 |_,_,.non=>.non
 |_,_,.bl x=>.bl x
 |_,_,.int i=>.int i
 |_,_,.str x=>.str x
 |_,_,.tup h hs=>.tup (by rw[bA (GD h hb (by intro z;cases z))];exact h) (bt.off hb hs)
 |_,_,.ref h=>.ref h
 |_,_,.fn h=>.fn h
theorem bt.off(hb:H b=some (.lst us)):∀{ds:List D} {vs:List V},bt M ρ H ds vs->bt M ρ (upd H b (.lst ws)) ds vs
 |_,_,.nil=>.nil
 |_,_,.cons h hs=>.cons (Rel.off hb h) (bt.off hb hs)
end
theorem gQ.off{S:aH}(st:gQ M ρ S H)(hb:H b=some (.lst us))(n:b∉ρ):gQ M ρ S (upd H b (.lst ws)):=⟨st.len,st.nd,fun k a o h1 h2=>by
 have q:=st.obj k a o h1 h2
 have ab:a≠b:=fun z=>n (z▸mQg h1)
 cases o with
 |lst ds=>obtain⟨vs,q1,q2⟩:=q;exact⟨vs,by rw[bA ab];exact q1,q2.off hb⟩
 |frz ds=>obtain⟨vs,o,q1,q2⟩:=q;exact⟨vs,o,by rw[bA ab];exact q1,q2.off hb⟩
 |dct kvs=>obtain⟨kv,q1,q2⟩:=q;exact⟨kv,by rw[bA ab];exact q1,q2.imp fun _ _ r=>r.off hb⟩⟩
def En.off{Γ:de}{σ:L2.St}(h:En M ρ H Γ σ)(hb:H b=some (.lst us)):En M ρ (upd H b (.lst ws)) Γ σ:=⟨h.len,fun i d q=>by obtain⟨v,h1,h2⟩:=h.get i d q;exact⟨v,h1,h2.off hb⟩⟩
def cK.off{ρ0:List Addr}{H0:Hp}(e:cK ρ0 H0 ρ H)(hb:H0 b=none)(u:HO):cK ρ0 H0 ρ (upd H b u):=⟨e.pre,e.new,fun a o h c=>by rw[bA (gd h hb)];exact e.keep a o h c,fun a h=>by
 by_cases z:a=b
 ·subst z;exact hb
 ·rw[bA z] at h;exact e.grow a h⟩
end
def nQ(js:List (Option Nat))(Γ:de):de:=js.map fun o=>o.bind fun j=>Γ.getD j none
def En.sig{M:Md}{ρ:List Addr}{H:Hp}{Γ:de}{σ:L2.St}(js:List (Option Nat))(h:En M ρ H Γ σ):En M ρ H (nQ js Γ) (kB js σ) where
 len:=by unfold nQ kB;rw[lQm,lQm]
 get:=fun i d q=>by
  unfold nQ at q
  unfold kB
  rw[gQm] at q⊢
  cases e:js[i]? with
  |none=>rw[e] at q;cases q
  | some o=>
    rw[e] at q
    cases o with
    |none=>cases q
    | some j=>
      have q':Γ.getD j none=some d:=Option.some.inj q
      have hj:Γ[j]?=some (some d):=by
        rw[Qlq] at q'
        cases z:Γ[j]? with
        |none=>rw[z] at q';cases q'
        |some y=>rw[z] at q';exact congrArg some q'
      obtain⟨v,h1,h2⟩:=h.get j d hj
      refine⟨v,?_,h2⟩
      show some (σ.getD j none)=some (some v)
      rw[Qlq,h1]
      rfl
open Classical in
def mP(g:om)(t:ko)(f:bH)(W:aH->Prop):List D->de->aH->List D->Option (List D×aH)
 | [],Γ,S,acc=>if W S then some (acc,S) else none
 |d ::ds,Γ,S,acc=>if W S then(g d Γ S).bind fun(Γ1,S1)=>(t Γ1 S1).bind fun(k,S2)=>
    if k=true then(f Γ1 S2).bind fun(y,S3)=>if acc.length<sizeLine then mP g t f W ds Γ1 S3 (acc++ [y]) else none
    else mP g t f W ds Γ1 S2 acc
  else none
def bX(js:List (Option Nat))(i:yY)(g:om)(t:ko)(f:bH):h_:=fun Γ S=>(i Γ S).bind fun(p,S1)=>mP g t f p.2 p.1 (nQ js Γ) S1 []
section
variable{M:Md}
def Fs{js:List (Option Nat)}{i:yY}{g:om}{t:ko}{f:bH}:∀σ H Q,tL M (bX js i g t f) σ H Q->Gn js (tI M i) (tG M g) (tB M t) (tD M f) σ H Q:=fun σ H Q qq=>by
 obtain⟨ρ,Γ,S,rs,S',ok,e,q⟩:=qq
 obtain⟨⟨⟨ds,W⟩,S1⟩,e1,e⟩:=aq e
 refine⟨ρ,Γ,S,ds,W,S1,ok,e1,fun ρ1 J H1 x1 st1 wk D hD=> ?_⟩
 have n1:D∉ρ1:=dR x1 st1 hD
 have ok1:Ok M ρ1 (nQ js Γ) S1 (kB js σ) (upd H1 D (.lst [])):=⟨((ok.en.ext x1).ext (cK.laid hD)).sig js,st1.lay hD⟩
 refine⟨fun i m σ' H'=>m=ds.length-i/\i<=ds.length/\∃ρ2 Γ2 S2 acc vs,cK ρ1 H1 ρ2 H'/\Ok M ρ2 Γ2 S2 σ' H'/\D∉ρ2/\H' D=some (.lst vs)/\bt M ρ2 H' acc vs/\mP g t f W (ds.drop i) Γ2 S2 acc=some (rs,S'),
  ⟨ds.length,by simp,Nat.zero_le _,ρ1,_,S1,[],[],cK.laid hD,ok1,n1,cj,.nil,e⟩,?_⟩
 rintro i m σ2 H2 ⟨rfl,hi,ρ2,Γ2,S2,acc,vs,x2,ok2,n2,hD2,racc,e2⟩
 by_cases hlt:i<ds.length
 ·have hd:ds[i]?=some ds[i]:=gQe hlt
  rw[QWq hlt] at e2
  unfold mP at e2
  split at e2
  ·rename_i w
   obtain⟨w1,w2⟩:=wk i ρ2 S2 H2 x2 ok2.st w
   obtain⟨go,yld⟩:=w1 _ hd
   refine .inr ⟨go,fun σ' H'=>∃ρ' Γ' S'' acc vs,cK ρ1 H1 ρ' H'/\Ok M ρ' Γ' S'' σ' H'/\D∉ρ'/\H' D=some (.lst vs)/\bt M ρ' H' acc vs/\mP g t f W (ds.drop (i+1)) Γ' S'' acc=some (rs,S'),
    fun σ' H' ⟨ρ',Γ',S'',acc,vs,h1,h2,h3,h4,h5,h6⟩=>⟨ds.length-(i+1),by omega,rfl,hlt,ρ',Γ',S'',acc,vs,h1,h2,h3,h4,h5,h6⟩,fun x H3 hy=> ?_⟩
   obtain⟨x3,st3,r3⟩:=yld x H3 hy
   obtain⟨⟨Γ4,S4⟩,e4,e5⟩:=aq e2
   refine⟨ρ2,Γ2,S2,_,Γ4,S4,ok2.to x3 st3,r3,e4,fun ρ4 σ4 H4 x4 ok4=> ?_⟩
   obtain⟨⟨k,S5⟩,e6,e7⟩:=aq e5
   refine⟨ρ4,Γ4,S4,k,S5,ok4,e6,fun ρ5 H5 x5 st5=> ?_⟩
   have x25:=(x3.trans x4).trans x5
   have keep:∀{ρ' H'},cK ρ2 H2 ρ' H'->H' D=some (.lst vs)/\D∉ρ':=fun{ρ' H'} x=>⟨x.keep _ _ hD2 (.inl n2),fun m=>(x.new _ m).elim n2 fun z=>by rw[z] at hD2;cases hD2⟩
   dsimp only at e7⊢
   split at e7
   ·rename_i ck
    rw[Qhq ck]
    obtain⟨⟨y,S6⟩,e8,e9⟩:=aq e7
    refine⟨ρ5,Γ4,S5,y,S6,ok4.to x5 st5,e8,fun ρ6 v H6 x6 st6 r6=> ?_⟩
    have x26:=x25.trans x6
    obtain⟨hD6,n6⟩:=keep x26
    have racc6:=racc.ext x26
    dsimp only at e9
    split at e9
    ·rename_i cl
     refine⟨vs,hD6,by rw[←racc.length];exact cl,ρ6,Γ4,S6,acc++ [y],vs++ [v],(x2.trans x26).off hD _,⟨((ok4.en.ext x5).ext x6).off hD6,st6.off hD6 n6⟩,n6,cj,(racc6.append (.cons r6 .nil)).off hD6,e9⟩
    ·cases e9
   ·rename_i ck
    rw[Quq ck]
    obtain⟨hD5,n5⟩:=keep x25
    exact⟨ρ5,Γ4,S5,acc,vs,x2.trans x25,ok4.to x5 st5,n5,hD5,racc.ext x25,e7⟩
  ·cases e2
 ·have e3:i=ds.length:=by omega
  subst e3
  rw[List.drop_length] at e2
  unfold mP at e2
  split at e2
  ·rename_i w
   obtain⟨rfl,rfl⟩:=cH e2
   obtain⟨w1,w2⟩:=wk ds.length ρ2 S2 H2 x2 ok2.st w
   exact .inl ⟨w2 rfl,q ρ2 D vs H2 (x1.trans x2) ok2.st (x1.grow _ hD) n2 hD2 racc⟩
  ·cases e2
end
section
variable{X:Cx}{a b c e:Expr}{pos:Pos}{st:Stmt}{rest body other:List Stmt}
def cz:ko:=fun _ S=>some (true,S)
def Lk{ifs:List Expr}{t t':TT}(h:rA X ifs t)(w:∀σ H Q,t' σ H Q->t σ H Q):rA X ifs t':=fun pins s σ H Q I q=>h pins s σ H Q I (w _ _ _ q)
def eA:rA X [] (tB (md X) cz):=Lk J1 fun σ H Q ⟨ρ,Γ,S,k,S',ok,e,q⟩=>by cases e;exact q _ _ cK.refl ok.st
def E4{f:ko}(hc:PT X c (tB (md X) f)):rA X [c] (tB (md X) f):=Ja hc
def cV{N:List Str}{js:List (Option Nat)}{scope:Scope}{cl:List (Str×Addr)}{tg iter elt:Expr}{ifs:List Expr}{i:yY}{g:om}{t:ko}{f:bH}
  (S:aU X N js scope cl) (hc:X.calm=true) (hi:PI X tg iter (tI (md X) i))
  (hg:∀C s H fp,PG (bo X N scope cl C s H fp) tg (tG (md X) g)) (ht:∀C s H fp,rA (bo X N scope cl C s H fp) ifs (tB (md X) t)) (he:∀C s H fp,PE (bo X N scope cl C s H fp) elt (tD (md X) f))
  (hs:∀x,foldedSetIterable iter X.env x=pure x:=by intro _;rfl):PE X (.ListComp elt [⟨tg,iter,ifs,0⟩] scope pos) (tL (md X) (bX js i g t f)):=kb (HN S hc hi hg ht he hs) Fs
def GH{N:List Str}{js:List (Option Nat)}{scope:Scope}{cl:List (Str×Addr)}{tg iter elt tgt:Expr}{ifs:List Expr}{i:yY}{g:om}{t:ko}{f:bH}{n:Nat}{spos:Pos}
  (S:aU X N js scope cl) (hc:X.calm=true) (hi:PI X tg iter (tI (md X) i))
  (hg:∀C s H fp,PG (bo X N scope cl C s H fp) tg (tG (md X) g)) (ht:∀C s H fp,rA (bo X N scope cl C s H fp) ifs (tB (md X) t)) (he:∀C s H fp,PE (bo X N scope cl C s H fp) elt (tD (md X) f)) (hgt:PG X tgt (uj n))
  (hs:∀x,foldedSetIterable iter X.env x=pure x:=by intro _;rfl) (hsw:swapsWithSole [tgt] (.ListComp elt [⟨tg,iter,ifs,0⟩] scope pos) spos.line X.env=pure true:=by rfl)
  (h1:(assignEach [tgt] X.env).map (·.2)= [assign tgt X.env]:=by rfl):PS X (.Assign [tgt] (.ListComp elt [⟨tg,iter,ifs,0⟩] scope pos) spos) (tS (md X) (bj n (cO (bX js i g t f)))):=
 CP (Hr S hc hi hg ht he hgt hs hsw h1) fun D σ H qq=>by
  obtain⟨ρ,Γ,S,o,ok,e,q⟩:=qq
  obtain⟨⟨d,S1⟩,e1,e⟩:=aq e
  cases e
  obtain⟨⟨ds,S2⟩,e2,e3⟩:=aq e1
  obtain⟨rfl,rfl⟩:=cH e3
  refine Fs σ H _ ⟨ρ,Γ,S,ds,S2,ok,e2,fun ρ' a vs H' x st fr nr ha rs=> ?_⟩
  have rs':=rs.pre (List.prefix_append ρ' [a])
  have st':=st.box (o:=.lst ds) nr ⟨vs,ha,rs'⟩
  have x':cK ρ H (ρ'++ [a]) H':=⟨x.pre.trans (List.prefix_append _ _),fun b hb=>by
   rcases mQa.mp hb with hb|hb
   ·exact x.new b hb
   ·rw[Qfq] at hb;subst hb;exact .inr fr,x.keep,x.grow⟩
  refine q (ρ'++ [a]) _ H' x' ⟨((ok.en.ext x').set (.ref ?_)),st'⟩
  rw[←st.len,QQq (Qmq _)]
  simp
noncomputable def GP(c:ko)(b:dm):Nat->de->aH->Option Out
 |0,_,_=>none
 |n +1,Γ,S=>(c Γ S).bind fun(k,S1)=>if k=true then(b Γ S1).bind fun o=>match o with
    |.nx Γ2 S2=>GP c b n Γ2 S2
    |.ct Γ2 S2=>GP c b n Γ2 S2
    |.bk Γ2 S2=>some (.nx Γ2 S2)
    |.rt x S2=>some (.rt x S2)
    |.rl x S2=>some (.rl x S2)
  else some (.nx Γ S1)
def GT{h:ko}{f:dm}(n:Nat)(hp:PassesOwn (model X.prog X.w) X.A X.env X.xe)(hc:PT X c (tB (md X) h))(hb:sk X body (tS (md X) f)):PS X (.While c body [] pos) (tS (md X) (GP h f n)):=CP (EC hp hc hb) fun D σ H qq=>by
 obtain⟨ρ,Γ,S,o,ok,e,q⟩:=qq
 refine⟨fun m σ' H'=>∃ρ' Γ' S',cK ρ H ρ' H'/\Ok (md X) ρ' Γ' S' σ' H'/\GP h f m Γ' S'=some o,⟨n,ρ,Γ,S,cK.refl,ok,e⟩,?_⟩
 rintro m σ1 H1 ⟨ρ1,Γ1,S1,x1,ok1,e1⟩
 cases m with
 |zero=>cases e1
 | succ m=>
   unfold GP at e1
   obtain⟨⟨k,S2⟩,e2,e1⟩:=aq e1
   refine⟨ρ1,Γ1,S1,k,S2,ok1,e2,fun ρ2 H2 x2 st2=> ?_⟩
   dsimp only at e1⊢
   have ok2:=ok1.to x2 st2
   have x12:=x1.trans x2
   split at e1
   · rename_i ck
     rw[Qhq ck]
     obtain⟨o3,e3,e1⟩:=aq e1
     refine⟨fun σ' H'=>∃ρ' Γ' S',cK ρ H ρ' H'/\Ok (md X) ρ' Γ' S' σ' H'/\GP h f m Γ' S'=some o,fun σ' H' ⟨ρ',Γ',S',h1,h2,h3⟩=>⟨m,Nat.lt_succ_self _,ρ',Γ',S',h1,h2,h3⟩,ρ2,Γ1,S2,o3,ok2,e3,?_⟩
     cases o3 with
     |nx Γ6 S6=>exact fun ρ6 σ6 H6 x6 ok6=>⟨ρ6,Γ6,S6,x12.trans x6,ok6,e1⟩
     |ct Γ6 S6=>exact fun ρ6 σ6 H6 x6 ok6=>⟨ρ6,Γ6,S6,x12.trans x6,ok6,e1⟩
     |bk Γ6 S6=>cases e1;exact fun ρ6 σ6 H6 x6 ok6=>q _ _ _ (x12.trans x6) ok6
     |rt d6 S6=>cases e1;exact q.to x12
     |rl d6 S6=>cases e1;exact q.to x12
   · rename_i ck
     rw[Quq ck]
     cases e1
     exact q _ _ _ x12 ok2
end
inductive Res where
 |d (x:D)|l (ds:List D)
abbrev dU:=List D->aH->Option (Res×aH)
def Kq(M:Md)(ρ:List Addr)(H H':Hp)(v:V):Res->Prop
 |.d x=>Rel M ρ H' x v
 |.l ds=>∃a vs,v=.ref a/\H a=none/\a∉ρ/\H' a=some (.lst vs)/\bt M ρ H' ds vs
def eT(M:Md)(n:Nat)(F:dU):Sp:=fun vs H Q _=>∃ρ S ds r S',ds.length=n/\bt M ρ H ds vs/\gQ M ρ S H/\F ds S=some (r,S')/\∀ρ' v H',cK ρ H ρ' H'->gQ M ρ' S' H'->Kq M ρ' H H' v r->Q v H'
mutual
def cp(m:Nat):D->Bool
 |.ref k=>decide (k<m)
 |.tup ds=>cc m ds
 |_=>true
def cc(m:Nat):List D->Bool
 | []=>true
 |d::ds=>cp m d&&cc m ds
end
def Iu(m:Nat):O->Bool
 |.lst ds=>cc m ds
 |.frz ds=>cc m ds
 |.dct kvs=>cc m (kvs.map (·.2))
section
variable{M:Md}{ρ ρ':List Addr}{H:Hp}
mutual
theorem Rel.cut(e:ρ <+: ρ'):∀{d:D} {v:V},Rel M ρ' H d v->cp ρ.length d=true->Rel M ρ H d v
 |_,_,.non,_=>.non
 |_,_,.bl x,_=>.bl x
 |_,_,.int i,_=>.int i
 |_,_,.str x,_=>.str x
 |_,_,.tup h hs,b=>.tup h (bt.cut e hs (by simpa [cp] using b))
 | _,_,.ref (k:=k) (a:=a) h,b=>.ref (by
   obtain⟨t,rfl⟩:=e
   have c:k<ρ.length:=by simpa [cp] using b
   rwa [QHq c] at h)
 |_,_,.fn h,_=>.fn h
theorem bt.cut(e:ρ <+: ρ'):∀{ds:List D} {vs:List V},bt M ρ' H ds vs->cc ρ.length ds=true->bt M ρ H ds vs
 |_,_,.nil,_=>.nil
 | _,_,.cons h hs,b=>by
   have b':=b
   simp only[cc,QDq,QCq] at b'
   exact .cons (Rel.cut e h b'.1) (bt.cut e hs b'.2)
end
theorem cQ.cut(e:ρ <+: ρ'):∀{l:List (Key×D)} {kv:List (Key×V)},cQ M ρ' H l kv->cc ρ.length (l.map (·.2))=true->cQ M ρ H l kv
 | [],_,h,_=>h
 | (_,_)::_,_,⟨v,t,q,h,hs⟩,b=>by
   have b':=b
   simp only[cc,QDq,QCq] at b'
   exact⟨v,t,q,h.cut e b'.1,cQ.cut e hs b'.2⟩
theorem o_.cut{a:Addr}{o:O}(e:ρ <+: ρ')(h:o_ M ρ' H a o)(b:Iu ρ.length o=true):o_ M ρ H a o:=by
 cases o with
 |lst ds=>obtain⟨vs,h1,h2⟩:=h;exact⟨vs,h1,h2.cut e b⟩
 |frz ds=>obtain⟨vs,o,h1,h2⟩:=h;exact⟨vs,o,h1,h2.cut e b⟩
 |dct kvs=>obtain⟨kv,h1,h2⟩:=h;exact⟨kv,h1,h2.cut e b⟩
mutual
theorem Rel.low:∀{d:D} {v:V},Rel M ρ H d v->cp ρ.length d=true
 |_,_,.non=>rfl
 |_,_,.bl x=>rfl
 |_,_,.int i=>rfl
 |_,_,.str x=>rfl
 |_,_,.tup h hs=>by simp only[cp];exact bt.low hs
 |_,_,.ref h=>by simp only[cp];exact Qeq (gQs.mp h).1
 |_,_,.fn h=>rfl
theorem bt.low:∀{ds:List D} {vs:List V},bt M ρ H ds vs->cc ρ.length ds=true
 |_,_,.nil=>rfl
 |_,_,.cons h hs=>by simp only[cc];rw[Rel.low h,bt.low hs];rfl
end
theorem cQ.low:∀{l:List (Key×D)} {kv:List (Key×V)},cQ M ρ H l kv->cc ρ.length (l.map (·.2))=true
 | [],_,_=>rfl
 |(_,_)::_,_,⟨v,t,q,h,hs⟩=>by simp only[QDq,cc];rw[h.low,cQ.low hs];rfl
theorem o_.low{a:Addr}{o:O}(h:o_ M ρ H a o):Iu ρ.length o=true:=by
 cases o with
 |lst ds=>obtain⟨vs,h1,h2⟩:=h;exact h2.low
 |frz ds=>obtain⟨vs,o,h1,h2⟩:=h;exact h2.low
 |dct kvs=>obtain⟨kv,h1,h2⟩:=h;exact h2.low
end
def ou(S S':aH):Prop:=S.length<=S'.length/\∀k o,k<S.length->S'[k]?=some o->S[k]?=some o\/Iu S.length o=true
open Classical in
def settle(S:aH)(d:D)(S':aH):Option (Res×aH):=if ou S S' then match d with
  | .ref k=>if k<S.length then some (.d (.ref k),S'.take S.length) else match S'[k]? with
    |some (.lst ds)=>if cc S.length ds=true then some (.l ds,S'.take S.length) else none
    |_=>none
  |d=>if cp S.length d=true then some (.d d,S'.take S.length) else none
 else none
open Classical in
def dF(S:aH)(ds:List D)(S':aH):Option (Res×aH):=if ou S S'/\cc S.length ds=true then some (.l ds,S'.take S.length) else none
noncomputable def fg(n:Nat)(b:dm):dU:=fun ds S=>(b (ds.map some++List.replicate (n-ds.length) none) S).bind fun o=>match o with
 |.nx _ S'=>settle S .non S'
 |.rt d S'=>settle S d S'
 |.rl l S'=>dF S l S'
 |_=>none
def gQ.clean{M:Md}{ρ ρ':List Addr}{S S':aH}{H H':Hp}(st:gQ M ρ S H)(x:cK ρ H ρ' H')(st':gQ M ρ' S' H')(c:ou S S'):gQ M ρ (S'.take S.length) H'/\cK ρ H ρ H':=by
 refine⟨⟨?_,st.nd,fun k a o h1 h2=> ?_⟩,List.prefix_refl _,fun _ h=>.inl h,x.keep,x.grow⟩
 ·rw[Qxq,st.len]
  have:=c.1
  omega
 ·have hk:k<ρ.length:=(gQs.mp h1).1
  have hk':k<S.length:=st.len▸hk
  rw[List.getElem?_take_of_lt hk'] at h2
  refine(st'.obj k a o (dv x.pre h1) h2).cut x.pre ?_
  rcases c.2 k o hk' h2 with z|z
  ·exact(st.obj k a o h1 z).low
  ·rw[st.len];exact z
def wB{M:Md}{ρ ρ':List Addr}{S S' S'':aH}{H H':Hp}{d:D}{v:V}{r:Res}(st:gQ M ρ S H)(x:cK ρ H ρ' H')(st':gQ M ρ' S' H')(rd:Rel M ρ' H' d v)(e:settle S d S'=some (r,S'')):
  cK ρ H ρ H'/\gQ M ρ S'' H'/\Kq M ρ H H' v r:=by
 unfold settle at e
 split at e
 ·rename_i c
  obtain⟨s1,x1⟩:=st.clean x st' c
  cases d with
  | ref k=>
    dsimp only at e
    split at e
    · rename_i hk
      obtain⟨rfl,rfl⟩:=cH e
      exact⟨x1,s1,rd.cut x.pre (by simp only[cp];rw[st.len];exact Qeq hk)⟩
    · rename_i hk
      split at e
      · rename_i ds hs
        split at e
        · rename_i hb
          obtain⟨rfl,rfl⟩:=cH e
          cases rd with
          | ref ha=>
            rename_i a
            obtain⟨vs,h1,h2⟩:=st'.obj k a _ ha hs
            have na:a∉ρ:=fun m=>by
              obtain⟨j,hj⟩:=List.getElem?_of_mem m
              have:=lD st'.nd (dv x.pre hj) ha
              subst this
              exact hk (st.len▸(gQs.mp hj).1)
            refine⟨x1,s1,a,vs,rfl,(x.new a (mQg ha)).resolve_left na,na,h1,h2.cut x.pre (by rw[st.len];exact hb)⟩
        · cases e
      · cases e
  | _=>
    dsimp only at e
    split at e
    · rename_i hb
      obtain⟨rfl,rfl⟩:=cH e
      exact⟨x1,s1,rd.cut x.pre (by rw[st.len];exact hb)⟩
    · cases e
 ·cases e
def Ba{M:Md}{ρ ρ':List Addr}{S S' S'':aH}{H H':Hp}{ds:List D}{a:Addr}{vs:List V}{r:Res}(st:gQ M ρ S H)(x:cK ρ H ρ' H')(st':gQ M ρ' S' H')(fr:H a=none)(na:a∉ρ')(ha:H' a=some (.lst vs))(rd:bt M ρ' H' ds vs)(e:dF S ds S'=some (r,S'')):
  cK ρ H ρ H'/\gQ M ρ S'' H'/\Kq M ρ H H' (.ref a) r:=by
 unfold dF at e
 split at e
 ·rename_i c
  obtain⟨s1,x1⟩:=st.clean x st' c.1
  obtain⟨rfl,rfl⟩:=cH e
  exact⟨x1,s1,a,vs,rfl,fr,fun m=>na (x.pre.subset m),ha,rd.cut x.pre (by rw[st.len];exact c.2)⟩
 ·cases e
def F_{M:Md}{ρ:List Addr}{H:Hp}{ds:List D}{vs:List V}{N:List Str}(r:bt M ρ H ds vs):En M ρ H (ds.map some++List.replicate (N.length-ds.length) none) (L2.start N vs) where
 len:=by unfold L2.start;simp[r.length]
 get:=fun i d q=>by
  unfold L2.start
  by_cases c:i<ds.length
  ·rw[QHq (by rw[lQm];exact c),gQm] at q
   obtain⟨d',h1,h2⟩:=oQm.mp q
   cases h2
   obtain⟨v,h3,h4⟩:=r.get h1
   exact⟨v,by rw[QHq (by rw[lQm,←r.length];exact c),gQm,h3];rfl,h4⟩
  ·rw[QQq (by rw[lQm];omega)] at q
   have:=mQg q
   rw[List.mem_replicate] at this
   cases this.2
section
variable{P:Program}{w:World}{K:PySem.W.Frag}{mg:Str->Option Value}{base:Heap}
def bx{x qual:Str}{st:Stmt}{f:Addr}{fd:FuncData}{N ps:List Str}{k:Nat}{b:dm}(F:eV K x qual st f fd)(S:aL N ps (aD st))
  (hbody:∀(cdv:Value) (A:Around) (outer:List Env) (s:Shared) (H:Hp) (E:XK),fS k (A.deeper (envOfC qual (aD st) s.heap.objs.size f cdv))→
   sk (A9 eE P w K mg base N qual (aD st) f cdv A outer s H E).nox (gN st) (tS ⟨K,mg⟩ b)):bF P w K mg base eE (k+1) f fd ps (eT ⟨K,mg⟩ ps.length (fg N.length b)):=by
 refine F.ok S (fun vs H Q E ⟨ρ,S,ds,r,S',h1,h2,_⟩=>by rw[←h2.length];exact h1) fun cdv A outer s H vs Q E hr ⟨ρ,S,ds,r,S',h1,h2,h3,h4,q⟩=>⟨_,hbody cdv A outer s H E hr,?_⟩
 obtain⟨o,e1,e⟩:=aq h4
 refine⟨ρ,_,S,o,⟨F_ h2,h3⟩,e1,?_⟩
 cases o with
 |nx Γ1 S1=>exact fun ρ' σ' H' x' ok'=>by obtain⟨x2,s2,r2⟩:=wB h3 x' ok'.st .non e;exact q _ _ _ x2 s2 r2
 |rt d S1=>exact fun ρ' v H' x' st' r'=>by obtain⟨x2,s2,r2⟩:=wB h3 x' st' r' e;exact q _ _ _ x2 s2 r2
 |rl d S1=>exact fun ρ' a vs H' x' st' fr na ha r'=>by obtain⟨x2,s2,r2⟩:=Ba h3 x' st' fr na ha r' e;exact q _ _ _ x2 s2 r2
 |bk=>cases e
 |ct=>cases e
end
section
variable{X:Cx}{x:Str}{k n:Nat}{f:Addr}{fd:FuncData}{ps:List Str}{F:dU}{e:Expr}{es:List Expr}{g:h_}{p pos:Pos}
noncomputable def ay(F:dU)(g:h_):bH:=fun Γ S=>(g Γ S).bind fun(ds,S1)=>(F ds S1).bind fun(r,S2)=>match r with
 |.d x=>some (x,S2)
 |.l _=>none
def d0(F:dU)(g:h_):h_:=fun Γ S=>(g Γ S).bind fun(ds,S1)=>(F ds S1).bind fun(r,S2)=>match r with
 |.d _=>none
 |.l ds=>some (ds,S2)
def nA(n:Nat)(g:h_):Prop:=∀Γ S ds S',g Γ S=some (ds,S')->ds.length=n
def Bk:nA 0 au:=fun _ _ _ _ e=>by cases e;rfl
def mC{n:Nat}{f:bH}{g:h_}(h:nA n g):nA (n+1) (aj f g):=fun Γ S ds S' e=>by
 obtain⟨⟨d,S1⟩,e1,e⟩:=aq e
 obtain⟨⟨ds',S2⟩,e2,e⟩:=aq e
 cases e
 rw[Qnq,h _ _ _ _ e2]
def Cz{M:Md}(hn:nA n g):∀σ H Q,tD M (ay F g) σ H Q->FB (eT M n F) [] E0 (zf M g) σ H Q:=fun σ H Q qq=>by
 obtain⟨ρ,Γ,S,d,S',ok,e,q⟩:=qq
 obtain⟨⟨ds,S1⟩,e1,e⟩:=aq e
 obtain⟨⟨r,S2⟩,e2,e⟩:=aq e
 refine⟨ρ,Γ,S,ds,S1,ok,e1,fun ρ1 vs H1 x1 st1 r1=>⟨ρ1,S1,ds,r,S2,hn _ _ _ _ e1,by rw[List.append_nil];exact r1,st1,e2,fun ρ2 v H2 x2 st2 r2=> ?_⟩⟩
 cases r with
 |d x=>obtain⟨rfl,rfl⟩:=cH e;exact q _ _ _ (x1.trans x2) st2 r2
 |l ds=>cases e
def Im{M:Md}(hn:nA n g):∀σ H Q,tL M (d0 F g) σ H Q->FB (eT M n F) [] E0 (zf M g) σ H Q:=fun σ H Q qq=>by
 obtain⟨ρ,Γ,S,d,S',ok,e,q⟩:=qq
 obtain⟨⟨ds,S1⟩,e1,e⟩:=aq e
 obtain⟨⟨r,S2⟩,e2,e⟩:=aq e
 refine⟨ρ,Γ,S,ds,S1,ok,e1,fun ρ1 vs H1 x1 st1 r1=>⟨ρ1,S1,ds,r,S2,hn _ _ _ _ e1,by rw[List.append_nil];exact r1,st1,e2,fun ρ2 v H2 x2 st2 r2=> ?_⟩⟩
 cases r with
 |d x=>cases e
 | l ds=>
   obtain⟨rfl,rfl⟩:=cH e
   obtain⟨a,vs,rfl,fr,na,ha,rr⟩:=r2
   exact q _ _ _ _ (x1.trans x2) st2 (x1.grow _ fr) na ha rr
def Kl(G:bF X.prog X.w X.K X.mg X.base eE k f fd ps (eT (md X) n F))(hr:fS k X.A)(hg:Gl X x)(hm:X.mg x=some (.ref f))(hk:PySem.W.keepIn X.K (.ref f)=true)(hb:Binds X.K fd ps [])(ha:PA X (e::es) (zf (md X) g))(hn:nA n g)
  (hdb:(x==("__debug__":Str))=false:=by decide) (he:starEach (e::es) X.env=(false,eval e X.env)::starEach es X.env:=by rfl) (hpl:(backTo pos (starEach es X.env)).any (·.1)=false:=by rfl):
  PE X (.Call (.Name x p) (e::es) [] pos) (tD (md X) (ay F g)):=kb (C4 G hr hg hm hk hb .nil Fq ha hdb he hpl) (Cz hn)
def Ke(G:bF X.prog X.w X.K X.mg X.base eE k f fd ps (eT (md X) n F))(hr:fS k X.A)(hg:Gl X x)(hm:X.mg x=some (.ref f))(hk:PySem.W.keepIn X.K (.ref f)=true)(hb:Binds X.K fd ps [])(ha:PA X (e::es) (zf (md X) g))(hn:nA n g)
  (hdb:(x==("__debug__":Str))=false:=by decide) (he:starEach (e::es) X.env=(false,eval e X.env)::starEach es X.env:=by rfl) (hpl:(backTo pos (starEach es X.env)).any (·.1)=false:=by rfl):
  PE X (.Call (.Name x p) (e::es) [] pos) (tL (md X) (d0 F g)):=kb (C4 G hr hg hm hk hb .nil Fq ha hdb he hpl) (Im hn)
end
def jQ{α:Type}(xs:List α)(lo hi:Option Int):List α:=(xs.drop (HT.fX xs.length 0 lo)).take (HT.fX xs.length xs.length hi-HT.fX xs.length 0 lo)
def bt.cut3{M:Md}{ρ:List Addr}{H:Hp}{ds:List D}{vs:List V}{lo hi:Option Int}(h:bt M ρ H ds vs):bt M ρ H (jQ ds lo hi) (BI vs lo hi):=by
 unfold jQ BI
 rw[h.length]
 exact(h.drop _).take _
def HL{α:Type}{xs:List α}{lo hi:Option Int}(h1:HT.fX xs.length 0 lo=0)(h2:HT.fX xs.length xs.length hi=xs.length):jQ xs lo hi=xs:=by
 unfold jQ
 rw[h1,h2]
 simp
abbrev KE:=de->aH->Option (Option Int×aH)
def My(M:Md)(f:KE):TO:=fun σ H Q=>∃ρ Γ S o S',Ok M ρ Γ S σ H/\f Γ S=some (o,S')/\∀ρ' H',cK ρ H ρ' H'->gQ M ρ' S' H'->Q o H'
section
variable{X:Cx}{a b c e:Expr}{pos:Pos}{st:Stmt}
def rH:KE:=fun _ S=>some (none,S)
def qJ(f:bH):KE:=fun Γ S=>(f Γ S).bind fun(d,S1)=>match d with
 |.int i=>some (some i,S1)
 |_=>none
def Nt{o:Option Expr}{t t':TO}(h:PO X o t)(w:∀σ H Q,t' σ H Q->t σ H Q):PO X o t':=fun pins s σ H Q I q=>h pins s σ H Q I (w _ _ _ q)
def dY:PO X none (My (md X) rH):=Nt HR fun σ H Q ⟨ρ,Γ,S,o,S',ok,e,q⟩=>by cases e;exact q _ _ cK.refl ok.st
def dX{f:bH}(h:PE X e (tD (md X) f)):PO X (some e) (My (md X) (qJ f)):=Nt (Hv h) fun σ H Q qq=>by
 obtain⟨ρ,Γ,S,o,S',ok,e,q⟩:=qq
 obtain⟨⟨d,S1⟩,e1,e⟩:=aq e
 dsimp only at e
 split at e
 ·obtain⟨rfl,rfl⟩:=cH e
  refine⟨ρ,Γ,S,_,S1,ok,e1,fun ρ' v H' x st r=> ?_⟩
  cases r
  exact⟨_,rfl,q _ _ x st⟩
 ·cases e
noncomputable def qF(f:bH)(lo hi:KE):bH:=fun Γ S=>(f Γ S).bind fun(d,S1)=>(lo Γ S1).bind fun(l,S2)=>(hi Γ S2).bind fun(h,S3)=>match d with
 |.tup ds=>some (.tup (jQ ds l h),S3)
 |_=>none
def cX{lo hi:Option Expr}{p2:Pos}{f:bH}{l h:KE}(he:PE X e (tD (md X) f))(hl:PO X lo (My (md X) l))(hh:PO X hi (My (md X) h)):PE X (.Subscript e (.Slice lo hi none p2) pos) (tD (md X) (qF f l h)):=
 kb (F6 G5 he hl hh) fun σ H Q qq=>by
  obtain⟨ρ,Γ,S,d,S',ok,e,q⟩:=qq
  obtain⟨⟨x,S1⟩,e1,e⟩:=aq e
  obtain⟨⟨l',S2⟩,e2,e⟩:=aq e
  obtain⟨⟨h',S3⟩,e3,e⟩:=aq e
  cases x with
  | tup ds=>
    dsimp only at e
    obtain⟨rfl,rfl⟩:=cH e
    refine⟨ρ,Γ,S,_,S1,ok,e1,fun ρ1 v H1 x1 st1 r1=>⟨ρ1,Γ,S1,l',S2,ok.to x1 st1,e2,fun ρ2 H2 x2 st2=>⟨ρ2,Γ,S2,h',S3,(ok.to x1 st1).to x2 st2,e3,fun ρ3 H3 x3 st3=> ?_⟩⟩⟩
    have x13:=(x1.trans x2).trans x3
    have r3:=r1.ext (x2.trans x3)
    cases r3 with
    | tup ha hs=>
      refine⟨_,_,rfl,hZ.of ha,fun c=> ?_,fun c p hp=> ?_⟩
      · have:jQ ds l' h'=ds:=HL (by rw[hs.length];exact c.1) (by rw[hs.length];exact c.2)
        rw[this] at q
        exact q _ _ _ x13 st3 (.tup ha hs)
      · exact q _ _ _ (x13.trans (cK.laid hp)) (st3.lay hp) (.tup cj (hs.cut3.ext (cK.laid hp)))
  |_=>cases e
open Classical in
def AO(f g:eF):h_:=fun Γ S=>(f Γ S).bind fun(p,S1)=>(g Γ S1).bind fun(r,S2)=>if p.2.isM=true/\r.2.isM=true/\p.2.stays S2 p.1/\p.1.length+r.1.length<=sizeLine then some (p.1++r.1,S2) else none
def An{f g:eF}(ha:PE X a (tQ (md X) f))(hb:PE X b (tQ (md X) g)):PE X (.BinOp a .Add b pos) (tL (md X) (AO f g)):=kb (qM JH ha hb) fun σ H Q qq=>by
 obtain⟨ρ,Γ,S,d,S',ok,e,q⟩:=qq
 obtain⟨⟨⟨ds,t⟩,S1⟩,e1,e⟩:=aq e
 obtain⟨⟨⟨es,t2⟩,S2⟩,e2,e⟩:=aq e
 dsimp only at e
 split at e
 ·rename_i c
  obtain⟨rfl,rfl⟩:=cH e
  refine⟨ρ,Γ,S,ds,t,S1,ok,e1,fun ρ1 a vs H1 x1 st1 h1 r1=>⟨ρ1,Γ,S1,es,t2,S2,ok.to x1 st1,e2,fun ρ2 b ws H2 x2 st2 h2 r2=> ?_⟩⟩
  obtain⟨vs',h3,r3⟩:=h1.to r1 x2 st2 c.2.2.1
  have x12:=x1.trans x2
  refine⟨_,_,vs',ws,rfl,rfl,h3.sqM c.1,h2.sqM c.2.1,by rw[←r3.length,←r2.length];exact c.2.2.2,fun p hp=> ?_⟩
  exact q _ _ _ _ (x12.trans (cK.laid hp)) (st2.lay hp) (x12.grow _ hp) (dR x12 st2 hp) cj ((r3.append r2).ext (cK.laid hp))
 ·cases e
open Classical in
def uX(f:eF)(g:bH):h_:=fun Γ S=>(f Γ S).bind fun(p,S1)=>(g Γ S1).bind fun(r,S2)=>match r with
 |.int k=>if p.2.isM=true/\p.2.stays S2 p.1/\ -(2^63)<=k/\k<2^63/\p.1.length*k.toNat<=sizeLine then some ((List.replicate k.toNat p.1).flatten,S2) else none
 |_=>none
def AE{f:eF}{g:bH}(ha:PE X a (tQ (md X) f))(hb:PE X b (tD (md X) g)):PE X (.BinOp a .Mult b pos) (tL (md X) (uX f g)):=kb (qM Kf ha hb) fun σ H Q qq=>by
 obtain⟨ρ,Γ,S,d,S',ok,e,q⟩:=qq
 obtain⟨⟨⟨ds,t⟩,S1⟩,e1,e⟩:=aq e
 obtain⟨⟨r,S2⟩,e2,e⟩:=aq e
 cases r with
 | int k=>
   dsimp only at e
   split at e
   · rename_i c
     obtain⟨rfl,rfl⟩:=cH e
     refine⟨ρ,Γ,S,ds,t,S1,ok,e1,fun ρ1 a vs H1 x1 st1 h1 r1=>⟨ρ1,Γ,S1,_,S2,ok.to x1 st1,e2,fun ρ2 w H2 x2 st2 r2=> ?_⟩⟩
     obtain⟨vs',h3,r3⟩:=h1.to r1 x2 st2 c.2.1
     have x12:=x1.trans x2
     cases r2
     refine⟨_,k,vs',rfl,rfl,h3.sqM c.1,c.2.2.1,c.2.2.2.1,by rw[←r3.length];exact c.2.2.2.2,fun p hp=> ?_⟩
     exact q _ _ _ _ (x12.trans (cK.laid hp)) (st2.lay hp) (x12.grow _ hp) (dR x12 st2 hp) cj ((r3.rep _).ext (cK.laid hp))
   · cases e
 |_=>cases e
open Classical in
def eqQ(neg:Bool)(f g:eF):bH:=fun Γ S=>(f Γ S).bind fun(p,S1)=>(g Γ S1).bind fun(r,S2)=>if p.2.isL=true/\r.2.isL=true/\p.2.stays S2 p.1 then(ff p.1).bind fun us=>(ff r.1).bind fun vs=>some (.bl (if neg then !rS us vs else rS us vs),S2) else none
def KW{neg:Bool}{f g:eF}:∀σ H Q,tD (md X) (eqQ neg f g) σ H Q->GO (Lx X.K neg) (tQ (md X) f) (tQ (md X) g) σ H Q:=fun σ H Q qq=>by
 obtain⟨ρ,Γ,S,d,S',ok,e,q⟩:=qq
 obtain⟨⟨⟨ds,t⟩,S1⟩,e1,e⟩:=aq e
 obtain⟨⟨⟨es,t2⟩,S2⟩,e2,e⟩:=aq e
 dsimp only at e
 split at e
 ·rename_i c
  obtain⟨us,e3,e⟩:=aq e
  obtain⟨vs,e4,e⟩:=aq e
  obtain⟨rfl,rfl⟩:=cH e
  refine⟨ρ,Γ,S,ds,t,S1,ok,e1,fun ρ1 a as H1 x1 st1 h1 r1=>⟨ρ1,Γ,S1,es,t2,S2,ok.to x1 st1,e2,fun ρ2 b bs H2 x2 st2 h2 r2=> ?_⟩⟩
  obtain⟨as',h3,r3⟩:=h1.to r1 x2 st2 c.2.2
  obtain⟨rfl,f1⟩:=fP r3 e3
  obtain⟨rfl,f2⟩:=fP r2 e4
  exact⟨a,b,as',bs,rfl,rfl,h3.sqL c.1,h2.sqL c.2.1,f1,f2,q _ _ _ (x1.trans x2) st2 (.bl _)⟩
 ·cases e
def Lq{f g:eF}(hu:X.A.units<cLine)(ha:PE X a (tQ (md X) f))(hb:PE X b (tQ (md X) g)):PT X (.Compare a [.NotEq] [b] pos) (tB (md X) (aK (eqQ true f g))):=uc KW (mv (GE hu) ha hb (aR _))
open Classical in
def eB(f:eF):bH:=fun Γ S=>(f Γ S).bind fun(p,S1)=>if p.2.isL=true/\p.2.stays S1 p.1 then some (.bl (!p.1.isEmpty),S1) else none
def G2{f:eF}:∀σ H Q,tD (md X) (eB f) σ H Q->GO (EN X.K) (tQ (md X) f) (tL (md X) (bP au)) σ H Q:=fun σ H Q qq=>by
 obtain⟨ρ,Γ,S,d,S',ok,e,q⟩:=qq
 obtain⟨⟨⟨ds,t⟩,S1⟩,e1,e⟩:=aq e
 dsimp only at e
 split at e
 ·rename_i c
  obtain⟨rfl,rfl⟩:=cH e
  refine⟨ρ,Γ,S,ds,t,S1,ok,e1,fun ρ1 a as H1 x1 st1 h1 r1=>⟨ρ1,Γ,S1,[],S1,ok.to x1 st1,rfl,fun ρ2 b bs H2 x2 st2 fr nr hb r2=> ?_⟩⟩
  obtain⟨as',h3,r3⟩:=h1.to r1 x2 st2 c.2
  cases r2
  refine⟨a,b,as',rfl,rfl,h3.sqL c.1,iK.of hb,?_⟩
  rw[←r3.isEmpty]
  exact q _ _ _ (x1.trans x2) st2 (.bl _)
 ·cases e
def ID:PE X (.List [] pos) (tL (md X) (bP au)):=cP ar
def fV{f:eF}{p:Pos}(hu:X.A.units<cLine)(ha:PE X a (tQ (md X) f)):PT X (.Compare a [.NotEq] [.List [] p] pos) (tB (md X) (aK (eB f))):=uc G2 (mv (Gz hu) ha ID (aR _))
def gQ.putL{M:Md}{ρ:List Addr}{S:aH}{H:Hp}{k:Nat}{a:Addr}{ds es:List D}{ws:List V}(st:gQ M ρ S H)(hk:ρ[k]?=some a)(hS:S[k]?=some (.lst ds))(r:bt M ρ H es ws):gQ M ρ (S.set k (.lst es)) (upd H a (.lst ws))/\cK ρ H ρ (upd H a (.lst ws)):=by
 obtain⟨vs,h1,h2⟩:=st.obj k a _ hk hS
 exact st.put hk hS ⟨ws,cj,r.off h1⟩ fun x hx=>by rw[h1] at hx;cases hx;exact id
noncomputable def rX(m:List D->List D->Option (List D×D))(f:bH)(g:h_):bH:=fun Γ S=>(f Γ S).bind fun(x,S1)=>match x with
 | .ref k=>(g Γ S1).bind fun(ys,S2)=>match S1[k]?,S2[k]? with
   |some (.lst _),some (.lst ds)=>(m ds ys).bind fun(es,d)=>some (d,S2.set k (.lst es))
   |_,_=>none
 |_=>none
def Jy(M:Md)(r:V->List V->Hp->VK->Prop)(m:List D->List D->Option (List D×D)):Prop:=∀{ρ:List Addr} {H:Hp} {a:Addr} {ds ys es:List D} {d:D} {vs us:List V} {Q:VK},H a=some (.lst vs)->bt M ρ H ds vs->bt M ρ H ys us->m ds ys=some (es,d)→
 (∀ws w,bt M ρ H es ws->Rel M ρ H d w->Q w (upd H a (.lst ws)))->r (.ref a) us H Q
def Mg{m:List D->List D->Option (List D×D)}{r:V->List V->Hp->VK->Prop}{f:bH}{g:h_}(ho:Jy (md X) r m):∀σ H Q,tD (md X) (rX m f g) σ H Q->Mk X.K "list" r (tD (md X) f) (zf (md X) g) σ H Q:=fun σ H Q qq=>by
 obtain⟨ρ,Γ,S,d,S',ok,e,q⟩:=qq
 obtain⟨⟨x,S1⟩,e1,e⟩:=aq e
 cases x with
 | ref k=>
   dsimp only at e
   obtain⟨⟨ys,S2⟩,e2,e⟩:=aq e
   dsimp only at e
   split at e
   · rename_i ds0 ds hs1 hs2
     obtain⟨⟨es,d'⟩,e3,e⟩:=aq e
     obtain⟨rfl,rfl⟩:=cH e
     refine⟨ρ,Γ,S,_,S1,ok,e1,fun ρ1 v H1 x1 st1 r1=> ?_⟩
     cases r1 with
     | ref ha=>
       rename_i a
       obtain⟨vs1,g1,_⟩:=st1.obj k a _ ha hs1
       refine⟨.inl ⟨rfl,vs1,iK.of g1⟩,ρ1,Γ,S1,ys,S2,ok.to x1 st1,e2,fun ρ2 us H2 x2 st2 r2=> ?_⟩
       have ha2:=dv x2.pre ha
       obtain⟨vs,h1,h2⟩:=st2.obj k a _ ha2 hs2
       refine ho h1 h2 r2 e3 fun ws w rw rd=> ?_
       obtain⟨st3,x3⟩:=st2.putL ha2 hs2 rw
       exact q _ _ _ ((x1.trans x2).trans x3) st3 (rd.ext x3)
   · cases e
 |_=>cases e
def i8:List D->List D->Option (List D×D):=fun ds ys=>match ys with
 | [y]=>if ds.length<sizeLine then some (ds++ [y],.non) else none
 |_=>none
def Jo{M:Md}:Jy M Ce i8:=by
 intro ρ H a ds ys es d vs us Q h1 h2 h3 e q
 unfold i8 at e
 split at e
 ·split at e
  ·rename_i hl
   obtain⟨rfl,rfl⟩:=cH e
   cases h3 with
   | cons h3 h4=>
     cases h4
     exact⟨a,vs,_,rfl,rfl,h1,by rw[←h2.length];exact hl,q _ _ (h2.append (.cons h3 .nil)) .non⟩
  ·cases e
 ·cases e
def c_{f:bH}{g:bH}{o:Expr}{apos cpos:Pos}(ho:PE X o (tD (md X) f))(ha:PE X e (tD (md X) g))(hbase:attributeBase o "append" X.env (eval o X.env)=eval o X.env:=by rfl) (hfew:((backTo cpos (starEach [e] X.env)).all (fun x=> !x.1)&&(backToKw cpos (keywordEach [] X.env)).all (fun x=>x.1.isSome)
   &&decide ([e].length+([]:List Keyword).length+(if ([]:List Keyword).isEmpty then 0 else 1)<30))=true:=by rfl)
  (hline:(apos.endLine==cpos.line)=true:=by rfl) (hs:starEach [e] X.env= [(false,eval e X.env)]:=by rfl):PE X (.Call (.Attribute o "append" apos) [e] [] cpos) (tD (md X) (rX i8 f (aj g au))):=
 kb (wA PySem.F.plainAttrs_list PySem.F.slot_list_append PySem.F.type_list_append pK ho (ai ha ar hs) hbase hfew hline hs) (Mg Jo)
end
section
variable{X:Cx}{a b c e:Expr}{pos:Pos}{st:Stmt}
noncomputable def nz:List D->List D->Option (List D×D):=fun ds ys=>match ys with
 | [.int i]=>if -(2^63)<=i/\i<2^63 then(seqIndex? i ds.length).bind fun k=>(ds[k]?).bind fun y=>some (ds.eraseIdx k,y) else none
 |_=>none
def Fy{M:Md}:Jy M GI nz:=by
 intro ρ H a ds ys es d vs us Q h1 h2 h3 e q
 unfold nz at e
 split at e
 ·split at e
  ·rename_i i hi
   obtain⟨k,e1,e⟩:=aq e
   obtain⟨y,e2,e⟩:=aq e
   obtain⟨rfl,rfl⟩:=cH e
   cases h3 with
   | cons h3 h4=>
     cases h4
     cases h3
     obtain⟨v,g1,g2⟩:=h2.get e2
     rw[h2.length] at e1
     exact⟨a,vs,i,k,v,rfl,rfl,h1,hi.1,hi.2,e1,g1,q _ _ (h2.eraseIdx k) g2⟩
  ·cases e
 ·cases e
def Cj{f:bH}{g:bH}{o:Expr}{apos cpos:Pos}(ho:PE X o (tD (md X) f))(ha:PE X e (tD (md X) g))(hbase:attributeBase o "pop" X.env (eval o X.env)=eval o X.env:=by rfl) (hfew:((backTo cpos (starEach [e] X.env)).all (fun x=> !x.1)&&(backToKw cpos (keywordEach [] X.env)).all (fun x=>x.1.isSome)
   &&decide ([e].length+([]:List Keyword).length+(if ([]:List Keyword).isEmpty then 0 else 1)<30))=true:=by rfl)
  (hline:(apos.endLine==cpos.line)=true:=by rfl) (hs:starEach [e] X.env= [(false,eval e X.env)]:=by rfl):PE X (.Call (.Attribute o "pop" apos) [e] [] cpos) (tD (md X) (rX nz f (aj g au))):=
 kb (wA PySem.F.plainAttrs_list PySem.F.slot_list_pop PySem.F.type_list_pop FJ ho (ai ha ar hs) hbase hfew hline hs) (Mg Fy)
noncomputable def rR(f:bH)(g:eF):bH:=fun Γ S=>(f Γ S).bind fun(x,S1)=>match x with
 | .ref k=>(g Γ S1).bind fun(p,S2)=>match S1[k]?,S2[k]? with
   |some (.lst _),some (.lst ds)=>if p.2.isM=true/\ds.length+p.1.length<=sizeLine then some (.non,S2.set k (.lst (ds++p.1))) else none
   |_,_=>none
 |_=>none
def Lz{f:bH}{g:eF}:∀σ H Q,tD (md X) (rR f g) σ H Q->Mk X.K "list" CJ (tD (md X) f) (F8 (tQ (md X) g) J8) σ H Q:=fun σ H Q qq=>by
 obtain⟨ρ,Γ,S,d,S',ok,e,q⟩:=qq
 obtain⟨⟨x,S1⟩,e1,e⟩:=aq e
 cases x with
 | ref k=>
   dsimp only at e
   obtain⟨⟨⟨ys,t⟩,S2⟩,e2,e⟩:=aq e
   dsimp only at e
   split at e
   · rename_i ds0 ds hs1 hs2
     split at e
     · rename_i c
       obtain⟨rfl,rfl⟩:=cH e
       refine⟨ρ,Γ,S,_,S1,ok,e1,fun ρ1 v H1 x1 st1 r1=> ?_⟩
       cases r1 with
       | ref ha=>
         rename_i a
         obtain⟨vs1,g1,_⟩:=st1.obj k a _ ha hs1
         refine⟨.inl ⟨rfl,vs1,iK.of g1⟩,ρ1,Γ,S1,ys,t,S2,ok.to x1 st1,e2,fun ρ2 b us H2 x2 st2 h2 r2=> ?_⟩
         have ha2:=dv x2.pre ha
         obtain⟨vs,h3,h4⟩:=st2.obj k a _ ha2 hs2
         refine⟨a,b,vs,us,rfl,rfl,h3,h2.sqM c.1,by rw[←h4.length,←r2.length];exact c.2,?_⟩
         obtain⟨st3,x3⟩:=st2.putL ha2 hs2 (h4.append r2)
         exact q _ _ _ ((x1.trans x2).trans x3) st3 .non
     · cases e
   · cases e
 |_=>cases e
def i7{f:bH}{g:eF}{o:Expr}{apos cpos:Pos}(ho:PE X o (tD (md X) f))(ha:PE X e (tQ (md X) g))(hbase:attributeBase o "extend" X.env (eval o X.env)=eval o X.env:=by rfl) (hfew:((backTo cpos (starEach [e] X.env)).all (fun x=> !x.1)&&(backToKw cpos (keywordEach [] X.env)).all (fun x=>x.1.isSome)
   &&decide ([e].length+([]:List Keyword).length+(if ([]:List Keyword).isEmpty then 0 else 1)<30))=true:=by rfl)
  (hline:(apos.endLine==cpos.line)=true:=by rfl) (hs:starEach [e] X.env= [(false,eval e X.env)]:=by rfl):PE X (.Call (.Attribute o "extend" apos) [e] [] cpos) (tD (md X) (rR f g)):=
 kb (wA PySem.F.plainAttrs_list PySem.F.slot_list_extend PySem.F.type_list_extend D5 ho (dB ha fZ hs) hbase hfew hline hs) Lz
noncomputable def KJ(f g:bH):om:=fun d Γ S=>(f Γ S).bind fun(x,S1)=>(g Γ S1).bind fun(y,S2)=>match x,y with
 | .ref k,.int i=>match S2[k]? with
   |some (.lst ds)=>(Ek ds.length i).bind fun j=>some (Γ,S2.set k (.lst (ds.set j d)))
   |_=>none
 |_,_=>none
def MX{f g:bH}:∀v σ H Q,tG (md X) (KJ f g) v σ H Q->LG (tD (md X) f) (tD (md X) g) IW v σ H Q:=fun v σ H Q qq=>by
 obtain⟨ρ,Γ,S,d,Γ',S',ok,r,e,q⟩:=qq
 obtain⟨⟨x,S1⟩,e1,e⟩:=aq e
 obtain⟨⟨y,S2⟩,e2,e⟩:=aq e
 cases x with
 | ref k=>
   cases y with
   | int i=>
     dsimp only at e
     split at e
     · rename_i ds hs
       obtain⟨j,e3,e⟩:=aq e
       obtain⟨rfl,rfl⟩:=cH e
       refine⟨ρ,Γ,S,_,S1,ok,e1,fun ρ1 v1 H1 x1 st1 r1=>⟨ρ1,Γ,S1,_,S2,ok.to x1 st1,e2,fun ρ2 v2 H2 x2 st2 r2=> ?_⟩⟩
       cases r2
       have r1:=r1.ext x2
       cases r1 with
       | ref ha=>
         obtain⟨vs,h3,h4⟩:=st2.obj k _ _ ha hs
         have x12:=x1.trans x2
         obtain⟨st3,x3⟩:=st2.putL ha hs (bt.set (r.ext x12) j h4)
         exact⟨_,vs,i,j,rfl,rfl,h3,by rw[←h4.length];exact e3,q _ _ _ (x12.trans x3) ((ok.to x12 st2).to x3 st3)⟩
     · cases e
   |_=>cases e
 |_=>cases e
def IE{o i:Expr}{f g:bH}(ho:PE X o (tD (md X) f))(hi:PE X i (tD (md X) g))
  (ha:∀v,assign (.Subscript o i pos) X.env v=(do
   let ov←holding [v] (eval o X.env)
   let iv←holding [v,ov] (eval i X.env)
   standAt pos
   holding [v,ov,iv] (setItem ov iv v)
   release [v,ov,iv] []):=by intro _;rfl):PG X (.Subscript o i pos) (tG (md X) (KJ f g)):=M5 (JN ho hi set_list ha) MX
noncomputable def Ml(f g h:bH):dm:=fun Γ S=>(f Γ S).bind fun(x,S1)=>(g Γ S1).bind fun(y,S2)=>match x,y with
 | .ref k,.int i=>match S2[k]? with
   | some (.lst ds)=>if 0<=i then(ds[i.toNat]?).bind fun z=>(h Γ S2).bind fun(w,S3)=>match z,w,S3[k]? with
     |.int m,.int n,some (.lst es)=>(Ek es.length i).bind fun j=>some (.nx Γ (S3.set k (.lst (es.set j (.int (m+n))))))
     |_,_,_=>none
     else none
   |_=>none
 |_,_=>none
def Jn{o i e:Expr}{f g h:bH}{tpos:Pos}(ho:PE X o (tD (md X) f))(hi:PE X i (tD (md X) g))(he:PE X e (tD (md X) h))
  (ha:∀ov iv new,augStore i ov iv new=(do holding [new,ov,iv] (setItem ov iv new);release [new,ov,iv] [];pure .next):=by intros;rfl):PS X (.AugAssign (.Subscript o i tpos) .Add e pos) (tS (md X) (Ml f g h)):=
 CP (Hq ho hi GK he JY set_list ha) fun D σ H qq=>by
  obtain⟨ρ,Γ,S,o,ok,e,q⟩:=qq
  obtain⟨⟨x,S1⟩,e1,e⟩:=aq e
  obtain⟨⟨y,S2⟩,e2,e⟩:=aq e
  cases x with
  | ref k=>
    cases y with
    | int i=>
      dsimp only at e
      split at e
      · rename_i ds hs
        split at e
        · rename_i hi
          obtain⟨z,e3,e⟩:=aq e
          obtain⟨⟨w,S3⟩,e4,e⟩:=aq e
          cases z with
          | int m=>
            cases w with
            | int n=>
              cases hs3:S3[k]? with
              |none=>rw[hs3] at e;cases e
              | some o3=>
                rw[hs3] at e
                cases o3 with
                | lst es=>
                  dsimp only at e
                  obtain⟨j,e5,e⟩:=aq e
                  cases e
                  refine⟨ρ,Γ,S,_,S1,ok,e1,fun ρ1 v1 H1 x1 st1 r1=>⟨ρ1,Γ,S1,_,S2,ok.to x1 st1,e2,fun ρ2 v2 H2 x2 st2 r2=> ?_⟩⟩
                  cases r2
                  have r1:=r1.ext x2
                  cases r1 with
                  | ref ha=>
                    have x12:=x1.trans x2
                    obtain⟨vs,h3,h4⟩:=st2.obj k _ _ ha hs
                    obtain⟨v,h5,h6⟩:=h4.get e3
                    cases h6
                    refine⟨_,vs,i.toNat,_,rfl,by rw[Int.toNat_of_nonneg hi],iK.of h3,h5,ρ2,Γ,S2,_,S3,ok.to x12 st2,e4,fun ρ3 v3 H3 x3 st3 r3=> ?_⟩
                    cases r3
                    have ha3:=dv x3.pre ha
                    obtain⟨vs3,g3,g4⟩:=st3.obj k _ _ ha3 hs3
                    have x13:=x12.trans x3
                    obtain⟨st4,x4⟩:=st3.putL ha3 hs3 (bt.set (.int (m+n)) j g4)
                    exact⟨m,n,rfl,rfl,_,vs3,i,j,rfl,rfl,g3,by rw[←g4.length];exact e5,q _ _ _ (x13.trans x4) ((ok.to x13 st3).to x4 st4)⟩
                |_=>cases e
            |_=>cases e
          |_=>cases e
        · cases e
      · cases e
    |_=>cases e
  |_=>cases e
def Hj(i j:Nat)(f:h_):dm:=fun Γ S=>(f Γ S).bind fun(ds,S1)=>match ds with
 | [v,w]=>some (.nx ((Γ.set i (some v)).set j (some w)) S1)
 |_=>none
def LW{i j:Nat}{f:h_}(h:PS X st (Ly i j (zf (md X) f))):PS X st (tS (md X) (Hj i j f)):=CP h fun D σ H qq=>by
 obtain⟨ρ,Γ,S,o,ok,e,q⟩:=qq
 obtain⟨⟨ds,S1⟩,e1,e⟩:=aq e
 dsimp only at e
 split at e
 ·cases e
  refine⟨ρ,Γ,S,_,S1,ok,e1,fun ρ' vs H' x st r=> ?_⟩
  cases r with
  | cons r rr=>
    cases rr with
    | cons r' rr=>
      cases rr
      exact⟨_,_,rfl,q _ _ _ x ⟨((ok.en.ext x).set r).set r',st⟩⟩
 ·cases e
end
noncomputable def eP(cells:List (Str×Addr)):List (Str×NameKind)->List (Str×Addr)->List (Str×Addr)
 | [],acc=>acc
 |(n,k)::r,acc=>if (k==.free)=true then eP cells r ((n,(cells.lookup n).getD 0)::acc) else eP cells r acc
theorem qu{env:Env}:∀(names:List (Str×NameKind)) (acc:List (Str×Addr)),(∀y∈names,y.2=.free->(env.cells.lookup y.1).isSome=true)→
  (forIn names acc fun(x:Str×NameKind) (cs:List (Str×Addr))=>(do
   if (x.2==NameKind.free)=true then do
    let c←cellOf env x.1
    pure (ForInStep.yield ((x.1,c)::cs))
   else pure (ForInStep.yield cs):Sem (ForInStep (List (Str×Addr)))))=(pure (eP env.cells names acc):Sem _)
 | [],acc,_=>rfl
 | (n,k)::r,acc,h=>by
   rw[List.forIn_cons]
   unfold eP
   by_cases c:(k==NameKind.free)=true
   · obtain⟨a,ha⟩:=Option.isSome_iff_exists.mp (h (n,k) QBq (by simpa using c))
     simp only[c,if_true]
     have hc:cellOf env n=pure a:=by
       unfold cellOf
       rw[ha]
     rw[hc,pure_bind,pure_bind,ha]
     exact qu r _ fun y hy=>h y (Qpq _ hy)
   · simp only[c,Bool.false_eq_true,if_false]
     rw[pure_bind]
     exact qu r _ fun y hy=>h y (Qpq _ hy)
def E3{scope:Scope}{env:Env}(h:∀y∈scope.names,y.2=.free->(env.cells.lookup y.1).isSome=true):closureFor scope env=pure (eP env.cells scope.names []):=by
 unfold closureFor
 have:=qu scope.names [] h
 rw[bind_pure]
 exact this
theorem uC{cells:List (Str×Addr)}:∀(names:List (Str×NameKind)) (acc:List (Str×Addr)) (p:Str×Addr),p∈eP cells names acc->p∈acc\/∃n,(n,NameKind.free)∈names/\p=(n,(cells.lookup n).getD 0)
 | [],acc,p,h=>.inl h
 | (n,k)::r,acc,p,h=>by
   unfold eP at h
   split at h
   · rename_i c
     rcases uC r _ p h with h|⟨m,h1,h2⟩
     · rcases Qsq.mp h with h|h
       · exact .inr ⟨n,by rw[show k=NameKind.free by simpa using c];exact QBq,h⟩
       · exact .inl h
     · exact .inr ⟨m,Qpq _ h1,h2⟩
   · rcases uC r _ p h with h|⟨m,h1,h2⟩
     · exact .inl h
     · exact .inr ⟨m,Qpq _ h1,h2⟩
theorem uh{cells:List (Str×Addr)}{x:Str}:∀(names:List (Str×NameKind)) (acc:List (Str×Addr)),((x,NameKind.free)∈names\/∃c,(x,c)∈acc)->∃c,(x,c)∈eP cells names acc
 | [],acc,h=>by
   rcases h with h|h
   · cases h
   · exact h
 | (n,k)::r,acc,h=>by
   unfold eP
   split
   · rename_i c
     refine uh r _ ?_
     rcases h with h|⟨c,h⟩
     · rcases Qsq.mp h with h|h
       · cases h;exact .inr ⟨_,QBq⟩
       · exact .inl h
     · exact .inr ⟨c,Qpq _ h⟩
   · rename_i c
     refine uh r _ ?_
     rcases h with h|h
     · rcases Qsq.mp h with h|h
       · cases h;exact absurd rfl c
       · exact .inl h
     · exact .inr h
theorem m7{x:Str}{c:Addr}:∀{l:List (Str×Addr)},(x,c)∈l->∃c',l.lookup x=some c'
 | [],h=>by cases h
 | (n,d)::r,h=>by
   unfold List.lookup
   by_cases e:(x==n)=true
   · rw[e];exact⟨d,rfl⟩
   · have e':(x==n)=false:=by simpa using e
     rw[e']
     rcases Qsq.mp h with h|h
     · cases h;simp at e
     · exact m7 h
noncomputable def uB(N0:List Str)(kindOf:Str->Option NameKind)(names:List (Str×NameKind)):List (Option Nat)->List Str->Bool
 |some j::js,x::N=>(N0[j]? ==some x)&&(kindOf x==some .cell||kindOf x==some .free)&&(names.lookup x==some .free)&&uB N0 kindOf names js N
 |none::js,_::N=>uB N0 kindOf names js N
 |_,_=>true
theorem uT{N0:List Str}{kindOf:Str->Option NameKind}{names:List (Str×NameKind)}:∀{js:List (Option Nat)} {N:List Str} {k j:Nat} {x:Str},uB N0 kindOf names js N=true->js[k]?=some (some j)->N[k]?=some x->N0[j]?=some x/\(kindOf x=some .cell\/kindOf x=some .free)/\names.lookup x=some .free
 | some i::js,y::N,0,j,x,h,h1,h2=>by
   cases h1
   cases h2
   simp only[uB,QCq,Bool.or_eq_true,beq_iff_eq] at h
   exact⟨h.1.1.1,h.1.1.2,h.1.2⟩
 | some i::js,y::N,k+1,j,x,h,h1,h2=>by
   simp only[uB,QCq] at h
   exact uT h.2 (by simpa using h1) (by simpa using h2)
 |none::js,y::N,0,j,x,h,h1,h2=>by cases h1
 |none::js,y::N,k+1,j,x,h,h1,h2=>uT (k:=k) (by simpa [uB] using h) (by simpa using h1) (by simpa using h2)
 | [],N,k,j,x,h,h1,h2=>by simp at h1
 |some i::js,[],k,j,x,h,h1,h2=>by simp at h2
 |none::js,[],k,j,x,h,h1,h2=>by simp at h2
theorem oI{env:Env}{x:Str}:∀{names:List (Str×NameKind)},names.lookup x=some .free->(names.map fun(n,k)=>if (k==NameKind.free&&env.scope.kind==.function&&env.kindOf n==some .cell) then(n,NameKind.cell) else(n,k)).lookup x=some .cell∨
  (names.map fun(n,k)=>if (k==NameKind.free&&env.scope.kind==.function&&env.kindOf n==some .cell) then(n,NameKind.cell) else(n,k)).lookup x=some .free
 | [],h=>by cases h
 | (n,k)::r,h=>by
   unfold List.lookup at h
   rw[QDq]
   by_cases e:(x==n)=true
   · rw[e] at h
     cases h
     dsimp only
     split
     · left;unfold List.lookup;rw[e]
     · right;unfold List.lookup;rw[e]
   · have e':(x==n)=false:=by simpa using e
     rw[e'] at h
     have ih:=oI (env:=env) h
     dsimp only
     split <;>(unfold List.lookup;rw[e'];exact ih)
def aU.gen{X:Cx}{N:List Str}{js:List (Option Nat)}{scope:Scope}(k:scope.kind=.function)(h1:scope.names.all (fun y=>y.2 !=.cell)=true)(h2:scope.names.all (fun y=>y.2 !=.local||scope.names.lookup y.1==some .local)=true)
  (h3:scope.names.all (fun y=>y.2 !=.free||(X.env.cells.lookup y.1).isSome)=true) (h4:uB X.N X.env.kindOf scope.names js N=true) (h5:js.length=N.length):aU X N js scope (eP X.env.cells scope.names []) where
 kind:=k
 nocell:=fun y hy=>by
  have:=QUq.mp h1 y hy
  simpa using this
 names:=fun y hy e=>by
  have:=QUq.mp h2 y hy
  rw[e] at this
  simpa using this
 clos:=E3 fun y hy e=>by
  have:=QUq.mp h3 y hy
  rw[e] at this
  simpa using this
 sub:=fun x c h=>by
  rcases uC _ _ _ (PySem.mem_of_lookup h) with h|⟨n,hn,e⟩
  ·cases h
  ·cases e
   have:=QUq.mp h3 _ hn
   have hs:(X.env.cells.lookup x).isSome=true:=by simpa using this
   obtain⟨c,hc⟩:=Option.isSome_iff_exists.mp hs
   rw[hc]
   rfl
 has:=fun x h=>by
  have key:(x,NameKind.free)∈scope.names:=by
   have:∃k,(relabel scope X.env).names.lookup x=some k/\(k=.cell\/k=.free):=by
    rcases h with h|h
    ·exact⟨_,h,.inl rfl⟩
    ·exact⟨_,h,.inr rfl⟩
   obtain⟨k',hk,hc⟩:=this
   have hm:=PySem.mem_of_lookup hk
   unfold relabel at hm
   obtain⟨⟨n,kk⟩,hy,ey⟩:=Qkq.mp hm
   dsimp only at ey
   split at ey
   ·rename_i c
    cases ey
    simp only[QCq] at c
    have:kk=NameKind.free:=by simpa using c.1.1
    rw[←this]
    exact hy
   ·cases ey
    rcases hc with z|z
    ·have:=QUq.mp h1 _ hy
     rw[z] at this
     simp at this
    ·rw[←z];exact hy
  obtain⟨c,hc⟩:=uh (cells:=X.env.cells) scope.names [] (.inl key)
  exact m7 hc
 cap:=fun k j x hj hn=>by
  obtain⟨a,b,c⟩:=uT h4 hj hn
  refine⟨a,b,?_⟩
  unfold relabel
  exact oI c
 len:=h5
structure fI(P:Program)(w:World)(K:PySem.W.Frag)(mg:Str->Option Value)(base:Heap)(k:Nat)(x:Str)(ps:List Str)(F:dU):Prop where
 ex:∃f fd,bF P w K mg base eE k f fd ps (eT ⟨K,mg⟩ ps.length F)/\Binds K fd ps []/\PySem.W.keepIn K (.ref f)=true/\mg x=some (.ref f)
section
variable{X:Cx}{x:Str}{k n:Nat}{ps:List Str}{F:dU}{e:Expr}{es:List Expr}{g:h_}{p pos:Pos}
def LQ(C:fI X.prog X.w X.K X.mg X.base k x ps F)(hr:fS k X.A)(hg:Gl X x)(ha:PA X (e::es) (zf (md X) g))(hn:nA ps.length g)
  (hdb:(x==("__debug__":Str))=false:=by decide) (he:starEach (e::es) X.env=(false,eval e X.env)::starEach es X.env:=by rfl) (hpl:(backTo pos (starEach es X.env)).any (·.1)=false:=by rfl):
  PE X (.Call (.Name x p) (e::es) [] pos) (tD (md X) (ay F g)):=by
 obtain⟨f,fd,G,b,kp,m⟩:=C.ex
 exact Kl G hr hg m kp b ha hn hdb he hpl
def Lc(C:fI X.prog X.w X.K X.mg X.base k x ps F)(hr:fS k X.A)(hg:Gl X x)(ha:PA X (e::es) (zf (md X) g))(hn:nA ps.length g)
  (hdb:(x==("__debug__":Str))=false:=by decide) (he:starEach (e::es) X.env=(false,eval e X.env)::starEach es X.env:=by rfl) (hpl:(backTo pos (starEach es X.env)).any (·.1)=false:=by rfl):
  PE X (.Call (.Name x p) (e::es) [] pos) (tL (md X) (d0 F g)):=by
 obtain⟨f,fd,G,b,kp,m⟩:=C.ex
 exact Ke G hr hg m kp b ha hn hdb he hpl
end
def fI.mono{P:Program}{w:World}{K:PySem.W.Frag}{mg:Str->Option Value}{base:Heap}{j k:Nat}{x:Str}{ps:List Str}{F:dU}(C:fI P w K mg base j x ps F)(h:j<=k):fI P w K mg base k x ps F:=by
 obtain⟨f,fd,G,b,kp,m⟩:=C.ex
 exact⟨f,fd,G.mono h,b,kp,m⟩
structure Bl(mg:Str->Option Value):Prop where
 len:mg "len"=none
 tuple:mg "tuple"=none
 list:mg "list"=none
 dict:mg "dict"=none
 set:mg "set"=none
 int:mg "int"=none
 str:mg "str"=none
 bool:mg "bool"=none
 all:mg "all"=none
 any:mg "any"=none
 range:mg "range"=none
 zip:mg "zip"=none
 sorted:mg "sorted"=none
 isi:mg "isinstance"=none
 min:mg "min"=none
 max:mg "max"=none
 abs:mg "abs"=none
 enum:mg "enumerate"=none
open AutoSeq1 in
def m9(l:Addr)(items:Array Value)(n:Nat)(b:Addr)(items2:Array Value)(n2:Nat)(dd:Option Addr)(sl:Array (Option Value))(hs0:¬(!items.isEmpty&&Builtin.List.listTooLong (items.size+items2.size))=true)(hs1:items.size<=sizeLine)(hs2:items.size+items2.size<=sizeLine+1):
  Meets (Builtin.«list.extend» ⟨[.ref l,.ref b],[]⟩) (fun _ R s=>s.heap.get? l=some {cls:=.type "list",dict:=none,data:=.seq items n,slots:= #[]}/\s.heap.get? b=some {cls:=.type "tuple",dict:=dd,data:=.seq items2 n2,slots:=sl}/\R (.ok (.ret Value.none)) {s with heap:=s.heap.update l (Obj.mapSeq fun x=>x++items2),toks:=s.toks}):=
 .of_wp fun prog w A R s h=>by
  obtain⟨hp,g,d,tk,os⟩:=s;obtain⟨hl,hb,h⟩:=h;have f1:=idx_int;have f2:=AutoSeq1.sub_tuple_tuple;have f3:=AutoSeq1.sub_list_list;have f4:=AutoSeq1.sub_tuple_list;have f5:=AutoSeq1.sub_list_tuple;
  have hz':(items++items2).size<=sizeLine+1:=by rw[Array.size_append];exact hs2
  wp_walk using (wpAny_updateSeq hl rfl (hz:=hs1) (_hz':=hz')),AutoSeq1.wpAny_loadPart' hl,AutoSeq1.wpAny_loadPart' hb;exact⟨_,rfl,h⟩
section
variable{X:Cx}{a b c e:Expr}{pos:Pos}{st:Stmt}
def HJ:Mm X "list.extend" (fun x vs H Q=>∃l b xs zs,x=.ref l/\vs= [.ref b]/\H l=some (.lst xs)/\hZ X.K H b zs/\xs.length+zs.length<=sizeLine/\Q .non (upd H l (.lst (xs++zs)))):=by
 intro pins s σ H x vs v us Q I rx rv h
 obtain⟨l,b,xs,zs,rfl,rfl,hH,hB,hz,q⟩:=h
 cases rx
 obtain⟨u,rfl,ru⟩:=rv.one
 cases ru
 obtain⟨z,its,n,r,hl,e⟩:=I.lstM hH
 obtain⟨its2,r2,⟨⟨cls,dd,dat,sl⟩,e2,hc,n2,hd⟩,hz2⟩:=I.tuple hB
 have hl2:=r2.length
 simp only at hc hd
 subst hc hd
 have hsz:its.toArray.size+its2.toArray.size<=sizeLine:=by rw[Qjq,Qjq];omega
 have hlong:¬(!its.toArray.isEmpty&&Builtin.List.listTooLong (its.toArray.size+its2.toArray.size))=true:=by
  rw[tY hsz,Bool.and_false]
  exact Qtq
 refine call_meets F.slot_list_extend ⟨_,e,rfl⟩ F.entry_list_extend (F.args_list_extend_2 _ _)
  (m9 l its.toArray n b its2.toArray n2 dd sl hlong (by rw[Qjq];omega) (by omega)) ⟨e,e2,?_⟩
 refine⟨.non,_,I.lset (its':=its++its2) hH e (by simp) (r.append r2) ?_,rfl,q⟩
 rw[lQa]
 omega
noncomputable def v8(f:bH)(g:eF):bH:=fun Γ S=>(f Γ S).bind fun(x,S1)=>match x with
 | .ref k=>(g Γ S1).bind fun(p,S2)=>match S1[k]?,S2[k]? with
   |some (.lst _),some (.lst ds)=>if p.2.isL=false/\ds.length+p.1.length<=sizeLine then some (.non,S2.set k (.lst (ds++p.1))) else none
   |_,_=>none
 |_=>none
def JK{f:bH}{g:eF}:∀σ H Q,tD (md X) (v8 f g) σ H Q->Mk X.K "list" (fun x vs H Q=>∃l b xs zs,x=.ref l/\vs= [.ref b]/\H l=some (.lst xs)/\hZ X.K H b zs/\xs.length+zs.length<=sizeLine/\Q .non (upd H l (.lst (xs++zs)))) (tD (md X) f) (F8 (tQ (md X) g) J8) σ H Q:=fun σ H Q qq=>by
 obtain⟨ρ,Γ,S,d,S',ok,e,q⟩:=qq
 obtain⟨⟨x,S1⟩,e1,e⟩:=aq e
 cases x with
 | ref k=>
   dsimp only at e
   obtain⟨⟨⟨ys,t⟩,S2⟩,e2,e⟩:=aq e
   dsimp only at e
   split at e
   · rename_i ds0 ds hs1 hs2
     split at e
     · rename_i c
       obtain⟨rfl,rfl⟩:=cH e
       refine⟨ρ,Γ,S,_,S1,ok,e1,fun ρ1 v H1 x1 st1 r1=> ?_⟩
       cases r1 with
       | ref ha=>
         rename_i a
         obtain⟨vs1,g1,_⟩:=st1.obj k a _ ha hs1
         refine⟨.inl ⟨rfl,vs1,iK.of g1⟩,ρ1,Γ,S1,ys,t,S2,ok.to x1 st1,e2,fun ρ2 b us H2 x2 st2 h2 r2=> ?_⟩
         have ha2:=dv x2.pre ha
         obtain⟨vs,h3,h4⟩:=st2.obj k a _ ha2 hs2
         refine⟨a,b,vs,us,rfl,rfl,h3,h2.sqT c.1,by rw[←h4.length,←r2.length];exact c.2,?_⟩
         obtain⟨st3,x3⟩:=st2.putL ha2 hs2 (h4.append r2)
         exact q _ _ _ ((x1.trans x2).trans x3) st3 .non
     · cases e
   · cases e
 |_=>cases e
def vL{f:bH}{g:eF}{o:Expr}{apos cpos:Pos}(ho:PE X o (tD (md X) f))(ha:PE X e (tQ (md X) g))(hbase:attributeBase o "extend" X.env (eval o X.env)=eval o X.env:=by rfl) (hfew:((backTo cpos (starEach [e] X.env)).all (fun x=> !x.1)&&(backToKw cpos (keywordEach [] X.env)).all (fun x=>x.1.isSome)
   &&decide ([e].length+([]:List Keyword).length+(if ([]:List Keyword).isEmpty then 0 else 1)<30))=true:=by rfl)
  (hline:(apos.endLine==cpos.line)=true:=by rfl) (hs:starEach [e] X.env= [(false,eval e X.env)]:=by rfl):PE X (.Call (.Attribute o "extend" apos) [e] [] cpos) (tD (md X) (v8 f g)):=
 kb (wA PySem.F.plainAttrs_list PySem.F.slot_list_extend PySem.F.type_list_extend HJ ho (dB ha fZ hs) hbase hfew hline hs) JK
def pq(x:V):List V->Option Nat
 | []=>none
 |y::r=>if jE y x=true then some 0 else(pq x r).map (·+1)
theorem C3{x:V}:∀{xs:List V} {j:Nat},pq x xs=some j->(∃y,xs[j]?=some y/\jE y x=true)/\∀m y,m<j->xs[m]?=some y->jE y x=false
 | [],_,h=>by cases h
 | y::r,j,h=>by
   unfold pq at h
   split at h
   · rename_i c
     cases h
     exact⟨⟨y,rfl,c⟩,fun m _ hm=>absurd hm (Nat.not_lt_zero _)⟩
   · rename_i c
     obtain⟨i,hi,rfl⟩:=oQm.mp h
     obtain⟨⟨z,h1,h2⟩,h3⟩:=C3 hi
     refine⟨⟨z,by simpa using h1,h2⟩,fun m w hm hw=> ?_⟩
     cases m with
     |zero=>cases hw;simpa using c
     |succ m=>exact h3 m w (by omega) (by simpa using hw)
def Fh:Ln X "list.index" (fun x vs H Q=>∃a xs y j,x=.ref a/\vs= [y]/\iK X.K H a xs/\fO y=true/\xs.all fO=true/\pq y xs=some j/\Q (.int (j:Nat)) H):=by
 intro pins s σ H x vs v us Q I rx rv h
 obtain⟨a,xs,y,j,rfl,rfl,hq,fy,fs,hj,q⟩:=h
 cases rx
 obtain⟨u,rfl,ru⟩:=rv.one
 obtain⟨its,r,pl,hz⟩:=I.list hq
 obtain⟨⟨cls,dd,dat,sl⟩,n,e,hc,hdd,hd⟩:=pl
 simp only at hc hdd hd
 subst hc hdd hd
 obtain⟨⟨z,h1,h2⟩,h3⟩:=C3 hj
 have hl:=r.length
 have hjl:j<xs.length:=(gQs.mp h1).1
 obtain⟨w,hw,rw'⟩:=r.get h1
 have hw':its.toArray[j]'(by rw[Qjq];omega)=w:=by
  have:=(gQs.mp hw).2
  simpa using this
 have line:=mi
 refine call_meets PySem.F.slot_list_index ⟨_,e,rfl⟩ PySem.F.entry_list_index (PySem.F.args_list_index_2 _ _)
  (SeqAt.list_indexAt a its.toArray n none sl u (yR y) j (by rw[Qjq];omega) (by omega) (by rw[hw',uM rw' (QUq.mp fs z (mQg h1))];exact h2) fun m hm hlt=> ?_)
  ⟨e,fun w hw=>iW ru fy r fs w (by simpa using hw),⟨.int j,H,I.tok _,⟨_,rfl⟩,q⟩⟩
 have hm':m<xs.length:=by rw[Qjq] at hm;omega
 obtain⟨w2,hw2,rw2⟩:=r.get (gQe hm')
 have e2:its.toArray[m]=w2:=by
  have:=(gQs.mp hw2).2
  simpa using this
 rw[e2,uM rw2 (QUq.mp fs _ (List.getElem_mem hm'))]
 exact h3 m _ hlt (gQe hm')
end
end DL
namespace Zq
open PySem
def It(t:Bool)(h:Heap)(i a:Addr)(k:Nat):Prop:=if t=true then h.IsTupleIter i a k else h.IsListIter i a k
def Sq(t:Bool)(h:Heap)(a:Addr)(xs:Array Value):Prop:=if t=true then h.IsTuple a xs else h.IsList a xs
section
variable{t t2:Bool}{h h':Heap}{i j a b z O T:Addr}{k:Nat}{xs ys:Array Value}
theorem It.at(g:It t h i a k)(f:∀o,h.get? i=some o->h'.get? i=some o):It t h' i a k:=by
 cases t with
 |true=>exact(show h.IsTupleIter i a k from g).at f
 |false=>exact(show h.IsListIter i a k from g).at f
def It.ext{c:Addr}(g:It t h i a k)(f:Heap.ExtBut c h h')(n:i≠c):It t h' i a k:=g.at fun o e=>f i o n e
def Sq.at(g:Sq t h a xs)(f:∀o,h.get? a=some o->h'.get? a=some o):Sq t h' a xs:=by
 cases t with
 |true=>obtain⟨o,e,r⟩:=(show h.IsTuple a xs from g);exact(show h'.IsTuple a xs from⟨o,f o e,r⟩)
 |false=>obtain⟨o,e,r⟩:=(show h.IsList a xs from g);exact(show h'.IsList a xs from⟨o,f o e,r⟩)
def Sq.ext{c:Addr}(g:Sq t h a xs)(f:Heap.ExtBut c h h')(n:a≠c):Sq t h' a xs:=g.at fun o e=>f a o n e
def It.obj(g:It t h i a k):∃o,h.get? i=some o/\∀v,o.data≠.cell v:=by
 cases t with
 |true=>obtain⟨o,e,_,d⟩:=(show h.IsTupleIter i a k from g);exact⟨o,e,fun v n=>by rw[d] at n;cases n⟩
 |false=>obtain⟨o,e,_,d⟩:=(show h.IsListIter i a k from g);exact⟨o,e,fun v n=>by rw[d] at n;cases n⟩
end
section
variable{prog:Program}{w:World}{A:Around}{E:Value->Shared->Prop}{s:Shared}{t t2:Bool}{z T O i j a b:Addr}{k:Nat}{xs ys:Array Value}{x y u v:Value}
def draw{Q:Value->Shared->Prop}(gi:It t s.heap i a k)(ga:Sq t s.heap a xs)(hv:xs[k]?=some v)
  (q:∀h',It t h' i a (k+1)->Heap.SameBut i s.heap h'->Q v {s with heap:=h'}):wpAny (model prog w) A (Builtin.SmallTypes.nextOf (.ref i)) Q E s:=by
 cases t with
 |true=>exact Zp.KU gi ga hv q
 |false=>exact wpAny_nextOf_list_item gi ga hv q
def IY{Q:Value->Shared->Prop}(hA:A.handled=none)(gi:It t s.heap i a k)(ga:Sq t s.heap a xs)(hv:xs[k]?=none)
  (q:∀h' e,Heap.ExtBut i s.heap h'->(∃o,h'.get? e=some o/\o.cls=.type "StopIteration")->E (.ref e) {s with heap:=h'}):wpAny (model prog w) A (Builtin.SmallTypes.nextOf (.ref i)) Q E s:=by
 cases t with
 |true=>exact Zp.K1 hA gi ga hv q
 |false=>exact wpAny_nextOf_list_end hA gi ga hv q
abbrev uU(h:Heap)(z T O:Addr)(f0 f1:Value):Prop:=
 h.get? z=some {cls:=.type "zip",dict:=none,data:=.fields #[f0,f1,.bool false,.ref T,.ref O],slots:= #[]}
def item(D:ZipApart z T O i j a b){Q:Value->Shared->Prop}(gz:uU s.heap z T O .none (.bool false))(gT:IsPair s.heap T (.ref i) (.ref j))(gO:IsPair s.heap O u v)(gi:It t s.heap i a k)(gj:It t2 s.heap j b k)
  (ga:Sq t s.heap a xs) (gb:Sq t2 s.heap b ys) (ex:xs[k]?=some x) (ey:ys[k]?=some y)
  (q:∀h',uU h' z T O (rawInt s.heap.objs.size) (.bool false)->IsPair h' O x y->It t h' i a (k+1)->It t2 h' j b (k+1)->IsPair h' s.heap.objs.size x y->Zp.Rest z O i j s.heap h'->Q (.ref s.heap.objs.size) {s with heap:=h'}):
  wpAny (model prog w) A (Builtin.«zip.__next__» ⟨[.ref z],[]⟩) (fun fin s'=>∃r,fin=.done (.ret r)/\Q r s') E s:=by
 refine(?_:wpAny _ _ (field (.ref z) 2 >>= _) _ _ _)
 refine Qaq (QMq gz rfl (x:=.bool false) rfl ?_)
 refine(?_:wpAny _ _ (field (.ref z) 3 >>= _) _ _ _)
 refine Qaq (QMq gz rfl (x:=.ref T) rfl (Qaq (wpAny_seqItems gT rfl ?_)))
 refine(?_:wpAny _ _ (Builtin.SmallTypes.ownedTupleIsFree (.ref z) >>= _) _ _ _)
 refine Qaq ?_
 unfold Builtin.SmallTypes.ownedTupleIsFree
 refine Qaq (QMq gz rfl (x:=.none) rfl (Qgq ?_))
 simp only[if_true]
 refine Qaq (wpAny_rule (Qaq (QMq gz rfl (x:=.ref O) rfl (Qaq (wpAny_setField_rec gz (by simp) fun h1 z1 b1=> ?_)))))
 replace z1:uU h1 z T O .ellipsis (.bool false):=z1
 refine Qaq ?_
 simp only[List.zipIdx_cons,List.zipIdx_nil,List.forIn_nil,List.forIn_cons]
 refine Qaq (Qaq (wpAny_onRaise ?_))
 refine(?_:wpAny _ _ (Builtin.SmallTypes.nextOf (.ref i) >>= _) _ _ _)
 refine Qaq (draw (gi.ext b1.extBut D.i1z) (ga.ext b1.extBut D.l1z) ex fun h2 i2 b2=>Qgq ?_)
 have O2:IsPair h2 O u v:=b2.extBut _ _ D.TOi1 (b1.extBut _ _ D.TOz gO)
 refine Qaq (wpAny_seqItems O2 rfl (Qaq (wpAny_updateSeq_pair O2 fun h3 O3 b3=>Qaq (wpAny_letGo (Qgq ?_)))))
 replace O3:IsPair h3 O x v:=O3
 refine Qaq (Qaq (wpAny_onRaise ?_))
 refine(?_:wpAny _ _ (Builtin.SmallTypes.nextOf (.ref j) >>= _) _ _ _)
 refine Qaq (draw (((gj.ext b1.extBut D.i2z).ext b2.extBut D.i12.symm).ext b3.extBut D.TOi2.symm) (((gb.ext b1.extBut D.l2z).ext b2.extBut D.l2i1).ext b3.extBut D.l2TO) ey fun h4 j4 b4=>Qgq ?_)
 have O4:IsPair h4 O x v:=b4.extBut _ _ D.TOi2 O3
 refine Qaq (wpAny_seqItems O4 rfl (Qaq (wpAny_updateSeq_pair O4 fun h5 O5 b5=>Qaq (wpAny_letGo (Qgq (Qgq ?_))))))
 replace O5:IsPair h5 O x y:=O5
 refine Qaq (wpAny_seqItems O5 rfl (Qaq (wpAny_newTuple ?_)))
 have sz:h5.objs.size=s.heap.objs.size:=by rw[b5.1,b4.1,b3.1,b2.1,b1.1]
 have z5:uU h5 z T O .ellipsis (.bool false):=b5.extBut _ _ D.TOz.symm (b4.extBut _ _ D.i2z.symm (b3.extBut _ _ D.TOz.symm (b2.extBut _ _ D.i1z.symm z1)))
 have r5:Zp.Rest z O i j s.heap h5:=fun c o c1 c2 c3 c4 e=>b5.extBut _ _ c2 (b4.extBut _ _ c4 (b3.extBut _ _ c2 (b2.extBut _ _ c3 (b1.extBut _ _ c1 e))))
 have i5:It t h5 i a (k+1):=((i2.ext b3.extBut D.TOi1.symm).ext b4.extBut D.i12).ext b5.extBut D.TOi1.symm
 have j5:It t2 h5 j b (k+1):=j4.ext b5.extBut D.TOi2.symm
 have zl:z<h5.objs.size:=Qiq z5
 refine(?_:wpAny _ _ (Builtin.SmallTypes.ownedTupleHandOut (.ref z) (.ref h5.objs.size) >>= _) _ _ _)
 refine Qaq ?_
 unfold Builtin.SmallTypes.ownedTupleHandOut
 have z6:uU (h5.push {cls:=.type "tuple",data:=.seq #[x,y]}) z T O .ellipsis (.bool false):=Qcq _ z5
 refine Qaq (wpAny_setField_rec z6 (by simp) fun h7 z7 b7=> ?_)
 replace z7:uU h7 z T O (rawInt h5.objs.size) (.bool false):=z7
 refine wpAny_setField_rec z7 (by simp) fun h8 z8 b8=> ?_
 replace z8:uU h8 z T O (rawInt h5.objs.size) (.bool false):=z8
 have up:∀c o,c≠z->h5.get? c=some o->h8.get? c=some o:=fun c o c1 e=>b8.extBut _ _ c1 (b7.extBut _ _ c1 (Qcq _ e))
 have n8:IsPair h8 h5.objs.size x y:=b8.extBut _ _ (Nat.ne_of_gt zl) (b7.extBut _ _ (Nat.ne_of_gt zl) (Qrq _ rfl))
 rw[sz] at z8 n8
 refine Qgq ⟨_,rfl,?_⟩
 refine(?_:Q (.ref h5.objs.size) _)
 rw[sz]
 exact q h8 z8 (up _ _ D.TOz O5) (i5.at fun o e=>up _ o D.i1z e) (j5.at fun o e=>up _ o D.i2z e) n8 fun c o c1 c2 c3 c4 e=>up c o c1 (r5 c o c1 c2 c3 c4 e)
def alive{α:Addr}{Q:Option Obj->Shared->Prop}(h:Q (s.heap.get? α) s):wpAny (model prog w) A (loadIfAlive α) Q E s:=fun _ _ _=>h
def again(D:ZipApart z T O i j a b){p:Addr}{op:Obj}{f1:Value}{Q:Value->Shared->Prop}(gz:uU s.heap z T O (rawInt p) f1)(gp:s.heap.get? p=some op)(gT:IsPair s.heap T (.ref i) (.ref j))(gi:It t s.heap i a k)(gj:It t2 s.heap j b k)
  (ga:Sq t s.heap a xs) (gb:Sq t2 s.heap b ys) (ex:xs[k]?=some x) (ey:ys[k]?=some y)
  (q:∀h',uU h' z T O (rawInt p) (.bool true)->It t h' i a (k+1)->It t2 h' j b (k+1)->IsPair h' s.heap.objs.size x y->Zp.Rest z O i j s.heap h'->Q (.ref s.heap.objs.size) {s with heap:=h'}):
  wpAny (model prog w) A (Builtin.«zip.__next__» ⟨[.ref z],[]⟩) (fun fin s'=>∃r,fin=.done (.ret r)/\Q r s') E s:=by
 refine(?_:wpAny _ _ (field (.ref z) 2 >>= _) _ _ _)
 refine Qaq (QMq gz rfl (x:=.bool false) rfl ?_)
 refine(?_:wpAny _ _ (field (.ref z) 3 >>= _) _ _ _)
 refine Qaq (QMq gz rfl (x:=.ref T) rfl (Qaq (wpAny_seqItems gT rfl ?_)))
 refine(?_:wpAny _ _ (Builtin.SmallTypes.ownedTupleIsFree (.ref z) >>= _) _ _ _)
 refine Qaq ?_
 unfold Builtin.SmallTypes.ownedTupleIsFree
 refine Qaq (QMq gz rfl (x:=rawInt p) rfl ?_)
 refine(?_:wpAny _ _ (loadIfAlive ((p:Int).toNat) >>= _) _ _ _)
 refine Qaq ?_
 rw[Int.toNat_natCast]
 refine alive ?_
 rw[gp]
 refine(?_:wpAny _ _ (field (.ref z) 1 >>= _) _ _ _)
 refine Qaq (QMq gz rfl (x:=f1) rfl ?_)
 have st1:wpAny (model prog w) A (if (f1 !=Value.bool true)=true then(do let _←setField (.ref z) 1 (.bool true);pure false) else pure false)
   (fun r s'=>r=false/\∃h0,s'={s with heap:=h0}/\uU h0 z T O (rawInt p) (.bool true)/\Heap.SameBut z s.heap h0) E s:=by
  by_cases c:(f1 !=Value.bool true)=true
  ·rw[Qhq c]
   exact Qaq (wpAny_setField_rec gz (by simp) fun h0 z0 b0=>Qgq ⟨rfl,h0,rfl,z0,b0⟩)
  ·rw[Quq c]
   have e:f1=Value.bool true:=by simpa using c
   subst e
   exact Qgq ⟨rfl,s.heap,rfl,gz,Heap.SameBut.refl _ _⟩
 refine QRq st1 (fun r s' hs'=> ?_) fun _ _ h=>h
 obtain⟨rfl,h0,rfl,z0,b0⟩:=hs'
 simp only[Bool.false_eq_true,if_false]
 refine Qaq ?_
 simp only[List.forIn_toArray,List.forIn_cons,List.forIn_nil]
 refine Qaq (Qaq (QLq ?_))
 refine(?_:wpAny _ _ (Builtin.SmallTypes.nextOf (.ref i) >>= _) _ _ _)
 refine Qaq (draw (gi.ext b0.extBut D.i1z) (ga.ext b0.extBut D.l1z) ex fun h2 i2 b2=>Qgq (Qgq ?_))
 refine Qaq (Qaq (QLq ?_))
 refine(?_:wpAny _ _ (Builtin.SmallTypes.nextOf (.ref j) >>= _) _ _ _)
 refine Qaq (draw ((gj.ext b0.extBut D.i2z).ext b2.extBut D.i12.symm) ((gb.ext b0.extBut D.l2z).ext b2.extBut D.l2i1) ey fun h4 j4 b4=>Qgq (Qgq (Qgq ?_)))
 refine Qaq (wpAny_newTuple ?_ (by show 2<=_;decide))
 have sz:h4.objs.size=s.heap.objs.size:=by rw[b4.1,b2.1,b0.1]
 have up:∀c o,h4.get? c=some o->(h4.push {cls:=.type "tuple",data:=.seq #[x,y]}).get? c=some o:=fun c o e=>Qcq _ e
 have n8:IsPair (h4.push {cls:=.type "tuple",data:=.seq #[x,y]}) h4.objs.size x y:=Qrq _ rfl
 have z8:uU (h4.push {cls:=.type "tuple",data:=.seq #[x,y]}) z T O (rawInt p) (.bool true):=up _ _ (b4.extBut _ _ D.i2z.symm (b2.extBut _ _ D.i1z.symm z0))
 refine Qgq ⟨_,rfl,?_⟩
 refine(?_:Q (.ref h4.objs.size) _)
 rw[sz] at n8⊢
 exact q _ z8 ((i2.ext b4.extBut D.i12).at fun o e=>up _ o e) (j4.at fun o e=>up _ o e) n8 fun c o c1 c2 c3 c4 e=>up c o (b4.extBut _ _ c4 (b2.extBut _ _ c3 (b0.extBut _ _ c1 e)))
def stop(D:ZipApart z T O i j a b){Q:Fin->Shared->Prop}(hA:A.handled=none)(gz:uU s.heap z T O .none (.bool false))(gT:IsPair s.heap T (.ref i) (.ref j))(gi:It t s.heap i a k)(ga:Sq t s.heap a xs)(ex:xs[k]?=none)
  (q:∀h' e,Zp.Rest z O i j s.heap h'->(∃o,h'.get? e=some o/\o.cls=.type "StopIteration")->E (.ref e) {s with heap:=h'}):
  wpAny (model prog w) A (Builtin.«zip.__next__» ⟨[.ref z],[]⟩) Q E s:=by
 refine(?_:wpAny _ _ (field (.ref z) 2 >>= _) _ _ _)
 refine Qaq (QMq gz rfl (x:=.bool false) rfl ?_)
 refine(?_:wpAny _ _ (field (.ref z) 3 >>= _) _ _ _)
 refine Qaq (QMq gz rfl (x:=.ref T) rfl (Qaq (wpAny_seqItems gT rfl ?_)))
 refine(?_:wpAny _ _ (Builtin.SmallTypes.ownedTupleIsFree (.ref z) >>= _) _ _ _)
 refine Qaq ?_
 unfold Builtin.SmallTypes.ownedTupleIsFree
 refine Qaq (QMq gz rfl (x:=.none) rfl (Qgq ?_))
 simp only[if_true]
 refine Qaq (wpAny_rule (Qaq (QMq gz rfl (x:=.ref O) rfl (Qaq (wpAny_setField_rec gz (by simp) fun h1 z1 b1=> ?_)))))
 replace z1:uU h1 z T O .ellipsis (.bool false):=z1
 refine Qaq ?_
 simp only[List.zipIdx_cons,List.zipIdx_nil,List.forIn_nil,List.forIn_cons]
 refine Qaq (Qaq (wpAny_onRaise ?_))
 refine(?_:wpAny _ _ (Builtin.SmallTypes.nextOf (.ref i) >>= _) _ _ _)
 refine Qaq (IY hA (gi.ext b1.extBut D.i1z) (ga.ext b1.extBut D.l1z) ex fun h2 e b2 qr=> ?_)
 obtain⟨oe,he,ce⟩:=qr
 have z2:uU h2 z T O .ellipsis (.bool false):=b2 _ _ D.i1z.symm z1
 have ne:e≠z:=fun n=>by rw[n,z2] at he;cases he;simp at ce
 exact wpAny_setField_rec z2 (by simp) fun h3 _ b3=>q h3 e (fun c o c1 _ c3 _ n=>b3.extBut _ _ c1 (b2 _ _ c3 (b1.extBut _ _ c1 n))) ⟨oe,b3.extBut _ _ ne he,ce⟩
def LJ(D:ZipApart z T O i j a b){p:Addr}{op:Obj}{f1:Value}{Q:Fin->Shared->Prop}(hA:A.handled=none)(gz:uU s.heap z T O (rawInt p) f1)(gp:s.heap.get? p=some op)(gT:IsPair s.heap T (.ref i) (.ref j))(gi:It t s.heap i a k)(ga:Sq t s.heap a xs)(ex:xs[k]?=none)
  (q:∀h' e,Zp.Rest z O i j s.heap h'->(∃o,h'.get? e=some o/\o.cls=.type "StopIteration")->E (.ref e) {s with heap:=h'}):
  wpAny (model prog w) A (Builtin.«zip.__next__» ⟨[.ref z],[]⟩) Q E s:=by
 refine(?_:wpAny _ _ (field (.ref z) 2 >>= _) _ _ _)
 refine Qaq (QMq gz rfl (x:=.bool false) rfl ?_)
 refine(?_:wpAny _ _ (field (.ref z) 3 >>= _) _ _ _)
 refine Qaq (QMq gz rfl (x:=.ref T) rfl (Qaq (wpAny_seqItems gT rfl ?_)))
 refine(?_:wpAny _ _ (Builtin.SmallTypes.ownedTupleIsFree (.ref z) >>= _) _ _ _)
 refine Qaq ?_
 unfold Builtin.SmallTypes.ownedTupleIsFree
 refine Qaq (QMq gz rfl (x:=rawInt p) rfl ?_)
 refine(?_:wpAny _ _ (loadIfAlive ((p:Int).toNat) >>= _) _ _ _)
 refine Qaq ?_
 rw[Int.toNat_natCast]
 refine alive ?_
 rw[gp]
 refine(?_:wpAny _ _ (field (.ref z) 1 >>= _) _ _ _)
 refine Qaq (QMq gz rfl (x:=f1) rfl ?_)
 have st1:wpAny (model prog w) A (if (f1 !=Value.bool true)=true then(do let _←setField (.ref z) 1 (.bool true);pure false) else pure false)
   (fun r s'=>r=false/\∃h0,s'={s with heap:=h0}/\uU h0 z T O (rawInt p) (.bool true)/\Heap.SameBut z s.heap h0) E s:=by
  by_cases c:(f1 !=Value.bool true)=true
  ·rw[Qhq c]
   exact Qaq (wpAny_setField_rec gz (by simp) fun h0 z0 b0=>Qgq ⟨rfl,h0,rfl,z0,b0⟩)
  ·rw[Quq c]
   have e:f1=Value.bool true:=by simpa using c
   subst e
   exact Qgq ⟨rfl,s.heap,rfl,gz,Heap.SameBut.refl _ _⟩
 refine QRq st1 (fun r s' hs'=> ?_) fun _ _ h=>h
 obtain⟨rfl,h0,rfl,z0,b0⟩:=hs'
 simp only[Bool.false_eq_true,if_false]
 refine Qaq ?_
 simp only[List.forIn_toArray,List.forIn_cons,List.forIn_nil]
 refine Qaq (Qaq (QLq ?_))
 refine(?_:wpAny _ _ (Builtin.SmallTypes.nextOf (.ref i) >>= _) _ _ _)
 refine Qaq (IY hA (gi.ext b0.extBut D.i1z) (ga.ext b0.extBut D.l1z) ex fun h2 e b2 he=> ?_)
 exact q h2 e (fun c o c1 _ c3 _ n=>b2 _ _ c3 (b0.extBut _ _ c1 n)) he
def Zs(h:Heap)(z T O i j:Addr):Prop:=uU h z T O .none (.bool false)/\(∃u v,IsPair h O u v)\/∃(p:Addr) (op:Obj) (f1:Value),uU h z T O (rawInt (p:Nat)) f1/\h.get? p=some op/\p≠z/\p≠O/\p≠i/\p≠j
def Zs.but{h h':Heap}{S:Addr}(g:Zs h z T O i j)(f:∀c o,c≠S->h.get? c=some o->h'.get? c=some o)(n1:z≠S)(n2:O≠S)(hS:∃o,h'.get? S=some o):Zs h' z T O i j:=by
 rcases g with⟨gz,u,v,gO⟩|⟨p,op,f1,gz,gp,n⟩
 ·exact .inl ⟨f _ _ n1 gz,u,v,f _ _ n2 gO⟩
 ·by_cases c:p=S
  ·subst c
   obtain⟨o,ho⟩:=hS
   exact .inr ⟨p,o,f1,f _ _ n1 gz,ho,n⟩
  ·exact .inr ⟨p,op,f1,f _ _ n1 gz,f _ _ c gp,n⟩
def Gy(D:ZipApart z T O i j a b){Q:Option Value->Shared->Prop}(gz:Zs s.heap z T O i j)(gT:IsPair s.heap T (.ref i) (.ref j))(gi:It t s.heap i a k)(gj:It t2 s.heap j b k)
  (ga:Sq t s.heap a xs) (gb:Sq t2 s.heap b ys) (ex:xs[k]?=some x) (ey:ys[k]?=some y)
  (q:∀h',Zs h' z T O i j->It t h' i a (k+1)->It t2 h' j b (k+1)->IsPair h' s.heap.objs.size x y->Zp.Rest z O i j s.heap h'->Q (some (.ref s.heap.objs.size)) {s with heap:=h'}):
  wpAny (model prog w) A (pyNext (.ref z)) Q E s:=by
 unfold pyNext
 have lt:∀{c o},s.heap.get? c=some o->s.heap.objs.size≠c:=fun e=>Nat.ne_of_gt (Qiq e)
 obtain⟨oi,ei,_⟩:=gi.obj
 obtain⟨oj,ej,_⟩:=gj.obj
 rcases gz with⟨gz,u,v,gO⟩|⟨p,op,f1,gz,gp,p1,p2,p3,p4⟩
 ·have ty:s.TypeIs (.ref z) "zip":=⟨_,gz,rfl⟩
  exact Qaq (wpAny_attempt (wpAny_callSpecial?_slot (name:=Str.ofString "__next__") ty F.slot_zip_next (wpAny_call_entry F.slot_zip_next ty F.entry_zip_next
   (item D gz gT gO gi gj ga gb ex ey fun h' a1 a2 a3 a4 a5 a6=>Qgq (q h' (.inr ⟨_,_,_,a1,a5,lt gz,lt gO,lt ei,lt ej⟩) a3 a4 a5 a6)) (F.args_zip_next_1 _))))
 ·have ty:s.TypeIs (.ref z) "zip":=⟨_,gz,rfl⟩
  exact Qaq (wpAny_attempt (wpAny_callSpecial?_slot (name:=Str.ofString "__next__") ty F.slot_zip_next (wpAny_call_entry F.slot_zip_next ty F.entry_zip_next
   (again D gz gp gT gi gj ga gb ex ey fun h' a1 a3 a4 a5 a6=>Qgq (q h' (.inr ⟨p,op,_,a1,a6 _ _ p1 p2 p3 p4 gp,p1,p2,p3,p4⟩) a3 a4 a5 a6)) (F.args_zip_next_1 _))))
def zp(D:ZipApart z T O i j a b){Q:Option Value->Shared->Prop}(hA:A.handled=none)(gz:Zs s.heap z T O i j)(gT:IsPair s.heap T (.ref i) (.ref j))(gi:It t s.heap i a k)(ga:Sq t s.heap a xs)(ex:xs[k]?=none)
  (q:∀h',Zp.Rest z O i j s.heap h'->Q none {s with heap:=h'}):wpAny (model prog w) A (pyNext (.ref z)) Q E s:=by
 unfold pyNext
 rcases gz with⟨gz,u,v,gO⟩|⟨p,op,f1,gz,gp,_⟩
 ·have ty:s.TypeIs (.ref z) "zip":=⟨_,gz,rfl⟩
  exact Qaq (wpAny_attempt (wpAny_callSpecial?_slot (name:=Str.ofString "__next__") ty F.slot_zip_next (wpAny_call_entry F.slot_zip_next ty F.entry_zip_next
   (stop D hA gz gT gi ga ex fun h' e r ⟨o,ho,hc⟩=>Qaq (wpAny_isInstance (T:="StopIteration") (b:=true) ⟨o,ho,hc⟩ isSubtype_stop (Qgq (q _ r)))) (F.args_zip_next_1 _))))
 ·have ty:s.TypeIs (.ref z) "zip":=⟨_,gz,rfl⟩
  exact Qaq (wpAny_attempt (wpAny_callSpecial?_slot (name:=Str.ofString "__next__") ty F.slot_zip_next (wpAny_call_entry F.slot_zip_next ty F.entry_zip_next
   (LJ D hA gz gp gT gi ga ex fun h' e r ⟨o,ho,hc⟩=>Qaq (wpAny_isInstance (T:="StopIteration") (b:=true) ⟨o,ho,hc⟩ isSubtype_stop (Qgq (q _ r)))) (F.args_zip_next_1 _))))
end
def Nf(t:Bool):String:=if t=true then "tuple_iterator" else "list_iterator"
abbrev H1(t:Bool)(h:Heap)(a:Addr):Heap:=h.push {cls:=.type (Nf t),data:=.fields #[.ref a,.int 0 0]}
abbrev H2(t t2:Bool)(h:Heap)(a b:Addr):Heap:=(H1 t h a).push {cls:=.type (Nf t2),data:=.fields #[.ref b,.int 0 0]}
abbrev H3(t t2:Bool)(h:Heap)(a b:Addr):Heap:=(H2 t t2 h a b).push {cls:=.type "tuple",data:=.seq #[.ref h.objs.size,.ref (H1 t h a).objs.size]}
abbrev H4(t t2:Bool)(h:Heap)(a b:Addr):Heap:=(H3 t t2 h a b).push {cls:=.type "tuple",data:=.seq #[.none,.none]}
noncomputable abbrev H5(t t2:Bool)(h:Heap)(a b:Addr):Heap:=(H4 t t2 h a b).push {cls:=.type "zip",data:=.fields #[.none,.bool false,.bool false,.ref (H2 t t2 h a b).objs.size,.ref (H3 t t2 h a b).objs.size]}
def Sq.push{t:Bool}{h:Heap}{a:Addr}{xs:Array Value}(g:Sq t h a xs)(o:Obj):Sq t (h.push o) a xs:=g.at fun _ e=>Qcq _ e
def Ec(t t2:Bool)(a b:Addr)(xs ys:Array Value):Meets (Builtin.«zip.__new__» ⟨[.type "zip",.ref a,.ref b],[]⟩) (fun _ R s=>Sq t s.heap a xs/\Sq t2 s.heap b ys/\R (.ok (.ret (.ref (H4 t t2 s.heap a b).objs.size))) {s with heap:=H5 t t2 s.heap a b}):=
 .of_wp fun prog w A R s h=>by
  obtain⟨hp,g,d,tk,os⟩:=s
  obtain⟨ga,gb,h⟩:=h
  have sub:=sub_zip
  have gb':=gb.push {cls:=.type (Nf t),data:=.fields #[.ref a,.int 0 0]}
  cases t <;>cases t2
  ·have la:Heap.IsList (Shared.heap ⟨hp,g,d,tk,os⟩) a xs:=ga
   have lb:Heap.IsList (Shared.heap ⟨hp.push {cls:=.type "list_iterator",data:=.fields #[.ref a,.int 0 0]},g,d,tk,os⟩) b ys:=gb'
   wp_walk using wpAny_pyIter_list la,wpAny_pyIter_list lb
   exact⟨_,rfl,h⟩
  ·have la:Heap.IsList (Shared.heap ⟨hp,g,d,tk,os⟩) a xs:=ga
   have lb:Heap.IsTuple (Shared.heap ⟨hp.push {cls:=.type "list_iterator",data:=.fields #[.ref a,.int 0 0]},g,d,tk,os⟩) b ys:=gb'
   wp_walk using wpAny_pyIter_list la,wpAny_pyIter_tuple lb
   exact⟨_,rfl,h⟩
  ·have la:Heap.IsTuple (Shared.heap ⟨hp,g,d,tk,os⟩) a xs:=ga
   have lb:Heap.IsList (Shared.heap ⟨hp.push {cls:=.type "tuple_iterator",data:=.fields #[.ref a,.int 0 0]},g,d,tk,os⟩) b ys:=gb'
   wp_walk using wpAny_pyIter_tuple la,wpAny_pyIter_list lb
   exact⟨_,rfl,h⟩
  ·have la:Heap.IsTuple (Shared.heap ⟨hp,g,d,tk,os⟩) a xs:=ga
   have lb:Heap.IsTuple (Shared.heap ⟨hp.push {cls:=.type "tuple_iterator",data:=.fields #[.ref a,.int 0 0]},g,d,tk,os⟩) b ys:=gb'
   wp_walk using wpAny_pyIter_tuple la,wpAny_pyIter_tuple lb
   exact⟨_,rfl,h⟩
section
variable{prog:Program}{w:World}{A:Around}{E:Value->Shared->Prop}{s:Shared}
def Iy{t t2:Bool}{a b:Addr}{xs ys:Array Value}{Q:Value->Shared->Prop}(ga:Sq t s.heap a xs)(gb:Sq t2 s.heap b ys)
  (q:∀h',uU h' (s.heap.objs.size+4) (s.heap.objs.size+2) (s.heap.objs.size+3) .none (.bool false)->IsPair h' (s.heap.objs.size+2) (.ref s.heap.objs.size) (.ref (s.heap.objs.size+1))->IsPair h' (s.heap.objs.size+3) .none .none→
   It t h' s.heap.objs.size a 0->It t2 h' (s.heap.objs.size+1) b 0->(∀c o,s.heap.get? c=some o->h'.get? c=some o)->Q (.ref (s.heap.objs.size+4)) {s with heap:=h'}):
  wpAny (model prog w) A (call (.type "zip") [.ref a,.ref b]) Q E s:=by
 refine callType_new F.called_zip (by decide) (F.typeCall_zip_2 _ _) (F.newCall_zip_2 _ _) (fun obj=>F.args_object_init_3 obj _ _) F.entry_zip_new (Ec t t2 a b xs ys) ⟨ga,gb,?_⟩
 have e1:(H1 t s.heap a).objs.size=s.heap.objs.size+1:=Heap.size_push ..
 have e2:(H2 t t2 s.heap a b).objs.size=s.heap.objs.size+2:=by rw[Heap.size_push,e1]
 have e3:(H3 t t2 s.heap a b).objs.size=s.heap.objs.size+3:=by rw[Heap.size_push,e2]
 have e4:(H4 t t2 s.heap a b).objs.size=s.heap.objs.size+4:=by rw[Heap.size_push,e3]
 have k5:(H5 t t2 s.heap a b).get? (H4 t t2 s.heap a b).objs.size=some _:=Qrq _ rfl
 have k4:(H5 t t2 s.heap a b).get? (H3 t t2 s.heap a b).objs.size=some _:=Qcq _ (Qrq _ rfl)
 have k3:(H5 t t2 s.heap a b).get? (H2 t t2 s.heap a b).objs.size=some _:=Qcq _ (Qcq _ (Qrq _ rfl))
 have k2:(H5 t t2 s.heap a b).get? (H1 t s.heap a).objs.size=some _:=Qcq _ (Qcq _ (Qcq _ (Qrq _ rfl)))
 have k1:(H5 t t2 s.heap a b).get? s.heap.objs.size=some _:=Qcq _ (Qcq _ (Qcq _ (Qcq _ (Qrq _ rfl))))
 refine(?_:_/\_)
 rw[e2,e3,e4] at k5
 rw[e1,e2] at k3
 rw[e3] at k4
 rw[e1] at k2
 rw[e4]
 refine⟨⟨_,k5,rfl⟩,q _ k5 k3 k4 ?_ ?_ fun c o n=>Qcq _ (Qcq _ (Qcq _ (Qcq _ (Qcq _ n))))⟩
 ·cases t <;>exact⟨_,k1,rfl,rfl⟩
 ·cases t2 <;>exact⟨_,k2,rfl,rfl⟩
end
def pV:typeLookup (.type "zip") "__getattr__"=pure none:=by rw[typeLookup_type,builtinLookup_eq_fast];kernel_rfl
def kG:entryFor table "zip.__getattribute__"=some Builtin.«object.__getattribute__»:=
 entryFor_alias (id':="object.__getattribute__") (by kernel_rfl) (by decide +kernel) (by decide +kernel) (by kernel_rfl)
def rG:typeLookup (Value.type "zip") (Str.ofString "keys")=pure none:=by
 rw[typeLookup_type,builtinLookup_eq_fast]
 rfl
def sX(a:Addr)(fs:Array Value)(name:Str)(u:Tok)(hmiss:typeLookup (.type "zip") name=pure none)(hname:(["__module__","__name__","__qualname__","__doc__","__annotations__"]:List Str).contains name=false)(hsz:name.length+100<=sizeLine:=by size_fits):
  Meets (Builtin.«object.__getattribute__» ⟨[.ref a,.str name u],[]⟩) (fun A R s=>s.heap.get? a=some {cls:=.type "zip",dict:=none,data:=.fields fs,slots:= #[]}/\raisesAttr (.ref a) name A R s):=
 Meets.of_wp fun prog w A R s hs=>by
  obtain⟨hp,g,d,tk,os⟩:=s
  obtain⟨hx,hs⟩:=hs
  have hT:(⟨hp,g,d,tk,os⟩:Shared).TypeIs (.ref a) "zip":=⟨_,hx,rfl⟩
  unfold Builtin.«object.__getattribute__»
  repeat (any_goals (first|assumption|wp_step))
  simp only[hname,Bool.false_eq_true,if_false]
  repeat (any_goals (first|assumption|wp_step))
  exact wpAny_raiseAttrError hs.1 hs.2 (attrMsg_fits (by decide +kernel) hsz)
def D6{prog:Program}{w:World}{A:Around}{E:Value->Shared->Prop}{s:Shared}{a:Addr}{fs:Array Value}{Q:Option Value->Shared->Prop}
  (hx:s.heap.get? a=some {cls:=.type "zip",dict:=none,data:=.fields fs,slots:= #[]}) (hA:A.handled=none)
  (h:∀(h':Heap) (tk:Nat),(∀b o,s.heap.get? b=some o->h'.get? b=some o)->Q none {s with heap:=h',toks:=tk}):
  wpAny (model prog w) A (getAttr? (.ref a) (Str.ofString "keys")) Q E s:=by
 obtain⟨hp,g,d,tk,os⟩:=s
 have hT:∀x,Shared.TypeIs ⟨hp,g,d,x,os⟩ (.ref a) "zip":=fun x=>⟨_,hx,rfl⟩
 have f1:=sub_AttributeError
 have f3:=F.slot_zip_getattribute.lookup
 have f4:=F.slot_zip_getattribute.bind (Value.ref a)
 have f5:=pV
 unfold getAttr? mkText getAttrBy? getAttrBy
 refine Qaq (Qaq (wpAny_fresh' (Qgq (Qaq (wpAny_attempt (QLq ?_))))))
 unfold typeOf
 refine Qaq (Qaq (wpAny_loadPart' hx (Qgq (Qaq (wpAny_of_eq f3 (wpAny_ite_false rfl ?_))))))
 unfold getAttrByItsOwn hookBefore
 refine Qaq (wpAny_ite_false rfl (Qgq (Qaq (wpAny_attempt (QLq ?_)))))
 unfold callGetattribute
 refine wpAny_ite_false rfl ?_
 unfold boundAndCalled
 refine Qaq (wpAny_of_eq f4 ?_)
 refine call_meets F.slot_zip_getattribute (hT (tk+1)) kG (F.args_zip_getattribute_2 (Value.ref a) _) (sX a fs (Str.ofString "keys") tk rG (by decide +kernel) (by decide +kernel)) ⟨hx,hA,fun h' tk' e hx'=> ?_⟩
 obtain⟨t',u',he⟩:=hx'.there
 have hE:Shared.TypeIs ⟨h',g,d,tk',os⟩ (.ref e) "AttributeError":=⟨_,he,rfl⟩
 show wpAny _ _ (getattributeRaised _ _ _ _ _ _ _) _ _ _
 unfold getattributeRaised
 refine Qaq (wpAny_isInstance hE f1 (wpAny_ite_true rfl ?_))
 unfold hookBehind hookOrError
 refine Qaq (wpAny_ite_false rfl (wpAny_of_eq f5 ?_))
 show wpAny _ _ (attributeErrorLeaves _ _ _ _ _) _ _ _
 unfold attributeErrorLeaves
 refine wpAny_ite_true rfl (wpAny_throw ?_)
 exact Qaq (wpAny_isInstance hE f1 (wpAny_ite_true rfl (Qgq (h h' tk' hx'.keeps))))
def vb{prog:Program}{w:World}{A:Around}{E:Value->Shared->Prop}{s:Shared}{z:Addr}{fs:Array Value}{Q:Value->Shared->Prop}
  (hx:s.heap.get? z=some {cls:=.type "zip",dict:=none,data:=.fields fs,slots:= #[]}) (hA:A.handled=none)
  (h:∀(h':Heap) (tk:Nat),(∀b o,(s.heap.push {cls:=.type "dict",data:=.dict #[]}).get? b=some o->h'.get? b=some o)→
   wpAny (model prog w) A.in1.in1 (pyIter (.ref z)) (fun it s'=>codeAny (model prog w) A.in1 (.builtin "dict.update.loop" {pos:= [.ref s.heap.objs.size,it,rawInt 0,.none]}) (wants (fun r s₂=>r=.none/\Q (.ref s.heap.objs.size) s₂) E) s') E {s with heap:=h',toks:=tk}):
  wpAny (model prog w) A (call (.type "dict") [.ref z]) Q E s:=by
 refine Dk.zO ?_
 have hS:=Qrq s.heap (o:={cls:=.type "dict",data:=.dict #[]}) rfl
 have hT:Shared.TypeIs {s with heap:=s.heap.push {cls:=.type "dict",data:=.dict #[]}} (.ref s.heap.objs.size) "dict":=⟨_,hS,rfl⟩
 have hx1:=Qcq {cls:=.type "dict",data:=.dict #[]} hx
 have hL:Shared.TypeIs {s with heap:=s.heap.push {cls:=.type "dict",data:=.dict #[]}} (.ref z) "zip":=⟨_,hx1,rfl⟩
 unfold Builtin.«dict.__init__» Builtin.Dict.selfAndRest
 refine Qaq (Qaq (wpAny_notOrdered_dict hT ?_))
 refine Qaq (Qgq (Qgq ?_))
 show wpAny _ _ (Builtin.Dict.updateFrom _ _ _ _ _) _ _ _
 unfold Builtin.Dict.updateFrom
 refine Qaq (wpAny_typeOf hL (wpAny_ite_true (by decide +kernel) (Qaq (D6 hx1 (by simpa using hA) fun h' tk hk=> ?_))))
 refine wpAny_ite_true rfl ?_
 refine Qaq (wpAny_rule (Qaq (QRq (h h' tk hk) (fun it s' q=> ?_) fun e s' q=>q)))
 exact Qgq ⟨plainId_quiet (by decide +kernel) _,q⟩
end Zq
namespace Zq
open PySem Dk
section
variable{prog:Program}{w:World}{K:Type}[DecidableEq K]{knd:KeyKind prog w K}{z T O i j a b S:Addr}{t t2:Bool}{xs ys:Array Value}
def BQ{A:Around}{R:Result->Shared->Prop}(hA:A.in1.handled=none)(D:ZipApart z T O i j a b)(nS:S≠z/\S≠T/\S≠O/\S≠i/\S≠j/\S≠a/\S≠b)(nab:a≠T/\b≠T)(kk:Nat->K)(hkey:∀(n:Nat) v,xs[n]?=some v->knd.is (kk n) v=true)(hxy:xs.size<=ys.size)(hn:xs.size<=sizeLine):
  ∀ (m n:Nat) (c:Int) (s:Shared),xs.size-n=m->n<=xs.size->Zs s.heap z T O i j->IsPair s.heap T (.ref i) (.ref j)->It t s.heap i a n->It t2 s.heap j b n->Sq t s.heap a xs->Sq t2 s.heap b ys->Heap.DictOf knd s.heap S (J4 kk (fun n=>ys.getD n .none) n)→
    (∀h' tk,Heap.DictOf knd h' S (J4 kk (fun n=>ys.getD n .none) xs.size)->(∀c o,c≠z->c≠O->c≠i->c≠j->c≠S->s.heap.get? c=some o->h'.get? c=some o)->R (.ok (.ret .none)) {s with heap:=h',toks:=tk})→
    codeAny (model prog w) A (.builtin "dict.update.loop" {pos:= [.ref S,.ref z,rawInt c,.none]}) R s:=by
 obtain⟨n1,n2,n3,n4,n5,n6,n7⟩:=nS
 intro m
 induction m with
 | zero=>
   intro n c s hm hle gz gT gi gj ga gb hd h
   have e:n=xs.size:=by omega
   subst e
   refine codeAny_builtin kW ?_
   rw[Around.under_plainId ib]
   show wpAny _ _ (do let __x←pyNext (.ref z);_) _ _ _
   refine Qaq (zp D hA gz gT gi ga (by simp) fun h' r=> ?_)
   refine Qaq (Qgq (Qgq (h h' s.toks ?_ fun c o c1 c2 c3 c4 _ e=>r c o c1 c2 c3 c4 e)))
   obtain⟨o,es,ep,h1,h2⟩:=hd
   exact⟨o,es,ep,r _ _ n1 n3 n4 n5 h1,h2⟩
 | succ m ih=>
   intro n c s hm hle gz gT gi gj ga gb hd h
   have hlt:n<xs.size:=by omega
   have ex:xs[n]?=some xs[n]:=by simp[hlt]
   have ey:ys[n]?=some ys[n]:=by simp[show n<ys.size by omega]
   refine codeAny_builtin kW ?_
   rw[Around.under_plainId ib]
   show wpAny _ _ (do let __x←pyNext (.ref z);_) _ _ _
   refine Qaq (Gy D gz gT gi gj ga gb ex ey fun hp gz' gi' gj' gp r=> ?_)
   have hd':Heap.DictOf knd hp S (J4 kk (fun n=>ys.getD n .none) n):=by
     obtain⟨o,es,ep,h1,h2⟩:=hd
     exact⟨o,es,ep,r _ _ n1 n3 n4 n5 h1,h2⟩
   refine Qaq (QLq (Qaq (wpAny_tryCatch ?_)))
   unfold Builtin.Dict.pairItems
   refine Qaq (wpAny_typeOf (T:="tuple") ⟨_,gp,rfl⟩ (wpAny_ite_true rfl (Qaq ?_)))
   unfold seqItems?
   refine Qaq (wpAny_load' gp (Qgq (Qgq (QLq (wpAny_dictSet_pairs (hkey n _ ex) hd' (fun h' hd2 hs=> ?_) (QAq (CA kk _ n) (by omega)))))))
   have ev:ys.getD n .none=ys[n]:=by simp[Array.getD,show n<ys.size by omega]
   have up:∀c o,c≠S->hp.get? c=some o->h'.get? c=some o:=fun c o hc e=>by rw[hs.2 c hc];exact e
   have old:∀c o,c≠z->c≠O->c≠i->c≠j->c≠S->s.heap.get? c=some o->h'.get? c=some o:=fun c o c1 c2 c3 c4 c5 e=>up c o c5 (r c o c1 c2 c3 c4 e)
   have hS':∃o,h'.get? S=some o:=by obtain⟨o,_,_,e,_⟩:=hd2;exact⟨o,e⟩
   have hd3:Heap.DictOf knd h' S (J4 kk (fun n=>ys.getD n .none) (n+1)):=by
     show Heap.DictOf knd h' S (stored _ (kk n) (ys.getD n .none))
     rw[ev]
     exact hd2
   refine Qgq ⟨plainId_quiet ib _,ih (n+1) (c+1) _ (by omega) hlt (gz'.but up n1.symm n3.symm hS') ?_ (gi'.at fun o e=>up _ o n4.symm e) (gj'.at fun o e=>up _ o n5.symm e) ?_ ?_ hd3 fun h'' tk hd4 k4=>h h'' tk hd4 fun c o c1 c2 c3 c4 c5 e=>k4 c o c1 c2 c3 c4 c5 (old c o c1 c2 c3 c4 c5 e)⟩
   · exact old _ _ D.TIz D.TITO D.TIi1 D.TIi2 n2.symm gT
   · exact ga.at fun o e=>old _ o D.l1z D.l1TO D.l1i1 D.l1i2 n6.symm e
   · exact gb.at fun o e=>old _ o D.l2z D.l2TO D.l2i1 D.l2i2 n7.symm e
end
end Zq
namespace L2
open PySem PySem.Spec PyProof.Rows Zq
section
variable{X:Cx}
def D0(K:PySem.W.Frag)(t:Bool)(H:Hp)(a:Addr)(xs:List V):Prop:=if t=true then hZ K H a xs else iK K H a xs
def Inv.sq{pins:List (Addr×Obj)}{σ:St}{H:Hp}{s:Shared}{t:Bool}{a:Addr}{xs:List V}(I:Inv X pins σ H s)(h:D0 X.K t H a xs):∃its:List Value,bM xs its/\Sq t s.heap a its.toArray/\xs.length<=sizeLine:=by
 cases t with
 | true=>
   obtain⟨its,r,p,z⟩:=I.tuple h
   exact⟨its,r,(show s.heap.IsTuple a its.toArray from p),z⟩
 | false=>
   obtain⟨its,r,p,z⟩:=I.list h
   exact⟨its,r,(show s.heap.IsList a its.toArray from p.isList),z⟩
def Sq.lt{t:Bool}{h:Heap}{a:Addr}{xs:Array Value}(g:Sq t h a xs):a<h.objs.size:=by
 cases t with
 |true=>obtain⟨o,e,_⟩:=(show h.IsTuple a xs from g);exact Qiq e
 |false=>obtain⟨o,e,_⟩:=(show h.IsList a xs from g);exact Qiq e
def Jl(K:PySem.W.Frag):List V->Hp->VK->Prop:=fun vs H Q=>∃(t t2:Bool) (a b:Addr) (ks:List Key) (ys:List V),vs= [.ref a,.ref b]/\D0 K t H a (ks.map kV)/\D0 K t2 H b ys/\ks.length=ys.length/\∀p,H p=none->Q (.ref p) (upd H p (.dK (kF [] (ks.zip ys))))
def A3{x y:Expr}{ta:TA}{p1 p2 c1 c2:Pos}(hc:X.calm=true)(hgD:Gl X "dict")(hmD:X.mg "dict"=none)(hg:Gl X "zip")(hm:X.mg "zip"=none)(ha:PA X [x,y] ta)(hs:starEach [x,y] X.env= [(false,eval x X.env),(false,eval y X.env)]:=by rfl)(hs2:starEach [y] X.env= [(false,eval y X.env)]:=by rfl)
  (he:starEach [Expr.Call (.Name "zip" p2) [x,y] [] c2] X.env= [(false,eval (Expr.Call (.Name "zip" p2) [x,y] [] c2) X.env)]:=by rfl):
  PE X (.Call (.Name "dict" p1) [.Call (.Name "zip" p2) [x,y] [] c2] [] c1) (Mi (Jl X.K) ta):=by
 intro pins s σ H Q I h
 refine wpAny_Call_Name_kw (nc I hgD hmD (by rfl) ?_)
 refine PyProof.Rows.callWith_type1 ?_ he rfl
 rw[he]
 show wpAny _ _ (spliced ((false,eval (Expr.Call (.Name "zip" p2) [x,y] [] c2) X.env)::backTo c1 (starEach [] X.env))) _ _ s
 refine Calls.spliced_cons ?_
 refine wpAny_Call_Name_kw (nc I hg hm (by rfl) ?_)
 refine PyProof.Rows.callWith_type1 (di (ha c2 pins s σ H _ I h) fun us s1 ⟨vs,H1,I1,r1,q1⟩=> ?_) (by rw[hs,hs2]) (by rw[hs2];rfl)
 obtain⟨t,t2,a,b,ks,ys,e,qa,qb,hl,q⟩:=q1
 subst e
 cases r1 with
 | cons r rr=>
   cases rr with
   | cons r' rr=>
     cases rr
     cases r
     cases r'
     obtain⟨its,ra,pa,za⟩:=I1.sq qa
     obtain⟨jts,rb,pb,zb⟩:=I1.sq qb
     have lx:=Sq.lt pa
     have ly:=Sq.lt pb
     have la:=ra.length
     have lb:=rb.length
     rw[lQm] at la
     refine Zq.Iy pa pb fun h1 gz gT gO gi gj k1=>Calls.spliced_nil ?_
     have I2:Inv X pins σ H1 {s1 with heap:=h1}:=I1.kept (t':=s1.toks) k1
     refine Zq.vb gz (I1.ok.hd hc) fun h2 tk k2=> ?_
     have up:∀c o,h1.get? c=some o->h2.get? c=some o:=fun c o e=>k2 c o (Qcq _ e)
     have hS0:h2.get? h1.objs.size=some {cls:=.type "dict",data:=.dict #[]}:=k2 _ _ (Qrq h1 rfl)
     refine wpAny_pyIter_zip (up _ _ gz) ?_
     have DD:=PyProof.Rows.zipApart_new lx ly
     have hz1:s1.heap.objs.size+4<h1.objs.size:=Qiq gz
     have kvD:∀(n:Nat) k,ks[n]?=some k->ks.getD n (.inl 0)=k:=fun n k e=>by rw[Qlq,e];rfl
     have off:∀c,c<s1.heap.objs.size->c≠s1.heap.objs.size+4/\c≠s1.heap.objs.size+3/\c≠s1.heap.objs.size/\c≠s1.heap.objs.size+1/\c≠h1.objs.size:=fun c hc=>
       ⟨Qwq (Qqq hc (Nat.le_add_right _ _)),Qwq (Qqq hc (Nat.le_add_right _ _)),Qwq hc,Qwq (Qqq hc (Nat.le_add_right _ _)),Qwq (Nat.lt_trans (Qqq hc (Nat.le_add_right _ 4)) hz1)⟩
     refine Zq.BQ (knd:=cq X.prog X.w) (t:=t) (t2:=t2) (xs:=its.toArray) (ys:=jts.toArray) (show X.A.in1.in1.handled=none from I1.ok.hd hc) DD ?_ ?_ (fun n=>ks.getD n (.inl 0)) ?_ (by simp;omega) (by simp;omega) its.toArray.size 0 0 _ rfl (Nat.zero_le _)
       (.inl ⟨up _ _ gz,_,_,up _ _ gO⟩) (up _ _ gT) (gi.at fun o e=>up _ o e) (gj.at fun o e=>up _ o e) (pa.at fun o e=>up _ o (k1 _ o e)) (pb.at fun o e=>up _ o (k1 _ o e)) ?_ ?_
     · refine⟨Nat.ne_of_gt hz1,Nat.ne_of_gt (Nat.lt_trans ?_ hz1),Nat.ne_of_gt (Nat.lt_trans ?_ hz1),Nat.ne_of_gt (Nat.lt_trans ?_ hz1),Nat.ne_of_gt (Nat.lt_trans ?_ hz1),(off _ lx).2.2.2.2.symm,(off _ ly).2.2.2.2.symm⟩ <;>(show _<s1.heap.objs.size+4) <;>omega
     · exact⟨Qwq (Qqq lx (Nat.le_add_right _ _)),Qwq (Qqq ly (Nat.le_add_right _ _))⟩
     · intro n v hv
       have hv':its[n]?=some v:=by simpa using hv
       have hn:n<ks.length:=by
         have:=(gQs.mp hv').1
         omega
       have hk:=gQe hn
       obtain⟨u,hu,ru⟩:=ra.get (i:=n) (x:=kV ks[n]) (by rw[gQm,hk];rfl)
       rw[hv'] at hu
       cases hu
       show(cq X.prog X.w).is (ks.getD n (.inl 0)) v=true
       rw[kvD n _ hk]
       exact key_is ru _ _
     · obtain⟨o,es,ep,e1,e2⟩:=Heap.DictOf.new (knd:=cq X.prog X.w) h1
       exact⟨o,es,ep,k2 _ _ e1,e2⟩
     · intro h3 tk3 dd k3
       have big:h1.objs.size≠sysModules:=by
         have:=I2.big
         exact Nat.ne_of_gt this
       have le:s1.heap.objs.size<=h1.objs.size:=nQl (Nat.lt_of_le_of_lt (Nat.le_add_right _ 4) hz1)
       refine⟨rfl,.ref h1.objs.size,_,I1.laid (a:=h1.objs.size) (o:=.dK (kF [] (ks.zip ys))) (t':=tk3) (h':=h3) (fun c o e=> ?_) le (ub ?_ (beq_eq_false_iff_ne.mpr big) ?_ dd),rfl,q _ (I1.hok.fresh le)⟩
       · obtain⟨o1,o2,o3,o4,o5⟩:=off c (Qiq e)
         exact k3 c o o1 o2 o3 o4 o5 (up c o (k1 c o e))
       · have:=jC (ks.zip ys) []
         rw[QGq,List.length_zip] at this
         omega
       · have key:∀n,n<=ks.length->KV (kF [] ((ks.zip ys).take n)) (Dk.J4 (fun n=>ks.getD n (.inl 0)) (fun n=>jts.toArray.getD n .none) n):=by
           intro n
           induction n with
           |zero=>intro _;exact .nil
           | succ n ih=>
             intro hn
             have hk:=gQe (l:=ks) (i:=n) (by omega)
             have hy:=gQe (l:=ys) (i:=n) (by omega)
             obtain⟨u,hu,ru⟩:=rb.get hy
             have ez:(ks.zip ys)[n]?=some (ks[n],ys[n]):=by rw[List.getElem?_zip_eq_some];exact⟨hk,hy⟩
             have e3:(ks.zip ys).take (n+1)=(ks.zip ys).take n++ [(ks[n],ys[n])]:=by rw[QYq,ez];rfl
             have eu:jts.toArray.getD n .none=u:=by
               have:=(gQs.mp hu)
               obtain⟨h1,h2⟩:=this
               simp[Array.getD,h1,h2]
             rw[e3]
             show KV (List.foldl _ [] ((ks.zip ys).take n++ [(ks[n],ys[n])])) (stored _ (ks.getD n (.inl 0)) (jts.toArray.getD n .none))
             rw[List.foldl_append,kvD n _ hk,eu]
             exact(ih (by omega)).put ks[n] ru
         have:=key ks.length (Qmq _)
         have e4:(ks.zip ys).take ks.length=ks.zip ys:=by
           have:(ks.zip ys).length=ks.length:=by rw[List.length_zip];omega
           rw[←this,QEq]
         rw[e4] at this
         have e5:its.toArray.size=ks.length:=by simp;omega
         rw[e5]
         exact this
end
end L2
namespace Zq
open PySem
section
variable{prog:Program}{w:World}{A:Around}{E:Value->Shared->Prop}{s:Shared}{t t2:Bool}{z T O i j a b:Addr}{k:Nat}{xs ys:Array Value}{x y u v:Value}
def Ef(D:ZipApart z T O i j a b){Q:Option Value->Shared->Prop}(gz:uU s.heap z T O .none (.bool false))(gT:IsPair s.heap T (.ref i) (.ref j))(gO:IsPair s.heap O u v)(gi:It t s.heap i a k)(gj:It t2 s.heap j b k)
  (ga:Sq t s.heap a xs) (gb:Sq t2 s.heap b ys) (ex:xs[k]?=some x) (ey:ys[k]?=some y)
  (q:∀h',uU h' z T O (rawInt s.heap.objs.size) (.bool false)->IsPair h' O x y->It t h' i a (k+1)->It t2 h' j b (k+1)->IsPair h' s.heap.objs.size x y->Zp.Rest z O i j s.heap h'->Q (some (.ref s.heap.objs.size)) {s with heap:=h'}):
  wpAny (model prog w) A (pyNext (.ref z)) Q E s:=by
 have ty:s.TypeIs (.ref z) "zip":=⟨_,gz,rfl⟩
 unfold pyNext
 exact Qaq (wpAny_attempt (wpAny_callSpecial?_slot (name:=Str.ofString "__next__") ty F.slot_zip_next (wpAny_call_entry F.slot_zip_next ty F.entry_zip_next
  (item D gz gT gO gi gj ga gb ex ey fun h' a1 a2 a3 a4 a5 a6=>Qgq (q h' a1 a2 a3 a4 a5 a6)) (F.args_zip_next_1 _))))
end
end Zq
namespace L2
open PySem PySem.Spec PyProof.Rows Zq
def Inv.sq_inj{X:Cx}{pins:List (Addr×Obj)}{σ:St}{H:Hp}{s:Shared}{t:Bool}{a:Addr}{xs ys:List V}(I:Inv X pins σ H s)(h:D0 X.K t H a xs)(h':D0 X.K t H a ys):xs=ys:=by
 cases t with
 |true=>exact I.tuple_inj h h'
 |false=>exact I.list_inj h h'
noncomputable def Nu(K:PySem.W.Frag)(t t2:Bool)(a b:Addr):It:=
  ⟨fun i H=>∃xs ys x y,D0 K t H a xs/\D0 K t2 H b ys/\xs[i]?=some x/\ys[i]?=some y,
   fun i H v H'=>∃p,v=.ref p/\H p=none/\∀xs ys x y,D0 K t H a xs->D0 K t2 H b ys->xs[i]?=some x->ys[i]?=some y->H'=upd H p (.tup [x,y]),
   fun i H=>∃xs,D0 K t H a xs/\xs.length<=i⟩
def De{P:Program}{w:World}{K:PySem.W.Frag}{elts:List Expr}{x1:Nat}{tp:Pos}{t t2:Bool}{z T O i j a b:Addr}(D:ZipApart z T O i j a b):
  Turn P w K (.Tuple elts x1 tp) (Nu K t t2 a b) [z,T,O,i,j] z (fun n h=>uU h z T O .none (.bool false)/\IsPair h T (.ref i) (.ref j)/\(∃u v,IsPair h O u v)/\Zq.It t h i a n/\Zq.It t2 h j b n) where
 mem:=by simp
 obj:=fun n h ⟨gz,gT,⟨u,v,gO⟩,gi,gj⟩ c hc=>by
  simp at hc
  rcases hc with rfl|rfl|rfl|rfl|rfl
  ·exact⟨_,gz,fun v n=>by cases n⟩
  ·exact⟨_,gT,fun v n=>by cases n⟩
  ·exact⟨_,gO,fun v n=>by cases n⟩
  ·exact gi.obj
  ·exact gj.obj
 keep:=fun n h h' ⟨gz,gT,⟨u,v,gO⟩,gi,gj⟩ k=>⟨k z (by simp) _ gz,k T (by simp) _ gT,⟨u,v,k O (by simp) _ gO⟩,gi.at fun o e=>k i (by simp) o e,gj.at fun o e=>k j (by simp) o e⟩
 item:=by
  rintro X hP hw hK hc n pins s σ H E I hf ⟨gz,gT,⟨u,v,gO⟩,gi,gj⟩ hg
  subst hP hw hK
  obtain⟨xs,ys,x,y,qa,qb,hx,hy⟩:=hg
  obtain⟨its,ra,pa,_⟩:=I.sq qa
  obtain⟨jts,rb,pb,_⟩:=I.sq qb
  obtain⟨ux,ex,rx⟩:=ra.get hx
  obtain⟨uy,ey,ry⟩:=rb.get hy
  have lt:∀{c o},s.heap.get? c=some o->c≠s.heap.objs.size:=fun e=>Qwq (Qiq e)
  have nfp:∀c∈[z,T,O,i,j],c≠s.heap.objs.size:=fun c hc=>by
   obtain⟨oi,e1,_⟩:=gi.obj
   obtain⟨oj,e2,_⟩:=gj.obj
   simp at hc
   rcases hc with rfl|rfl|rfl|rfl|rfl
   ·exact lt gz
   ·exact lt gT
   ·exact lt gO
   ·exact lt e1
   ·exact lt e2
  refine Zq.Ef D gz gT gO gi gj pa pb (x:=ux) (y:=uy) (by simpa using ex) (by simpa using ey) fun h1 z1 O1 i1 j1 n1 r1=>⟨_,rfl,?_⟩
  have T1:=r1 _ _ D.TIz D.TITO D.TIi1 D.TIi2 gT
  refine wpAny_letOwnedTupleGo_zip z1 fun h2 z2 b2=> ?_
  have I2:Inv X pins σ (upd H s.heap.objs.size (.tup [x,y])) {s with heap:=h2}:=I.turnedNew (t':=s.toks) (fp:= [z,T,O,i,j]) hf (fun c o hc e=> ?_) (Qmq _) ?_
  ·refine⟨.ref s.heap.objs.size,_,I2,rfl,⟨s.heap.objs.size,rfl,I.hok.fresh (Qmq _),fun xs' ys' x' y' q1 q2 q3 q4=> ?_⟩,⟨z2,b2.extBut _ _ D.TIz T1,⟨_,_,b2.extBut _ _ D.TOz O1⟩,i1.ext b2.extBut D.i1z,j1.ext b2.extBut D.i2z⟩,fun c hc=> ?_⟩
   ·rw[I.sq_inj q1 qa] at q3
    rw[I.sq_inj q2 qb] at q4
    rw[hx] at q3
    rw[hy] at q4
    cases q3
    cases q4
    rfl
   ·rw[bA (nfp c hc)]
    exact(hf c hc).1
  ·simp at hc
   exact b2.extBut _ _ hc.1 (r1 c o hc.1 hc.2.2.1 hc.2.2.2.1 hc.2.2.2.2 e)
  ·exact⟨by show 2<=_;decide,[ux,uy],.cons rx (.cons ry .nil),_,b2.extBut _ _ (fun e=>nfp z (by simp) e.symm) n1,rfl,rfl,0,rfl⟩
 done:=by
  rintro X hP hw hK hc n pins s σ H E I hf ⟨gz,gT,⟨u,v,gO⟩,gi,gj⟩ hg
  subst hP hw hK
  obtain⟨xs,qa,hx⟩:=hg
  obtain⟨its,ra,pa,_⟩:=I.sq qa
  have hl:=ra.length
  refine Zq.zp D (I.ok.hd hc) (.inl ⟨gz,u,v,gO⟩) gT gi pa (by simp;omega) fun h1 r1=>⟨rfl,I.turnedL (t':=s.toks) (fp:= [z,T,O,i,j]) hf fun c o hc e=> ?_⟩
  simp at hc
  exact r1 c o hc.1 hc.2.2.1 hc.2.2.2.1 hc.2.2.2.2 e
 self:=fun _ _ _ _ _ ⟨gz,_⟩ h=>wpAny_pyIter_zip gz h
section
variable{X:Cx}
def NH(K:PySem.W.Frag)(ta:TA):TI:=fun σ H R=>ta σ H fun vs H1=>∃(t t2:Bool) (a b:Addr) (xs ys:List V),vs= [.ref a,.ref b]/\D0 K t H1 a xs/\D0 K t2 H1 b ys/\R (Nu K t t2 a b) H1
def GQ{elts:List Expr}{x1:Nat}{tp:Pos}{a b:Expr}{ta:TA}{p pos:Pos}(hg:Gl X "zip")(hm:X.mg "zip"=none)(ha:PA X [a,b] ta)(hs:starEach [a,b] X.env= [(false,eval a X.env),(false,eval b X.env)]:=by rfl)(hs2:starEach [b] X.env= [(false,eval b X.env)]:=by rfl):
  PI X (.Tuple elts x1 tp) (.Call (.Name "zip" p) [a,b] [] pos) (NH X.K ta):=by
 intro pins s σ H R I h
 refine Call_ (nc I hg hm (by rfl) (PyProof.Rows.callWith_type1 (di (ha pos pins s σ H _ I h) fun us s1 ⟨vs,H1,I1,r1,q1⟩=> ?_) (by rw[hs,hs2]) (by rw[hs2];rfl)))
 obtain⟨t,t2,x,y,xs,ys,e,qa,qb,q⟩:=q1
 subst e
 cases r1 with
 | cons r rr=>
   cases rr with
   | cons r' rr=>
     cases rr
     cases r
     cases r'
     obtain⟨its,ra,pa,_⟩:=I1.sq qa
     obtain⟨jts,rb,pb,_⟩:=I1.sq qb
     have lx:=Sq.lt pa
     have ly:=Sq.lt pb
     refine Zq.Iy pa pb fun h' gz gT gO gi gj k=> ?_
     refine wpAny_pyIter_zip gz ⟨_,_,_,_,H1,rfl,I1.kept (t':=s1.toks) k,De (PyProof.Rows.zipApart_new lx ly),⟨gz,gT,⟨_,_,gO⟩,gi,gj⟩,fun c hc=> ?_,q⟩
     have hb:s1.heap.objs.size<=c:=by
       simp only[Qsq,QXq,or_false] at hc
       rcases hc with e|e|e|e|e <;>(rw[e];first|exact Qmq _|exact Nat.le_add_right _ _)
     exact I1.fpOk hb (I1.hok.fresh hb)
end
end L2
namespace DL
open PySem PySem.Spec PyProof.Rows L2
def BJ.sqB{M:Md}{ρ:List Addr}{H:Hp}{a:Addr}{vs:List V}{t:Tag}(h:BJ M ρ H a vs t):L2.D0 M.K (!t.isL) H a vs:=by
 cases c:t.isL with
 |true=>exact h.sqL c
 |false=>exact h.sqT c
def Ag(xs ys:List D):List D:=List.zipWith (fun x y=>D.tup [x,y]) xs ys
open Classical in
def pY(f g:eF):yY:=fun Γ S=>(f Γ S).bind fun(p,S1)=>(g Γ S1).bind fun(r,S2)=>if p.2.stays S2 p.1/\p.1.length<=r.1.length then some ((Ag p.1 r.1,fun S=>p.2.stays S p.1/\r.2.stays S r.1),S2) else none
section
variable{X:Cx}{a b c e:Expr}{pos:Pos}{st:Stmt}
def rp{elts:List Expr}{x1:Nat}{tp p:Pos}{f g:eF}(hg:Gl X "zip")(hm:X.mg "zip"=none)(ha:PE X a (tQ (md X) f))(hb:PE X b (tQ (md X) g))(hs:starEach [a,b] X.env= [(false,eval a X.env),(false,eval b X.env)]:=by rfl)(hs2:starEach [b] X.env= [(false,eval b X.env)]:=by rfl):
  PI X (.Tuple elts x1 tp) (.Call (.Name "zip" p) [a,b] [] pos) (tI (md X) (pY f g)):=MQ (GQ hg hm (dB ha (dB hb fZ hs2) (by rw[hs,hs2])) hs hs2) fun σ H R ⟨ρ,Γ,S,ds,W,S',ok,e,q⟩=>by
 obtain⟨⟨⟨ds1,t1⟩,S1⟩,e1,e⟩:=aq e
 obtain⟨⟨⟨ds2,t2⟩,S2⟩,e2,e⟩:=aq e
 dsimp only at e
 split at e
 ·rename_i c
  obtain⟨e3,rfl⟩:=cH e
  obtain⟨rfl,rfl⟩:=Prod.mk.inj e3
  refine⟨ρ,Γ,S,ds1,t1,S1,ok,e1,fun ρ1 a1 vs1 H1 x1 st1 h1 r1=>⟨ρ1,Γ,S1,ds2,t2,S2,ok.to x1 st1,e2,fun ρ2 b1 ws H2 x2 st2 h2 r2=> ?_⟩⟩
  obtain⟨vs',h3,r3⟩:=h1.to r1 x2 st2 c.1
  refine⟨_,_,a1,b1,vs',ws,rfl,h3.sqB,h2.sqB,q _ _ _ (x1.trans x2) st2 fun i ρ3 S3 H3 x3 st3 w=> ?_⟩
  obtain⟨us,g1,g2⟩:=h3.to r3 x3 st3 w.1
  obtain⟨zs,g3,g4⟩:=h2.to r2 x3 st3 w.2
  refine⟨fun d hd=> ?_,fun hi=>⟨us,g1.sqB,?_⟩⟩
  ·unfold Ag at hd
   rw[List.getElem?_zipWith] at hd
   cases hx:ds1[i]? with
   |none=>rw[hx] at hd;cases hd
   | some x=>
     cases hy:ds2[i]? with
     |none=>rw[hx,hy] at hd;cases hd
     | some y=>
       rw[hx,hy] at hd
       cases hd
       obtain⟨u,hu,ru⟩:=g2.get hx
       obtain⟨z,hz,rz⟩:=g4.get hy
       refine⟨⟨us,zs,u,z,g1.sqB,g3.sqB,hu,hz⟩,fun v H4 hv=> ?_⟩
       obtain⟨p,rfl,hp,hq⟩:=hv
       have:=hq us zs u z g1.sqB g3.sqB hu hz
       subst this
       exact⟨cK.laid hp,st3.lay hp,.tup cj ((bt.cons ru (.cons rz .nil)).ext (cK.laid hp))⟩
  ·rw[hi]
   unfold Ag
   rw[List.length_zipWith,g2.length.symm]
   have:=c.2
   omega
 ·cases e
end
def vn:D->Option Key
 |.int i=>some (.inl i)
 |.str x=>some (.inr x)
 |_=>none
def se{M:Md}{ρ:List Addr}{H:Hp}{d:D}{v:V}{k:Key}(r:Rel M ρ H d v)(e:vn d=some k):v=kV k:=by
 cases r <;>simp[vn] at e <;>subst e <;>rfl
def Au:List D->Option (List Key)
 | []=>some []
 |d::r=>(vn d).bind fun k=>(Au r).bind fun ks=>some (k::ks)
theorem AF{M:Md}{ρ:List Addr}{H:Hp}:∀{ds:List D} {vs:List V} {ks:List Key},bt M ρ H ds vs->Au ds=some ks->vs=ks.map kV
 |_,_,_,.nil,e=>by cases e;rfl
 | _,_,_,.cons h hs,e=>by
   obtain⟨k,e1,e⟩:=aq e
   obtain⟨ks,e2,e⟩:=aq e
   cases e
   rw[se h e1,AF hs e2]
   rfl
def sM(kvs:List (Key×D))(k:Key):Option D:=(kvs.find? fun kv=>decide (kv.1=k)).map (·.2)
noncomputable def putD(kvs:List (Key×D))(k:Key)(v:D):List (Key×D):=
 if (kvs.any fun kv=>decide (kv.1=k))=true then kvs.map (fun kv=>if kv.1=k then(kv.1,v) else kv) else kvs++ [(k,v)]
def dw(kvs more:List (Key×D)):List (Key×D):=more.foldl (fun acc kv=>putD acc kv.1 kv.2) kvs
section
variable{M:Md}{ρ:List Addr}{H:Hp}
theorem cQ.append:∀{l m:List (Key×D)} {kv kw:List (Key×V)},cQ M ρ H l kv->cQ M ρ H m kw->cQ M ρ H (l++m) (kv++kw)
 | [],_,_,_,h,h'=>by cases h;exact h'
 |(_,_)::_,_,_,_,⟨v,t,e,h,hs⟩,h'=>by subst e;exact⟨v,_,rfl,h,cQ.append hs h'⟩
theorem cQ.any:∀{l:List (Key×D)} {kv:List (Key×V)} (k:Key),cQ M ρ H l kv->(l.any fun p=>decide (p.1=k))=kv.any fun p=>decide (p.1=k)
 | [],_,_,h=>by cases h;rfl
 |(_,_)::_,_,k,⟨v,t,e,h,hs⟩=>by subst e;simp only[List.any_cons,cQ.any k hs]
theorem cQ.mapP{d:D}{v:V}{k:Key}(r:Rel M ρ H d v):∀{l:List (Key×D)} {kv:List (Key×V)},cQ M ρ H l kv->cQ M ρ H (l.map fun p=>if p.1=k then(p.1,d) else p) (kv.map fun p=>if p.1=k then(p.1,v) else p)
 | [],_,h=>by cases h;rfl
 | (k',_)::_,_,⟨u,t,e,h,hs⟩=>by
   subst e
   simp only[QDq]
   by_cases c:k'=k
   · simp only[c,if_true];exact⟨v,_,rfl,r,cQ.mapP r hs⟩
   · simp only[c,if_false];exact⟨u,_,rfl,h,cQ.mapP r hs⟩
def cQ.put{l:List (Key×D)}{kv:List (Key×V)}{k:Key}{d:D}{v:V}(h:cQ M ρ H l kv)(r:Rel M ρ H d v):cQ M ρ H (putD l k d) (putK kv k v):=by
 unfold putD putK
 rw[h.any k]
 split
 ·exact h.mapP r
 ·exact h.append ⟨v,[],rfl,r,rfl⟩
theorem cQ.merge:∀{m:List (Key×D)} {kw:List (Key×V)} {l:List (Key×D)} {kv:List (Key×V)},cQ M ρ H m kw->cQ M ρ H l kv->cQ M ρ H (dw l m) (kF kv kw)
 | [],_,_,_,h,h'=>by cases h;exact h'
 | (k,d)::m,_,_,_,⟨v,t,e,h,hs⟩,h'=>by
   subst e
   unfold dw kF
   rw[List.foldl_cons,List.foldl_cons]
   exact cQ.merge (m:=m) (kw:=t) hs (h'.put h)
theorem cQ.zip:∀{ks:List Key} {ds:List D} {vs:List V},bt M ρ H ds vs->cQ M ρ H (ks.zip ds) (ks.zip vs)
 | [],_,_,_=>rfl
 |_::_,_,_,.nil=>rfl
 |k::ks,_,_,.cons h hs=>⟨_,_,rfl,h,cQ.zip hs⟩
theorem cQ.val:∀{l:List (Key×D)} {kv:List (Key×V)} {k:Key} {d:D},cQ M ρ H l kv->sM l k=some d->∃v,pP kv k=some v/\Rel M ρ H d v
 | [],_,_,_,_,e=>by cases e
 | (k',d')::_,_,k,d,⟨v,t,e,h,hs⟩,e'=>by
   subst e
   unfold sM at e'
   unfold pP
   rw[List.find?_cons] at e'⊢
   by_cases c:k'=k
   · simp only[c,decide_true] at e'⊢
     cases e'
     exact⟨v,rfl,h⟩
   · simp only[c,decide_false] at e'⊢
     exact cQ.val hs e'
def cQ.ext'{ρ':List Addr}{H':Hp}{l:List (Key×D)}{kv:List (Key×V)}(h:cQ M ρ H l kv)(e:cK ρ H ρ' H'):cQ M ρ' H' l kv:=h.imp fun _ _ r=>r.ext e
def cQ.pre'{ρ':List Addr}{l:List (Key×D)}{kv:List (Key×V)}(h:cQ M ρ H l kv)(e:ρ <+: ρ'):cQ M ρ' H l kv:=h.imp fun _ _ r=>r.pre e
end
section
variable{X:Cx}{a b c e:Expr}{pos:Pos}{st:Stmt}
def L9{M:Md}{ρ ρ':List Addr}{H H':Hp}{S':aH}{l:List (Key×D)}{kv:List (Key×V)}{p:Addr}{Q:VK}(x:cK ρ H ρ' H')(st:gQ M ρ' S' H')(hp:H' p=none)(r:cQ M ρ' H' l kv)
  (q:∀ρ'' v H'',cK ρ H ρ'' H''->gQ M ρ'' (S'++ [.dct l]) H''->Rel M ρ'' H'' (.ref S'.length) v->Q v H''):Q (.ref p) (upd H' p (.dK kv)):=by
 have np:p∉ρ':=dR x st hp
 have x1:cK ρ' H' ρ' (upd H' p (.dK kv)):=cK.laid hp
 have st2:=(st.lay (u:=.dK kv) hp).box (o:=.dct l) np ⟨kv,cj,(r.ext' x1).pre' (List.prefix_append _ _)⟩
 refine q (ρ'++ [p]) (.ref p) _ ⟨x.pre.trans (List.prefix_append _ _),fun c hc=> ?_,(x.trans x1).keep,(x.trans x1).grow⟩ st2 (.ref ?_)
 ·rcases mQa.mp hc with hc|hc
  ·exact x.new c hc
  ·rw[Qfq] at hc;subst hc;exact .inr (x.grow _ hp)
 ·rw[←st.len,QQq (Qmq _)]
  simp
open Classical in
def KH(f g:eF):bH:=fun Γ S=>(f Γ S).bind fun(p,S1)=>(g Γ S1).bind fun(r,S2)=>if p.2.stays S2 p.1/\p.1.length=r.1.length then(Au p.1).bind fun ks=>some (.ref S2.length,S2++ [.dct (dw [] (ks.zip r.1))]) else none
def pL{p1 p2 c1 c2:Pos}{f g:eF}(hc:X.calm=true)(hgD:Gl X "dict")(hmD:X.mg "dict"=none)(hg:Gl X "zip")(hm:X.mg "zip"=none)(ha:PE X a (tQ (md X) f))(hb:PE X b (tQ (md X) g))(hs:starEach [a,b] X.env= [(false,eval a X.env),(false,eval b X.env)]:=by rfl)(hs2:starEach [b] X.env= [(false,eval b X.env)]:=by rfl)
  (he:starEach [Expr.Call (.Name "zip" p2) [a,b] [] c2] X.env= [(false,eval (Expr.Call (.Name "zip" p2) [a,b] [] c2) X.env)]:=by rfl):
  PE X (.Call (.Name "dict" p1) [.Call (.Name "zip" p2) [a,b] [] c2] [] c1) (tD (md X) (KH f g)):=kb (A3 hc hgD hmD hg hm (dB ha (dB hb fZ hs2) (by rw[hs,hs2])) hs hs2 he) fun σ H Q ⟨ρ,Γ,S,d,S',ok,e,q⟩=>by
 obtain⟨⟨⟨ds1,t1⟩,S1⟩,e1,e⟩:=aq e
 obtain⟨⟨⟨ds2,t2⟩,S2⟩,e2,e⟩:=aq e
 dsimp only at e
 split at e
 ·rename_i c
  obtain⟨ks,e3,e⟩:=aq e
  obtain⟨rfl,rfl⟩:=cH e
  refine⟨ρ,Γ,S,ds1,t1,S1,ok,e1,fun ρ1 a1 vs1 H1 x1 st1 h1 r1=>⟨ρ1,Γ,S1,ds2,t2,S2,ok.to x1 st1,e2,fun ρ2 b1 ws H2 x2 st2 h2 r2=> ?_⟩⟩
  obtain⟨vs',h3,r3⟩:=h1.to r1 x2 st2 c.1
  have ek:=AF r3 e3
  subst ek
  have hl:=r3.length
  rw[lQm] at hl
  refine⟨_,_,a1,b1,ks,ws,rfl,h3.sqB,h2.sqB,by rw[←hl,←r2.length];exact c.2,fun p hp=> ?_⟩
  exact L9 (x1.trans x2) st2 hp (cQ.merge (l:= []) (cQ.zip r2) rfl) q
 ·cases e
def MU:bH:=fun _ S=>some (.ref S.length,S++ [.dct []])
def Jb:PE X (.Dict [] [] pos) (tD (md X) MU):=kb FN fun σ H Q qq=>by
 obtain⟨ρ,Γ,S,d,S',ok,e,q⟩:=qq
 obtain⟨rfl,rfl⟩:=cH e
 exact fun p hp=>L9 cK.refl ok.st hp (l:= []) (kv:= []) rfl q
noncomputable def LM(f g:bH):bH:=fun Γ S=>(f Γ S).bind fun(x,S1)=>(g Γ S1).bind fun(y,S2)=>match x with
 | .ref k=>match S2[k]? with
   |some (.dct l)=>(vn y).bind fun ky=>(sM l ky).bind fun d=>some (d,S2)
   |_=>none
 |_=>none
def Gp{f g:bH}(hu:X.A.units+1<cLine)(ha:PE X a (tD (md X) f))(hb:PE X b (tD (md X) g))(hs:Ia b):PE X (.Subscript a b pos) (tD (md X) (LM f g)):=kb (G7 hu ha hb hs) fun σ H Q qq=>by
 obtain⟨ρ,Γ,S,d,S',ok,e,q⟩:=qq
 obtain⟨⟨x,S1⟩,e1,e⟩:=aq e
 obtain⟨⟨y,S2⟩,e2,e⟩:=aq e
 cases x with
 | ref k=>
   dsimp only at e
   split at e
   · rename_i l hs
     obtain⟨ky,e3,e⟩:=aq e
     obtain⟨d',e4,e⟩:=aq e
     obtain⟨rfl,rfl⟩:=cH e
     refine⟨ρ,Γ,S,_,S1,ok,e1,fun ρ1 v1 H1 x1 st1 r1=>⟨ρ1,Γ,S1,y,S2,ok.to x1 st1,e2,fun ρ2 v2 H2 x2 st2 r2=> ?_⟩⟩
     cases se r2 e3
     have r1:=r1.ext x2
     cases r1 with
     | ref ha=>
       obtain⟨kv,h1,h2⟩:=st2.obj k _ _ ha hs
       obtain⟨v,h3,h4⟩:=h2.val e4
       exact⟨_,v,rfl,by rw[←h3];exact Dr.k h1,q _ _ _ (x1.trans x2) st2 h4⟩
   · cases e
 |_=>cases e
noncomputable def Mr(f g h:bH):dm:=fun Γ S=>(h Γ S).bind fun(d,S1)=>(f Γ S1).bind fun(x,S2)=>(g Γ S2).bind fun(y,S3)=>match x with
 | .ref k=>match S3[k]? with
   |some (.dct l)=>(vn y).bind fun ky=>if l.length<sizeLine then some (.nx Γ (S3.set k (.dct (putD l ky d)))) else none
   |_=>none
 |_=>none
mutual
theorem Rel.offK{M:Md}{ρ:List Addr}{H:Hp}{b:Addr}{us:List (Key×V)}{o:HO}(hb:H b=some (.dK us)):∀{d:D} {v:V},Rel M ρ H d v->Rel M ρ (upd H b o) d v
 |_,_,.non=>.non
 |_,_,.bl x=>.bl x
 |_,_,.int i=>.int i
 |_,_,.str x=>.str x
 |_,_,.tup h hs=>.tup (by rw[bA (GD h hb (by intro z;cases z))];exact h) (bt.offK hb hs)
 |_,_,.ref h=>.ref h
 |_,_,.fn h=>.fn h
theorem bt.offK{M:Md}{ρ:List Addr}{H:Hp}{b:Addr}{us:List (Key×V)}{o:HO}(hb:H b=some (.dK us)):∀{ds:List D} {vs:List V},bt M ρ H ds vs->bt M ρ (upd H b o) ds vs
 |_,_,.nil=>.nil
 |_,_,.cons h hs=>.cons (Rel.offK hb h) (bt.offK hb hs)
end
def gQ.putKd{M:Md}{ρ:List Addr}{S:aH}{H:Hp}{k:Nat}{a:Addr}{l l':List (Key×D)}{kw:List (Key×V)}(st:gQ M ρ S H)(hk:ρ[k]?=some a)(hS:S[k]?=some (.dct l))(r:cQ M ρ H l' kw):gQ M ρ (S.set k (.dct l')) (upd H a (.dK kw))/\cK ρ H ρ (upd H a (.dK kw)):=by
 obtain⟨vs,h1,h2⟩:=st.obj k a _ hk hS
 exact st.put hk hS ⟨kw,cj,r.imp fun _ _ q=>q.offK h1⟩ fun x hx=>by rw[h1] at hx;cases hx;exact id
def Ku{f g h:bH}{pos':Pos}{v:Expr}(hu:X.A.units+1<cLine)(ha:PE X a (tD (md X) f))(hb:PE X b (tD (md X) g))(hv:PE X v (tD (md X) h))(hs:swapsWith v (some (.Subscript a b pos')) pos.line X.env=pure false:=by rfl):PS X (.Assign [.Subscript a b pos'] v pos) (tS (md X) (Mr f g h)):=
 CP (HC hu ha hb hv hs) fun D σ H qq=>by
  obtain⟨ρ,Γ,S,o,ok,e,q⟩:=qq
  obtain⟨⟨d,S1⟩,e1,e⟩:=aq e
  obtain⟨⟨x,S2⟩,e2,e⟩:=aq e
  obtain⟨⟨y,S3⟩,e3,e⟩:=aq e
  cases x with
  | ref k=>
    dsimp only at e
    split at e
    · rename_i l hs
      obtain⟨ky,e4,e⟩:=aq e
      split at e
      · rename_i hl
        cases e
        refine⟨ρ,Γ,S,d,S1,ok,e1,fun ρ1 v1 H1 x1 st1 r1=>⟨ρ1,Γ,S1,_,S2,ok.to x1 st1,e2,fun ρ2 v2 H2 x2 st2 r2=>⟨ρ2,Γ,S2,y,S3,(ok.to x1 st1).to x2 st2,e3,fun ρ3 v3 H3 x3 st3 r3=> ?_⟩⟩⟩
        cases se r3 e4
        have r2:=r2.ext x3
        have r1:=r1.ext (x2.trans x3)
        have x13:=(x1.trans x2).trans x3
        cases r2 with
        | ref ha=>
          obtain⟨kv,h1,h2⟩:=st3.obj k _ _ ha hs
          obtain⟨st4,x4⟩:=st3.putKd ha hs (h2.put (k:=ky) r1)
          exact⟨_,_,rfl,Fu.k h1 (by rw[←h2.length];exact hl),q _ _ _ (x13.trans x4) ((ok.to x13 st3).to x4 st4)⟩
      · cases e
    · cases e
  |_=>cases e
open Classical in
def JS(f:eF)(g:bH):bH:=fun Γ S=>(f Γ S).bind fun(p,S1)=>if p.2.isL=true then(g Γ S1).bind fun(y,S2)=>if p.2.stays S2 p.1 then(sL y).bind fun v=>(ff p.1).bind fun vs=>(pq v vs).bind fun j=>some (.int (j:Nat),S2) else none else none
def Hy{f:eF}{g:bH}{o:Expr}{apos cpos:Pos}(ho:PE X o (tQ (md X) f))(ha:PE X e (tD (md X) g))(hbase:attributeBase o "index" X.env (eval o X.env)=eval o X.env:=by rfl) (hfew:((backTo cpos (starEach [e] X.env)).all (fun x=> !x.1)&&(backToKw cpos (keywordEach [] X.env)).all (fun x=>x.1.isSome)
   &&decide ([e].length+([]:List Keyword).length+(if ([]:List Keyword).isEmpty then 0 else 1)<30))=true:=by rfl)
  (hline:(apos.endLine==cpos.line)=true:=by rfl) (hs:starEach [e] X.env= [(false,eval e X.env)]:=by rfl):PE X (.Call (.Attribute o "index" apos) [e] [] cpos) (tD (md X) (JS f g)):=
 kb (wA PySem.F.plainAttrs_list PySem.F.slot_list_index PySem.F.type_list_index Fh ho (ai ha ar hs) hbase hfew hline hs) fun σ H Q qq=>by
  obtain⟨ρ,Γ,S,d,S',ok,e,q⟩:=qq
  obtain⟨⟨⟨ds,t⟩,S1⟩,e1,e⟩:=aq e
  dsimp only at e
  split at e
  ·rename_i cL
   obtain⟨⟨y,S2⟩,e2,e⟩:=aq e
   dsimp only at e
   split at e
   ·rename_i cS
    obtain⟨v,e3,e⟩:=aq e
    obtain⟨vs,e4,e⟩:=aq e
    obtain⟨j,e5,e⟩:=aq e
    obtain⟨rfl,rfl⟩:=cH e
    refine⟨ρ,Γ,S,ds,t,S1,ok,e1,fun ρ1 a us H1 x1 st1 h1 r1=>⟨.inl ⟨rfl,us,h1.sqL cL⟩,ρ1,Γ,S1,[y],S2,ok.to x1 st1,by simp only[aj,au,e2,Qbq],fun ρ2 ws H2 x2 st2 r2=> ?_⟩⟩
    obtain⟨us',h3,r3⟩:=h1.to r1 x2 st2 cS
    cases r2 with
    | cons r2 rr=>
      cases rr
      cases mh r2 e3
      obtain⟨rfl,f1⟩:=fP r3 e4
      exact⟨a,us',_,j,rfl,rfl,h3.sqL cL,pz e3,f1,e5,q _ _ _ (x1.trans x2) st2 (.int _)⟩
   ·cases e
  ·cases e
end
section
variable{X:Cx}{a b c e:Expr}{pos:Pos}{st:Stmt}
def M_:V->List V->Hp->VK->Prop:=fun x vs H Q=>∃a b kvs more,x=.ref a/\vs= [.ref b]/\a≠b/\H a=some (.dK kvs)/\H b=some (.dK more)/\kvs.length+more.length<=sizeLine/\Q .non (upd H a (.dK (kF kvs more)))
def Dx:Ln X "dict.update" M_:=by
 intro pins s σ H x vs v us Q I rx rv h
 obtain⟨a,b,kvs,more,rfl,rfl,ab,ha,hb,hz,q⟩:=h
 cases rx
 obtain⟨u,rfl,ru⟩:=rv.one
 cases ru
 obtain⟨z,hd,ks,rel,dd⟩:=Cp I.hok ha
 obtain⟨z2,hd2,ms,rel2,dd2⟩:=Cp I.hok hb
 refine call_meetsIn PySem.F.slot_dict_update dd.typeIs PySem.F.entry_dict_update (PySem.F.args_dict_update_2 _ _) (meets_dict_update (cq X.prog X.w) a b ab hd2) ⟨ks,ms,dd,dd2,by rw[←rel.length,←rel2.length];exact hz,fun h' dd' _ hs=> ?_⟩
 have he:∃q,h'.get? a=some q:=let ⟨q,_,_,hq,_⟩:=dd';⟨q,hq⟩
 have hl:=jC more kvs
 exact⟨.non,_,sj I (by rw[ha];exact True.intro) hs he (ub (by omega) hd (KV.merge rel2 rel) dd'),rfl,q⟩
noncomputable def HF(f g:bH):bH:=fun Γ S=>(f Γ S).bind fun(x,S1)=>(g Γ S1).bind fun(y,S2)=>match x,y with
 | .ref k,.ref j=>if k≠j then match S1[k]?,S2[k]?,S2[j]? with
   |some (.dct _),some (.dct l),some (.dct m)=>if l.length+m.length<=sizeLine then some (.non,S2.set k (.dct (dw l m))) else none
   |_,_,_=>none
   else none
 |_,_=>none
def Gq{f g:bH}{o:Expr}{apos cpos:Pos}(ho:PE X o (tD (md X) f))(ha:PE X e (tD (md X) g))(hbase:attributeBase o "update" X.env (eval o X.env)=eval o X.env:=by rfl) (hfew:((backTo cpos (starEach [e] X.env)).all (fun x=> !x.1)&&(backToKw cpos (keywordEach [] X.env)).all (fun x=>x.1.isSome)
   &&decide ([e].length+([]:List Keyword).length+(if ([]:List Keyword).isEmpty then 0 else 1)<30))=true:=by rfl)
  (hline:(apos.endLine==cpos.line)=true:=by rfl) (hs:starEach [e] X.env= [(false,eval e X.env)]:=by rfl):PE X (.Call (.Attribute o "update" apos) [e] [] cpos) (tD (md X) (HF f g)):=
 kb (wA PySem.F.plainAttrs_dict PySem.F.slot_dict_update PySem.F.type_dict_update Dx ho (ai ha ar hs) hbase hfew hline hs) fun σ H Q qq=>by
  obtain⟨ρ,Γ,S,d,S',ok,e,q⟩:=qq
  obtain⟨⟨x,S1⟩,e1,e⟩:=aq e
  obtain⟨⟨y,S2⟩,e2,e⟩:=aq e
  cases x with
  | ref k=>
    cases y with
    | ref j=>
      dsimp only at e
      split at e
      · rename_i ne
        cases h1:S1[k]? with
        |none=>rw[h1] at e;cases e
        | some o1=>
          rw[h1] at e
          cases o1 with
          | dct l0=>
            cases h2:S2[k]? with
            |none=>rw[h2] at e;cases e
            | some o2=>
              rw[h2] at e
              cases o2 with
              | dct l=>
                cases h3:S2[j]? with
                |none=>rw[h3] at e;cases e
                | some o3=>
                  rw[h3] at e
                  cases o3 with
                  | dct m=>
                    dsimp only at e
                    split at e
                    · rename_i hl
                      obtain⟨rfl,rfl⟩:=cH e
                      refine⟨ρ,Γ,S,_,S1,ok,e1,fun ρ1 v H1 x1 st1 r1=> ?_⟩
                      cases r1 with
                      | ref ha=>
                        rename_i a
                        obtain⟨kv0,g0,_⟩:=st1.obj k a _ ha h1
                        refine⟨.inr (.inr (.inl ⟨rfl,.inl ⟨kv0,g0⟩⟩)),ρ1,Γ,S1,[.ref j],S2,ok.to x1 st1,by simp only[aj,au,e2,Qbq],fun ρ2 ws H2 x2 st2 r2=> ?_⟩
                        cases r2 with
                        | cons r2 rr=>
                          cases rr
                          cases r2 with
                          | ref hb=>
                            rename_i b
                            have ha2:=dv x2.pre ha
                            obtain⟨kv,g1,g2⟩:=st2.obj k a _ ha2 h2
                            obtain⟨kw,g3,g4⟩:=st2.obj j b _ hb h3
                            have ab:a≠b:=fun z=>by subst z;exact ne (lD st2.nd ha2 hb)
                            obtain⟨st3,x3⟩:=st2.putKd ha2 h2 (cQ.merge g4 g2)
                            exact⟨a,b,kv,kw,rfl,rfl,ab,g1,g3,by rw[←g2.length,←g4.length];exact hl,q _ _ _ ((x1.trans x2).trans x3) st3 .non⟩
                    · cases e
                  |_=>cases e
              |_=>cases e
          |_=>cases e
      · cases e
    |_=>cases e
  |_=>cases e
end
end DL
namespace L2
open PySem PySem.Spec PyProof.Rows
section
variable{prog:Program}{w:World}{A:Around}{s:Shared}
def u0{kx vx target iter:Expr}{ifs:List Expr}{scope:Scope}{pos:Pos}{it:Value}{D:Addr}{env:Env}{R:Result->Shared->Prop}(I:Nat->Shared->Prop)
  (turn:∀n s,I n s->wpAny (model prog w) A (pyNext it) (fun r s₁=>match r with
   |none=>R (.ok .next) s₁
   |some v=>wpAny (model prog w) A (letOwnedTupleGo target it v) (fun _ s₁'=>wpAny (model prog w) A (assign target env v) (fun _ s₂=>
     wpAny (model prog w) A (forIn ifs true fun c r=>if r=true then do let ok←isTrue c env (eval c env);pure (ForInStep.yield ok) else pure (ForInStep.yield r)) (fun ok s₃=>
      if ok=true then wpAny (model prog w) A (eval kx env) (fun x s₄=>wpAny (model prog w) A (eval vx env) (fun y s₅=>
       wpAny (model prog w) A (dictSet D x y) (fun _ s₆=>∃m,m<n/\I m s₆) (fun _ _=>False) s₅) (fun _ _=>False) s₄) (fun _ _=>False) s₃
      else∃m,m<n/\I m s₃) (fun _ _=>False) s₂) (fun _ _=>False) s₁') (fun _ _=>False) s₁) (fun _ _=>False) s)
  (n:Nat) (h:I n s):codeAny (model prog w) A (.compLoop (.DictComp kx vx [⟨target,iter,ifs,0⟩] scope pos) 0 it (.ref D) env) R s:=by
 refine codeAny_loop rfl I (fun n s hI=> ?_) n h
 show wpAny _ A ((compTurn (.DictComp kx vx [⟨target,iter,ifs,0⟩] scope pos) 0 it (.ref D) env).onRaise (fun x=>do noteFrame x env;theTreesLotGoes x)) _ _ s
 refine wpAny_noted ?_
 rw[compTurn_dict]
 refine Qaq (wpAny_standAt (Qaq (QRq (turn n s hI) (fun r s₁ h₁=> ?_) fun _ _ h'=>h'.elim)))
 cases r with
 |none=>exact Qgq h₁
 | some v=>
   refine Qaq (QRq h₁ (fun _ s₁' h₁'=> ?_) fun _ _ h'=>h'.elim)
   refine Qaq (QRq h₁' (fun _ s₂ h₂=>Qaq (QRq h₂ (fun ok s₃ h₃=> ?_) fun _ _ h'=>h'.elim)) fun _ _ h'=>h'.elim)
   cases ok with
   |false=>exact Qgq ⟨rfl,h₃⟩
   | true=>
     exact Qaq (Qaq (QRq h₃ (fun x s₄ h₄=>Qaq (QLq (QRq h₄ (fun y s₅ h₅=>Qaq (wpAny_standAt (QLq (QRq h₅ (fun _ s₆ h₆=>Qgq ⟨rfl,h₆⟩) fun _ _ h'=>h'.elim)))) fun _ _ h'=>h'.elim))) fun _ _ h'=>h'.elim))
end
def Jw(J:It)(g:TG)(tt:TT)(tk tv:TE)(Q:VK)(D:Addr)(σ:St)(H:Hp):Prop:=
 ∃ W:Nat->Nat->St->Hp->Prop,(∃m,W 0 m σ H)/\∀i m σ' H',W i m σ' H'→
   (J.stop i H'/\Q (.ref D) H')\/(J.go i H'/\∃Nx:St->Hp->Prop,(∀σ'' H'',Nx σ'' H''->∃m',m'<m/\W (i+1) m' σ'' H'')∧
     ∀ x H2,J.yld i H' x H2->g x σ' H2 fun σ3 H3=>tt σ3 H3 fun ok H4=>
       if ok=true then tk σ3 H4 fun k H5=>tv σ3 H5 fun y H6=>∃kvs ky,k=kV ky/\H6 D=some (.dK kvs)/\kvs.length<sizeLine/\Nx σ3 (upd H6 D (.dK (putK kvs ky y))) else Nx σ3 H4)
def ER(js:List (Option Nat))(wi:TI)(g:TG)(tt:TT)(tk tv:TE):TE:=fun σ H Q=>wi σ H fun J H1=>∀D,H1 D=none->Jw J g tt tk tv Q D (kB js σ) (upd H1 D (.dK []))
def E1{X:Cx}{N:List Str}{js:List (Option Nat)}{scope:Scope}{cl:List (Str×Addr)}{tg iter kx vx tgt:Expr}{ifs:List Expr}{pos spos:Pos}{wi:TI}{g gt:TG}{tt:TT}{tk tv:TE}
  (S:aU X N js scope cl) (hc:X.calm=true) (hi:PI X tg iter wi)
  (hg:∀C s H fp,PG (bo X N scope cl C s H fp) tg g) (ht:∀C s H fp,rA (bo X N scope cl C s H fp) ifs tt) (hk:∀C s H fp,PE (bo X N scope cl C s H fp) kx tk) (hv:∀C s H fp,PE (bo X N scope cl C s H fp) vx tv) (hgt:PG X tgt gt)
  (hs:∀x,foldedSetIterable iter X.env x=pure x:=by intro _;rfl) (hsw:swapsWithSole [tgt] (.DictComp kx vx [⟨tg,iter,ifs,0⟩] scope pos) spos.line X.env=pure true:=by rfl)
  (h1:(assignEach [tgt] X.env).map (·.2)= [assign tgt X.env]:=by rfl):PS X (.Assign [tgt] (.DictComp kx vx [⟨tg,iter,ifs,0⟩] scope pos) spos) (Eg (ER js wi g tt tk tv) gt):=by
 intro pins s σ H Dn I h
 rw[exec_Assign_arm]
 refine Qaq (wpAny_standAt (Qaq (wpAny_of_eq hsw (wpAny_ite_true rfl (Qaq ?_)))))
 rw[h1]
 show wpAny _ _ (do let _←comprehension _ _ _ _ _ _ _ (some fun v=>assignAll v [assign tgt X.env]);pure ()) _ _ _
 refine Qaq ?_
 refine wpAny_comprehension_free (use:=some fun v=>assignAll v [assign tgt X.env]) rfl hs S.clos S.kind S.names (di (hi pins s σ H _ I h) fun v s1 h1=>di h1 fun itv s2 h2=> ?_)
 obtain⟨it,fp,tn,J,H2,e,I2,T,st2,f2,hD⟩:=h2
 subst e
 refine wpAny_newObj_type (wpAny_newFunctionEnv S.nocell (by intro y hy;simp at hy) (fun h₁ hns₁ hsb₁=> ?_) S.kind)
 dsimp only at hns₁ hsb₁⊢
 generalize hH2:s2.heap.push {cls:=.type "dict",data:=.dict #[]}=P2 at hns₁ hsb₁⊢
 have hC:P2.objs.size=s2.heap.objs.size+1:=by rw[←hH2,Heap.size_push]
 have hDC:s2.heap.objs.size≠P2.objs.size:=by rw[hC];exact Qwq (Nat.lt_succ_self _)
 have hCle:s2.heap.objs.size<=P2.objs.size:=by rw[hC];exact Nat.le_succ _
 have below:∀b,b<s2.heap.objs.size->b≠P2.objs.size:=fun b hb=>by rw[hC];exact Qwq (Nat.lt_succ_of_lt hb)
 have old:∀b o,s2.heap.get? b=some o->h₁.get? b=some o:=fun b o e=>hsb₁.extBut b o (below b (Qiq e)) (Qcq _ (hH2▸Qcq _ e))
 have hnew:h₁.get? s2.heap.objs.size=some {cls:=.type "dict",data:=.dict #[]}:=hsb₁.extBut _ _ hDC (Qcq _ (hH2▸Qrq _ rfl))
 have nD:H2 s2.heap.objs.size=none:=I2.fresh
 have nC:H2 P2.objs.size=none:=I2.hok.fresh hCle
 have fpo:∀b∈fp,b<s2.heap.objs.size:=fun b hb=>by
  obtain⟨o,e,_⟩:=T.obj _ _ st2 b hb
  exact Qiq e
 obtain⟨W,⟨m0,w0⟩,turn⟩:=hD s2.heap.objs.size nD
 have ok':(bo X N scope cl P2.objs.size s2 H2 fp).Ok:=by
  refine⟨I2.ok.mod,S.kind,I2.ok.glob,I2.ok.blt,hCle,fun x y c h1 h2=>I2.ok.inj x y c (S.sub x c h1) (S.sub y c h2),S.has,(fun x c h=>by cases h),I2.ok.hd,I2.ok.frames,.inl rfl,
   fun b hb=>⟨below b (fpo b hb),fun x c h=>(f2 b hb).2.2.2.2.1 x c (S.sub x c h)⟩,I2.bs,QAq I2.ok.bsz I2.sz,fun b o e hb=> ?_,fun b hb z=> ?_,I2.stack,I2.stkFree⟩
  ·rcases(f2 b hb).2.2.2.1 with z|z
   ·exact I2.ok.noex b o e z
   ·exact absurd (Qqq (Qqq (Qiq e) I2.ok.bsz) z) (Nat.lt_irrefl _)
  ·rcases Qsq.mp (I2.stkSub b z) with q|q
   ·exact(f2 b hb).2.1 q
   ·exact(f2 b hb).2.2.1 q
 have hobj:dA X.prog X.w (upd H2 s2.heap.objs.size (.dK [])) h₁ s2.heap.objs.size (.dK []):=by
  obtain⟨o,es,ep,e1,e2⟩:=Heap.DictOf.new (knd:=cq X.prog X.w) s2.heap
  exact ub (Nat.zero_le _) (beq_eq_false_iff_ne.mpr (Ne.symm (Qwq I2.big))) .nil ⟨o,es,ep,hsb₁.extBut _ _ hDC (Qcq _ (hH2▸e1)),e2⟩
 have I4:Inv (bo X N scope cl P2.objs.size s2 H2 fp) [] (kB js σ) (upd H2 s2.heap.objs.size (.dK [])) {s2 with heap:=h₁,toks:=s2.toks+([]:List (Str×Value)).length}:=by
  refine⟨ok',rfl,I2.bare,Un.laid old (Qmq _) nD,⟨_,hns₁,fun i x v h1 h2 h3=> ?_⟩,fun x c h=> ?_,by show upd H2 _ _ P2.objs.size=none;rw[bA hDC.symm];exact nC,fun x c h=> ?_,fun p hp=>absurd (show p∈([]:List (Addr×Obj)) from hp) (by simp),I2.hok.laid old (Qmq _) hobj,by show(kB js σ).length=N.length;unfold kB;rw[lQm];exact S.len⟩
  ·unfold kB at h2
   rw[gQm] at h2
   cases e:js[i]? with
   |none=>rw[e] at h2;cases h2
   | some o=>
     rw[e] at h2
     cases o with
     |none=>cases h2
     | some j=>
       have h2':σ.getD j none=some v:=Option.some.inj h2
       have hj:σ[j]?=some (some v):=by
         rw[Qlq] at h2'
         cases q:σ[j]? with
         |none=>rw[q] at h2';cases h2'
         |some y=>rw[q] at h2';exact congrArg some h2'
       obtain⟨c1,c2,c3⟩:=S.cap i j x e h1
       obtain⟨m,hn,hl⟩:=I2.loc
       have vis:IA X.env.scope x:=by
         rcases c2 with z|z
         · exact .inr (.inl z)
         · exact .inr (.inr z)
       obtain⟨u,r,l⟩:=hl j x v c1 hj vis
       refine⟨u,r,.inr ⟨c3,?_⟩⟩
       obtain⟨c,hc'⟩:=S.has x c3
       refine⟨c,hc',?_⟩
       rcases l with⟨z,_⟩|⟨_,c',e',z⟩
       · rcases c2 with y|y <;>rw[y] at z <;>cases z
       · rw[S.sub x c hc'] at e'
         cases e'
         obtain⟨o,ho,hd⟩:=z
         exact⟨o,old _ _ ho,hd⟩
  ·obtain⟨v,o,ho,hd⟩:=I2.cell x c (S.sub x c h)
   exact⟨v,o,old _ _ ho,hd⟩
  ·obtain⟨v,o,ho,hd⟩:=I2.cell x c (S.sub x c h)
   rw[bA (Qwq (Qiq ho))]
   exact I2.freeC x c (S.sub x c h)
 have stat:∀{pins':List (Addr×Obj)} {H':Hp},pins'= []->(∀b∈fp,H' b=none)->∀b∈fp,qv (bo X N scope cl P2.objs.size s2 H2 fp) pins' H' b:=fun{pins' H'} ep hn b hb=>by
  subst ep
  refine⟨hn b hb,below b (fpo b hb),fun z=>ok'.exfs b hb z,.inl hb,fun x c h=>(f2 b hb).2.2.2.2.1 x c (S.sub x c h),fun p hp=>absurd (show p∈([]:List (Addr×Obj)) from hp) (by simp)⟩
 have loop:codeAny (model X.prog X.w) X.A (.compLoop (.DictComp kx vx [⟨tg,iter,ifs,0⟩] scope pos) 0 (.ref it) (.ref s2.heap.objs.size) (compEnvC scope cl P2.objs.size X.env))
   (compPost (model X.prog X.w) X.A X.xe (some fun v=>assignAll v [assign tgt X.env]) (fun _ s9=>wpAny (model X.prog X.w) X.A (pure ()) (fun _ s10=>wpAny (model X.prog X.w) X.A (pure Flow.next) (SP X pins Dn) X.xe s10) X.xe s9) (.ref s2.heap.objs.size) P2.objs.size) {s2 with heap:=h₁,toks:=s2.toks+([]:List (Str×Value)).length}:=by
  refine u0 (fun n s'=>∃i σ' H',Inv (bo X N scope cl P2.objs.size s2 H2 fp) [] σ' H' s'/\tn i s'.heap/\(∀b∈fp,H' b=none)/\W i n σ' H') ?_ m0
   ⟨0,_,_,I4,T.keep _ _ _ st2 fun b _ o e=>old b o e,fun b hb=>by rw[bA (Qwq (fpo b hb))];exact(f2 b hb).1,w0⟩
  rintro n s3 ⟨i,σ3,H3,I3,st3,fr3,w3⟩
  rcases turn i n σ3 H3 w3 with⟨stop,q⟩|⟨go,Nx,hN,step⟩
  ·refine di (T.done (bo X N scope cl P2.objs.size s2 H2 fp) rfl rfl rfl hc i [] s3 σ3 H3 _ I3 (stat rfl fr3) st3 stop) fun r s4 qr=> ?_
   obtain⟨hr,I5⟩:=qr
   subst hr
   obtain⟨m,hn,_⟩:=id I5.loc
   have toX:∀h',Heap.SameBut P2.objs.size s4.heap h'->Inv X pins σ H3 {s4 with heap:=h'}:=by
    intro h' hs'
    have u:=I5.base
    have ne:∀b o,s2.heap.get? b=some o->b≠P2.objs.size:=fun b o e=>below b (Qiq e)
    refine I2.call' (ch:=fp) I5.os ⟨fun b o e n hb hx=>(hs'.2 b (ne b o e)).trans (u.keep b o e n hb hx),fun b o e n hb hx=> ?_,u.free,fun b o e hx=> ?_,u.tups,u.frzs,u.tbls⟩ (fun b ob e=> ?_) I5.bare fun b hb=>⟨(f2 b hb).2.2.2.1,(f2 b hb).2.1,(f2 b hb).2.2.2.2.1,(f2 b hb).2.2.2.2.2⟩
    ·obtain⟨sl,e1⟩:=u.slot b o e n hb hx
     exact⟨sl,(hs'.2 b (ne b o e)).trans e1⟩
    ·obtain⟨o',e1⟩:=u.there b o e hx
     exact⟨o',(hs'.2 b (ne b o e)).trans e1⟩
    ·refine(I5.hok b ob e).stay (fun c w' hc q=>(hs'.2 c ?_).trans q) (fun _ q=>q) fun _ _ q=>q
     have fC:H3 P2.objs.size=none:=I5.free
     rintro rfl
     rcases hc with z|z
     ·rw[←z,fC] at e;cases e
     ·rw[fC] at z;cases z
   have IX:=toX s4.heap ⟨rfl,fun _ _=>rfl⟩
   have okC:qv X pins H3 P2.objs.size:=I2.fpOk hCle I5.free
   obtain⟨oC,es,ep,hoC,hdC,hrC⟩:=hn
   have IP:=IX.pinned (fp:= [P2.objs.size]) (fun b hb=>by rw[Qfq] at hb;rw[hb];exact okC) (fun b hb=>by rw[Qfq] at hb;rw[hb];exact⟨oC,hoC,fun v=>by rw[hdC];simp⟩)
   show wpAny _ _ (assignAll (.ref s2.heap.objs.size) [assign tgt X.env]) _ _ _
   rw[assignAll.eq_2]
   refine di (hgt _ s4 σ H3 (.ref s2.heap.objs.size) (.ref s2.heap.objs.size) _ IP rfl q) fun _ s6 qr=> ?_
   obtain⟨σ6,H6,I6,q6⟩:=qr
   have pC:=I6.pin (P2.objs.size,oC) (Qoq _ (Qoq _ (dZ (Qfq.mpr rfl) hoC)))
   refine⟨m,⟨oC,es,ep,pC.1,hdC,hrC⟩,fun h' hs'=>Qgq (Qgq ⟨σ6,H6,?_,q6⟩)⟩
   exact I6.unpinned.turned (it:=P2.objs.size) (t':=s6.toks) (fun b o' hb e=>(hs'.2 b hb).trans e) pC.2.1 pC.2.2.1 okC.2.2.2.1 okC.2.2.2.2.1 okC.2.2.2.2.2
  ·refine di (T.item (bo X N scope cl P2.objs.size s2 H2 fp) rfl rfl rfl hc i [] s3 σ3 H3 _ I3 (stat rfl fr3) st3 go) fun r s4 qr=> ?_
   obtain⟨u,hr,h4⟩:=qr
   subst hr
   refine di h4 fun _ s5 qr=> ?_
   obtain⟨x,H5,I5,r5,y5,st5,fr5⟩:=qr
   have I5':=I5.pinned (stat rfl fr5) (T.obj _ _ st5)
   refine di (hg P2.objs.size s2 H2 fp _ s5 σ3 H5 x u _ I5' r5 (step x H5 y5)) fun _ s6 qr=> ?_
   obtain⟨σ6,H6,I6,q6⟩:=qr
   refine di (ht P2.objs.size s2 H2 fp _ s6 σ6 H6 _ I6 q6) fun ok s7 qr=> ?_
   obtain⟨H7,I7,q7⟩:=qr
   have again:∀{s8:Shared} {H8:Hp},Inv (bo X N scope cl P2.objs.size s2 H2 fp) ([]++nR fp s5.heap) σ6 H8 s8->Nx σ6 H8->∃m,m<n/\∃i σ' H',Inv (bo X N scope cl P2.objs.size s2 H2 fp) [] σ' H' s8/\tn i s8.heap/\(∀b∈fp,H' b=none)/\W i m σ' H':=fun{s8 H8} I8 n8=>by
    obtain⟨m',hm,w8⟩:=hN σ6 H8 n8
    refine⟨m',hm,i+1,σ6,H8,I8.unpinned,T.keep _ _ _ st5 fun b hb o e=>(I8.pin (b,o) (Qoq _ (Qoq _ (dZ hb e)))).1,fun b hb=> ?_,w8⟩
    obtain⟨o,e,d⟩:=T.obj _ _ st5 b hb
    exact(I8.pin (b,o) (Qoq _ (Qoq _ (dZ hb e)))).2.1
   cases ok with
   |false=>exact again I7 q7
   | true=>
     refine di (hk P2.objs.size s2 H2 fp _ s7 σ6 H7 _ I7 q7) fun kv s8 qr=> ?_
     obtain⟨k,H8,I8,rk,q8⟩:=qr
     refine di (hv P2.objs.size s2 H2 fp _ s8 σ6 H8 _ I8 q8) fun yv s9 qr=> ?_
     obtain⟨y,H9,I9,ry,kvs,ky,ek,hx,hl,n9⟩:=qr
     subst ek
     obtain⟨z,hd,vs,rel,dd⟩:=Cp I9.hok hx
     refine wpAny_dictSet_pairs (y2 rk) dd (fun h' dd' hs'=> ?_) (by rw[←rel.length];exact z)
     have he:∃q,h'.get? s2.heap.objs.size=some q:=let ⟨q,_,_,hq,_⟩:=dd';⟨q,hq⟩
     have hl':=jA kvs ky y
     exact again (sj I9 (by rw[hx];exact True.intro) hs' he (ub (by omega) hd (rel.put ky ry) dd')) n9
 exact codeAny_compStart_dict loop (T.self _ 0 _ _ _ (T.keep _ _ _ st2 fun b _ o e=>old b o e) loop)
end L2
namespace DL
open PySem PySem.Spec PyProof.Rows L2
section
variable{M:Md}{ρ:List Addr}{H:Hp}{b:Addr}{us:List (Key×V)}{o:HO}
theorem gQ.offK{S:aH}(st:gQ M ρ S H)(hb:H b=some (.dK us))(n:b∉ρ):gQ M ρ S (upd H b o):=⟨st.len,st.nd,fun k a p h1 h2=>by
 have q:=st.obj k a p h1 h2
 have ab:a≠b:=fun z=>n (z▸mQg h1)
 cases p with
 |lst ds=>obtain⟨vs,q1,q2⟩:=q;exact⟨vs,by rw[bA ab];exact q1,q2.offK hb⟩
 |frz ds=>obtain⟨vs,o,q1,q2⟩:=q;exact⟨vs,o,by rw[bA ab];exact q1,q2.offK hb⟩
 |dct kvs=>obtain⟨kv,q1,q2⟩:=q;exact⟨kv,by rw[bA ab];exact q1,q2.imp fun _ _ r=>r.offK hb⟩⟩
def En.offK{Γ:de}{σ:L2.St}(h:En M ρ H Γ σ)(hb:H b=some (.dK us)):En M ρ (upd H b o) Γ σ:=⟨h.len,fun i d q=>by obtain⟨v,h1,h2⟩:=h.get i d q;exact⟨v,h1,h2.offK hb⟩⟩
end
open Classical in
def jJ(g:om)(t:ko)(fk fv:bH)(W:aH->Prop):List D->de->aH->List (Key×D)->Option (List (Key×D)×aH)
 | [],Γ,S,acc=>if W S then some (acc,S) else none
 |d ::ds,Γ,S,acc=>if W S then(g d Γ S).bind fun(Γ1,S1)=>(t Γ1 S1).bind fun(k,S2)=>
    if k=true then(fk Γ1 S2).bind fun(x,S3)=>(fv Γ1 S3).bind fun(y,S4)=>(vn x).bind fun kk=>if acc.length<sizeLine then jJ g t fk fv W ds Γ1 S4 (putD acc kk y) else none
    else jJ g t fk fv W ds Γ1 S2 acc
  else none
def sR(js:List (Option Nat))(i:yY)(g:om)(t:ko)(fk fv:bH):de->aH->Option (List (Key×D)×aH):=fun Γ S=>(i Γ S).bind fun(p,S1)=>jJ g t fk fv p.2 p.1 (nQ js Γ) S1 []
def HD{M:Md}{js:List (Option Nat)}{i:yY}{g:om}{t:ko}{fk fv:bH}{σ:L2.St}{H:Hp}{Q:VK}{ρ:List Addr}{Γ:de}{S S':aH}{l:List (Key×D)}(ok:Ok M ρ Γ S σ H)(e:sR js i g t fk fv Γ S=some (l,S'))
  (q:∀ρ' a kv H',cK ρ H ρ' H'->gQ M ρ' S' H'->H a=none->a∉ρ'->H' a=some (.dK kv)->cQ M ρ' H' l kv->Q (.ref a) H'):ER js (tI M i) (tG M g) (tB M t) (tD M fk) (tD M fv) σ H Q:=by
 obtain⟨⟨⟨ds,W⟩,S1⟩,e1,e⟩:=aq e
 refine⟨ρ,Γ,S,ds,W,S1,ok,e1,fun ρ1 J H1 x1 st1 wk D hD=> ?_⟩
 have n1:D∉ρ1:=dR x1 st1 hD
 have ok1:Ok M ρ1 (nQ js Γ) S1 (kB js σ) (upd H1 D (.dK [])):=⟨((ok.en.ext x1).ext (cK.laid hD)).sig js,st1.lay hD⟩
 refine⟨fun i m σ' H'=>m=ds.length-i/\i<=ds.length/\∃ρ2 Γ2 S2 acc vs,cK ρ1 H1 ρ2 H'/\Ok M ρ2 Γ2 S2 σ' H'/\D∉ρ2/\H' D=some (.dK vs)/\cQ M ρ2 H' acc vs/\jJ g t fk fv W (ds.drop i) Γ2 S2 acc=some (l,S'),
  ⟨ds.length,by simp,Nat.zero_le _,ρ1,_,S1,[],[],cK.laid hD,ok1,n1,cj,rfl,e⟩,?_⟩
 rintro i m σ2 H2 ⟨rfl,hi,ρ2,Γ2,S2,acc,vs,x2,ok2,n2,hD2,racc,e2⟩
 by_cases hlt:i<ds.length
 ·have hd:ds[i]?=some ds[i]:=gQe hlt
  rw[QWq hlt] at e2
  unfold jJ at e2
  split at e2
  ·rename_i w
   obtain⟨w1,w2⟩:=wk i ρ2 S2 H2 x2 ok2.st w
   obtain⟨go,yld⟩:=w1 _ hd
   refine .inr ⟨go,fun σ' H'=>∃ρ' Γ' S'' acc vs,cK ρ1 H1 ρ' H'/\Ok M ρ' Γ' S'' σ' H'/\D∉ρ'/\H' D=some (.dK vs)/\cQ M ρ' H' acc vs/\jJ g t fk fv W (ds.drop (i+1)) Γ' S'' acc=some (l,S'),
    fun σ' H' ⟨ρ',Γ',S'',acc,vs,h1,h2,h3,h4,h5,h6⟩=>⟨ds.length-(i+1),by omega,rfl,hlt,ρ',Γ',S'',acc,vs,h1,h2,h3,h4,h5,h6⟩,fun x H3 hy=> ?_⟩
   obtain⟨x3,st3,r3⟩:=yld x H3 hy
   obtain⟨⟨Γ4,S4⟩,e4,e5⟩:=aq e2
   refine⟨ρ2,Γ2,S2,_,Γ4,S4,ok2.to x3 st3,r3,e4,fun ρ4 σ4 H4 x4 ok4=> ?_⟩
   obtain⟨⟨k,S5⟩,e6,e7⟩:=aq e5
   refine⟨ρ4,Γ4,S4,k,S5,ok4,e6,fun ρ5 H5 x5 st5=> ?_⟩
   have x25:=(x3.trans x4).trans x5
   have keep:∀{ρ' H'},cK ρ2 H2 ρ' H'->H' D=some (.dK vs)/\D∉ρ':=fun{ρ' H'} x=>⟨x.keep _ _ hD2 (.inl n2),fun m=>(x.new _ m).elim n2 fun z=>by rw[z] at hD2;cases hD2⟩
   dsimp only at e7⊢
   split at e7
   ·rename_i ck
    rw[Qhq ck]
    obtain⟨⟨kx,S6⟩,e8,e9⟩:=aq e7
    obtain⟨⟨y,S7⟩,e10,e11⟩:=aq e9
    obtain⟨kk,e12,e13⟩:=aq e11
    refine⟨ρ5,Γ4,S5,kx,S6,ok4.to x5 st5,e8,fun ρ6 kv H6 x6 st6 r6=>⟨ρ6,Γ4,S6,y,S7,(ok4.to x5 st5).to x6 st6,e10,fun ρ7 v H7 x7 st7 r7=> ?_⟩⟩
    have x27:=(x25.trans x6).trans x7
    obtain⟨hD7,n7⟩:=keep x27
    have racc7:=racc.ext' x27
    split at e13
    ·rename_i cl
     refine⟨vs,kk,se r6 e12,hD7,by rw[←racc.length];exact cl,ρ7,Γ4,S7,putD acc kk y,_,(x2.trans x27).off hD _,⟨(((ok4.en.ext x5).ext x6).ext x7).offK hD7,st7.offK hD7 n7⟩,n7,cj,(racc7.put r7).imp fun _ _ r=>r.offK hD7,e13⟩
    ·cases e13
   ·rename_i ck
    rw[Quq ck]
    obtain⟨hD5,n5⟩:=keep x25
    exact⟨ρ5,Γ4,S5,acc,vs,x2.trans x25,ok4.to x5 st5,n5,hD5,racc.ext' x25,e7⟩
  ·cases e2
 ·have e3:i=ds.length:=by omega
  subst e3
  rw[List.drop_length] at e2
  unfold jJ at e2
  split at e2
  ·rename_i w
   obtain⟨rfl,rfl⟩:=cH e2
   obtain⟨w1,w2⟩:=wk ds.length ρ2 S2 H2 x2 ok2.st w
   exact .inl ⟨w2 rfl,q ρ2 D vs H2 (x1.trans x2) ok2.st (x1.grow _ hD) n2 hD2 racc⟩
  ·cases e2
noncomputable def Mu(n:Nat)(f:de->aH->Option (List (Key×D)×aH)):dm:=fun Γ S=>(f Γ S).bind fun(l,S1)=>some (.nx (Γ.set n (some (.ref S1.length))) (S1++ [.dct l]))
section
variable{X:Cx}{pos:Pos}
def G0{N:List Str}{js:List (Option Nat)}{scope:Scope}{cl:List (Str×Addr)}{tg iter kx vx tgt:Expr}{ifs:List Expr}{i:yY}{g:om}{t:ko}{fk fv:bH}{n:Nat}{spos:Pos}
  (S:aU X N js scope cl) (hc:X.calm=true) (hi:PI X tg iter (tI (md X) i))
  (hg:∀C s H fp,PG (bo X N scope cl C s H fp) tg (tG (md X) g)) (ht:∀C s H fp,rA (bo X N scope cl C s H fp) ifs (tB (md X) t)) (hk:∀C s H fp,PE (bo X N scope cl C s H fp) kx (tD (md X) fk)) (hv:∀C s H fp,PE (bo X N scope cl C s H fp) vx (tD (md X) fv)) (hgt:PG X tgt (uj n))
  (hs:∀x,foldedSetIterable iter X.env x=pure x:=by intro _;rfl) (hsw:swapsWithSole [tgt] (.DictComp kx vx [⟨tg,iter,ifs,0⟩] scope pos) spos.line X.env=pure true:=by rfl)
  (h1:(assignEach [tgt] X.env).map (·.2)= [assign tgt X.env]:=by rfl):PS X (.Assign [tgt] (.DictComp kx vx [⟨tg,iter,ifs,0⟩] scope pos) spos) (tS (md X) (Mu n (sR js i g t fk fv))):=
 CP (E1 S hc hi hg ht hk hv hgt hs hsw h1) fun D σ H qq=>by
  obtain⟨ρ,Γ,S,o,ok,e,q⟩:=qq
  obtain⟨⟨l,S1⟩,e1,e⟩:=aq e
  cases e
  refine HD ok e1 fun ρ' a kv H' x st fr nr ha rs=> ?_
  have st':=st.box (o:=.dct l) nr ⟨kv,ha,rs.pre' (List.prefix_append ρ' [a])⟩
  have x':cK ρ H (ρ'++ [a]) H':=⟨x.pre.trans (List.prefix_append _ _),fun b hb=>by
   rcases mQa.mp hb with hb|hb
   ·exact x.new b hb
   ·rw[Qfq] at hb;subst hb;exact .inr fr,x.keep,x.grow⟩
  refine q (ρ'++ [a]) _ H' x' ⟨((ok.en.ext x').set (.ref ?_)),st'⟩
  rw[←st.len,QQq (Qmq _)]
  simp
end
end DL
namespace Zp
open PySem PySem.W PyProof.Rows
def jV(lt:Nat->Nat->Bool):KasT (Array Nat)->Array Nat
 |.ret p=>p
 |.ask i j k=>jV lt (k (lt i j))
theorem iY(lt:Nat->Nat->Bool):∀t:KasT (Array Nat),jV lt t∈qd t
 |.ret p=>by simp[jV,qd]
 | .ask i j k=>by
   unfold jV qd
   cases lt i j with
   |true=>exact List.mem_append_left _ (iY lt (k true))
   |false=>exact Qoq _ (iY lt (k false))
theorem w_{cmp:Nat->Nat->(Bool->Shared->Prop)->Shared->Prop}{Q:Array Nat->Shared->Prop}{s:Shared}{n:Nat}{lt:Nat->Nat->Bool}(hc:∀i j C,i<n->j<n->i≠j->C (lt i j) s->cmp i j C s):
  ∀t:KasT (Array Nat),t5 n t=true->Q (jV lt t) s->t.kasWp cmp Q s
 |.ret p,_,h=>h
 | .ask i j k,ha,h=>by
   simp only[t5,QCq,decide_eq_true_eq] at ha
   obtain⟨⟨⟨⟨h1,h2⟩,h3⟩,h4⟩,h5⟩:=ha
   refine hc i j _ h1 h2 h3 ?_
   cases e:lt i j with
   |true=>exact w_ hc (k true) h4 (by unfold jV at h;rw[e] at h;exact h)
   |false=>exact w_ hc (k false) h5 (by unfold jV at h;rw[e] at h;exact h)
def KG(fs:List Str)(i j:Nat):Bool:=decide ((fs.getD i "").cps.toList<(fs.getD j "").cps.toList)
noncomputable def sortBy{α:Type}(fs:List Str)(d:α)(xs:List α):List α:=if xs.length<2 then xs else(jV (KG fs) (kas_sort xs.length)).toList.map fun i=>xs.getD i d
def eZ{α:Type}{d:α}(fs:List Str)(xs:List α)(h:xs.length<=3):(sortBy fs d xs).Perm xs:=by
 unfold sortBy
 split
 ·exact List.Perm.refl _
 ·rename_i h2
  obtain⟨_,perm⟩:=su xs.length h (by omega)
  have hp:(jV (KG fs) (kas_sort xs.length)).toList.Perm (List.range xs.length):=List.isPerm_iff.mp (QUq.mp perm _ (iY _ _))
  have e:(List.range xs.length).map (fun i=>xs.getD i d)=xs:=by
   apply List.ext_getElem
   ·simp
   ·intro i h1 h2
    simp[Qlq,h2]
  have:=hp.map fun i=>xs.getD i d
  rw[e] at this
  exact this
section
variable{prog:Program}{w:World}{A:Around}{E:Value->Shared->Prop}{s:Shared}
def Be{a:Addr}{vs:List Value}{fs:List Str}{n:Nat}{P:PySem.Fin->Shared->Prop}(ho:s.heap.get? a=some (seqObj "list" vs.toArray n))(h3:vs.length<=3)(ht:e_ s.heap vs fs)(hd:fs.Nodup)
  (q:∀out:Array Value,out.toList=sortBy fs Value.none vs->P (.done (.ret .none)) {s with heap:=sortedHeap s.heap a vs out}):wpAny (model prog w) A (Builtin.«list.sort» ⟨[.ref a],[]⟩) P E s:=by
 rw[list_sort_plain]
 have ha:a<s.heap.objs.size:=Qiq ho
 refine Qaq (listItems_at ho rfl (Qaq (listUpdate_at ho rfl ?_ (by rw[Qjq,sizeLine_eq];omega) (Nat.zero_le _))))
 obtain⟨e1,ho1⟩:∃e1,(s.heap.update a (Obj.mapSeq fun _=> #[])).get? a=some (seqObj "list" #[] e1):=⟨_,get?_update_seq ho (fun _=> #[])⟩
 refine Qaq (seqEpoch_at ho1 rfl (Qaq (wpAny_newTuple ?_ (by show vs.length<=_;rw[sizeLine_eq];omega))))
 refine Qaq (wpAny_newList (QLq ?_) (Nat.zero_le _))
 have ho6:(((s.heap.update a (Obj.mapSeq fun _=> #[])).push (seqObj "tuple" vs.toArray 0)).push (seqObj "list" #[] 0)).get? a=some (seqObj "list" #[] e1):=Qcq _ (Qcq _ ho1)
 have ht6:e_ (((s.heap.update a (Obj.mapSeq fun _=> #[])).push (seqObj "tuple" vs.toArray 0)).push (seqObj "list" #[] 0)) vs fs:=ht.keep fun b o e c=>by
  have nb:b≠a:=fun z=>by rw[z,ho] at e;cases e;simp[seqObj] at c
  exact Qcq _ (Qcq _ (by rw[Heap.get?_update_ne _ _ _ _ nb];exact e))
 refine(?_:wpAny (model prog w) A _ P E {s with heap:=((s.heap.update a (Obj.mapSeq fun _=> #[])).push (seqObj "tuple" vs.toArray 0)).push (seqObj "list" #[] 0)})
 dsimp only
 by_cases h2:vs.toArray.size<2
 ·rw[Qhq h2,Qhq h2]
  refine Qaq (Qgq ?_)
  rw[StateT.run_pure]
  refine Qaq (Qgq ?_)
  dsimp only
  have e2:((vs.toArray.zip vs.toArray).map (·.2))=vs.toArray:=by
   apply Array.toList_inj.mp
   simp
   exact List.map_snd_zip (Qmq _)
  refine Qaq (seqEpoch_at ho6 rfl (Qaq (listUpdate_at ho6 rfl ?_ (hsz2:=by
   refine QAq (Nat.le_of_eq (congrArg Array.size e2)) ?_
   rw[Qjq,sizeLine_eq]
   omega))))
  simp only[bne_self_eq_false,Bool.false_eq_true,if_false]
  refine Qgq ?_
  have:=q vs.toArray (by unfold sortBy;rw[Qhq (by simpa using h2)])
  rw[←e2] at this
  exact this
 ·rw[Quq h2,Quq h2]
  have hn:2<=vs.length:=by simpa using h2
  obtain⟨gs,kt,lg,mg⟩:=ht6.firsts
  have lf:=ht.len
  refine Qaq (kat_kind (T:=.type "str") kt (by omega) (fun v hv=> ?_) rfl ?_)
  ·obtain⟨x,t,rfl⟩:=mg v hv
   exact .now
  obtain⟨ok,perm⟩:=su vs.length h3 hn
  have est:SortSt.mk' (tuples' true) (vs.toArray.zip vs.toArray) #[] 7 none=kas_st (tuples' true) (pairsOf vs) (List.toArray (List.range vs.length)):=by
   have e:=kas_range (pairsOf vs)
   rw[pairsOf_size] at e
   refine(?_:SortSt.mk' (tuples' true) (pairsOf vs) #[] 7 none=SortSt.mk' (tuples' true) ((List.toArray (List.range vs.length)).map (kas_item (pairsOf vs))) #[] 7 none)
   rw[e]
  refine(?_:wpAny (model prog w) A (StateT.run sortRuns' (SortSt.mk' (tuples' true) (vs.toArray.zip vs.toArray) #[] 7 none) >>= _) P E _)
  rw[est]
  have run:=kas_runs (prog:=prog) (w:=w) (A:=A) (E:=E) (κ:=tuples' true) (it:=pairsOf vs) (n:=vs.length)
   (s:={s with heap:=((s.heap.update a (Obj.mapSeq fun _=> #[])).push (seqObj "tuple" vs.toArray 0)).push (seqObj "list" #[] 0)})
   (G:=fun p s'=>p=jV (KG fs) (kas_sort vs.length)/\s'={s with heap:=((s.heap.update a (Obj.mapSeq fun _=> #[])).push (seqObj "tuple" vs.toArray 0)).push (seqObj "list" #[] 0)})
   (Q:=fun _ st' s'=>s'={s with heap:=((s.heap.update a (Obj.mapSeq fun _=> #[])).push (seqObj "tuple" vs.toArray 0)).push (seqObj "list" #[] 0)}/\failedOf st'=none/\∃p,p=jV (KG fs) (kas_sort vs.length)/\arrOf st'=p.map (kas_item (pairsOf vs)))
   hn (by omega) (fun p' st' s' a1 a2 a3 a4=>⟨a4.2,a3,p',a4.1,a2⟩) (w_ (n:=vs.length) (fun i j C hi hj hij hC=> ?_) _ ok ⟨rfl,rfl⟩)
  ·refine Qaq (QRq run ?_ fun _ _ e=>e)
   rintro⟨⟨⟩,st'⟩ s' ⟨rfl,hf,p,hp,har⟩
   dsimp only
   have hout:((arrOf st').map (·.2)).toList=sortBy fs Value.none vs:=by
    unfold sortBy
    rw[Quq (by omega),har,Array.map_map,Array.toList_map,hp]
    refine List.map_congr_left fun k _=> ?_
    show(kas_item (pairsOf vs) k).2=_
    rw[kas_item_eq]
   have hperm2:=eZ (d:=Value.none) fs vs h3
   have hsz:((arrOf st').map (·.2)).size=vs.length:=by
    have:=congrArg List.length hout
    rw[hperm2.length_eq] at this
    simpa using this
   refine Qaq (seqEpoch_at ho6 rfl (Qaq (listUpdate_at ho6 rfl ?_ (hsz2:=by
    refine QAq (Nat.le_of_eq hsz) ?_
    rw[sizeLine_eq]
    omega))))
   rw[hf]
   simp only[bne_self_eq_false,Bool.false_eq_true,if_false]
   exact Qgq (q _ hout)
  ·unfold kas_cmp
   rw[kas_item_eq,kas_item_eq]
   obtain⟨x,ox,xs,nx,tx,ex,gx,dx,fx⟩:=ht6.get (i:=i) (by omega)
   obtain⟨y,oy,ys,ny,ty,ey,gy,dy,fy⟩:=ht6.get (i:=j) (by omega)
   dsimp only
   rw[ex,ey]
   have hne:¬fs.getD i ""=fs.getD j "":=fun z=>by
    have hi':i<fs.length:=by omega
    have hj':j<fs.length:=by omega
    rw[Qlq,Qlq,gQe hi',gQe hj'] at z
    have z':fs[i]=fs[j]:=z
    rcases Nat.lt_or_gt_of_ne hij with lt|lt
    ·exact List.pairwise_iff_getElem.mp hd i j hi' hj' lt z'
    ·exact List.pairwise_iff_getElem.mp hd j i hj' hi' lt z'.symm
   refine kat_lt gx dx gy dy ?_
   obtain⟨xr,hxr⟩:∃r,xs.toList=.str (fs.getD i "") tx::r:=by
    cases e:xs.toList with
    |nil=>have:=congrArg (·[0]?) e;simp[fx] at this
    |cons v r=>have:=congrArg (·[0]?) e;simp[fx] at this;exact⟨r,by rw[Qlq,this]⟩
   obtain⟨yr,hyr⟩:∃r,ys.toList=.str (fs.getD j "") ty::r:=by
    cases e:ys.toList with
    |nil=>have:=congrArg (·[0]?) e;simp[fy] at this
    |cons v r=>have:=congrArg (·[0]?) e;simp[fy] at this;exact⟨r,by rw[Qlq,this]⟩
   rw[hxr,hyr,List.zip_cons_cons]
   refine kat_cons (wpAny_eqBool_str ?_)
   rw[Qdq hne]
   exact kat_no (oneLt_str hC)
def yz{l:Addr}{vs:List Value}{fs:List Str}{Q:Value->Shared->Prop}(hl:s.heap.IsList l vs.toArray)(h3:vs.length<=3)(ht:e_ s.heap vs fs)(hd:fs.Nodup)
  (q:∀out:Array Value,out.toList=sortBy fs Value.none vs->Q (.ref (s.heap.objs.size+1)) {s with heap:=sortedAll s.heap vs out}):wpAny (model prog w) A (call (.builtin "sorted") [.ref l]) Q E s:=by
 refine Calls.call_function_entry kind_sorted plain_sorted entry_sorted (args_sorted1 _) ?_
 unfold Builtin.«sorted»
 refine Qaq (m:=checkCount "sorted" 1 1 _) (Qgq (Qaq (collect_list hl (Qaq (wpAny_newList ?_ (by rw[sizeLine_eq];omega))) (by rw[sizeLine_eq];omega))))
 have sz:((s.heap.push (seqObj "list" #[] 0)).update s.heap.objs.size (Obj.mapSeq (·++vs.toArray))).objs.size=s.heap.objs.size+1:=by rw[Heap.size_update,size_push']
 have gl:(((s.heap.push (seqObj "list" #[] 0)).update s.heap.objs.size (Obj.mapSeq (·++vs.toArray))).push (seqObj "list" vs.toArray 0)).get? (s.heap.objs.size+1)=some (seqObj "list" vs.toArray 0):=by
  rw[←sz]
  exact Qrq _ rfl
 have ht':e_ (((s.heap.push (seqObj "list" #[] 0)).update s.heap.objs.size (Obj.mapSeq (·++vs.toArray))).push (seqObj "list" vs.toArray 0)) vs fs:=ht.keep fun b o e _=>by
  have lt:b<s.heap.objs.size:=Qiq e
  refine Qcq _ ?_
  rw[Heap.get?_update_ne _ _ _ _ (Qwq lt)]
  exact Qcq _ e
 refine(?_:wpAny _ _ _ _ _ {s with heap:=((s.heap.push (seqObj "list" #[] 0)).update s.heap.objs.size (Obj.mapSeq (·++vs.toArray))).push (seqObj "list" vs.toArray 0)})
 rw[sz]
 refine Qaq (QLq (wpAny_call_entry slot_list_sort ⟨_,gl,rfl⟩ entry_list_sort (Be gl h3 ht' hd fun out hp=>⟨_,rfl,?_⟩) (args_list_sort _)))
 exact Qgq ⟨_,rfl,q out hp⟩
end
end Zp
namespace L2
open PySem PySem.Spec PyProof.Rows
section
variable{X:Cx}
def Hx(K:PySem.W.Frag):List V->Hp->VK->Prop:=fun xs H Q=>∃(a:Addr) (rs:List Addr) (ss:List Str),xs= [.ref a]/\iK K H a (rs.map V.ref)/\rs.length<=3/\vQ H rs ss/\ss.Nodup/\∀(l:Addr),H l=none->Q (.ref l) (upd H l (.lst ((Zp.sortBy ss 0 rs).map V.ref)))
def vd:i4 X (.builtin "sorted") (Hx X.K):=by
 intro pins s σ H xs us Q I r h
 obtain⟨a,rs,ss,rfl,ha,h3,hF,hd,q⟩:=h
 obtain⟨u,rfl,rx⟩:=vals1 r
 cases (show u=Value.ref a from rx)
 obtain⟨its,rv,pl,hz⟩:=I.list ha
 cases wx rv
 have big:s.heap.objs.size<=s.heap.objs.size+1:=Nat.le_succ _
 refine Zp.yz pl.isList (by simpa using h3) (zq I hF) hd fun out hp=> ?_
 have e1:out.toList=(Zp.sortBy ss 0 rs).map Value.ref:=by
  rw[hp]
  unfold Zp.sortBy
  rw[lQm]
  split
  ·rfl
  ·rename_i h2
   rw[QPq]
   obtain⟨_,perm⟩:=Zp.su rs.length h3 (by omega)
   have hperm:(Zp.jV (Zp.KG ss) (PySem.W.kas_sort rs.length)).toList.Perm (List.range rs.length):=List.isPerm_iff.mp (QUq.mp perm _ (Zp.iY _ _))
   refine List.map_congr_left fun i hi=> ?_
   have hl:i<rs.length:=List.mem_range.mp (hperm.mem_iff.mp hi)
   show(rs.map Value.ref).getD i Value.none=Value.ref (rs.getD i 0)
   rw[Qlq,Qlq,gQm,gQe hl]
   rfl
 obtain⟨e,he⟩:=sortedAll_at s.heap (rs.map Value.ref) out
 refine⟨.ref (s.heap.objs.size+1),_,I.laid (a:=s.heap.objs.size+1) (o:=.lst ((Zp.sortBy ss 0 rs).map V.ref)) (h':=sortedAll s.heap (rs.map Value.ref) out) (t':=s.toks) (fun b o hb=>sortedAll_old hb) big ⟨?_,out.toList,e,?_,?_⟩,rfl,q _ (I.hok.fresh big)⟩
 ·rw[lQm,(Zp.eZ ss rs h3).length_eq]
  exact QAq h3 (by decide)
 ·have:=tE (Zp.sortBy ss 0 rs)
  rw[←e1] at this
  exact this
 ·simpa using he
end
end L2
namespace DL
open PySem PySem.Spec PyProof.Rows L2
def vA(a b:Str):Prop:=¬(b.cps.toList<a.cps.toList)
instance(a b:Str):Decidable (vA a b):=by unfold vA;infer_instance
def D9(a b:Str):vA a b\/vA b a:=by
 by_cases h:b.cps.toList<a.cps.toList
 ·exact .inr fun h'=>List.lt_asymm h h'
 ·exact .inl h
def vO{a b c:Str}(h1:vA a b)(h2:vA b c):vA a c:=by
 unfold vA at *
 rw[List.not_lt] at *
 exact List.le_trans h1 h2
def F5{a b:Str}(h1:vA a b)(h2:vA b a):a=b:=by
 unfold vA at *
 rw[List.not_lt] at *
 have:=List.le_antisymm h1 h2
 cases a
 cases b
 simp only[Str.mk.injEq]
 exact Array.toList_inj.mp this
def Bm(x:Str):List Str->List Str
 | []=> [x]
 |y::r=>if vA x y then x::y::r else y::Bm x r
def qj:List Str->List Str
 | []=> []
 |x::r=>Bm x (qj r)
theorem pX(x:Str):∀l:List Str,(Bm x l).Perm (x::l)
 | []=>List.Perm.refl _
 | y::r=>by
   unfold Bm
   split
   · exact List.Perm.refl _
   · exact((pX x r).cons y).trans (List.Perm.swap _ _ _)
theorem jy:∀l:List Str,(qj l).Perm l
 | []=>List.Perm.refl _
 |x::r=>(pX x _).trans ((jy r).cons x)
theorem rg{x:Str}:∀{l:List Str},l.Pairwise vA->(Bm x l).Pairwise vA
 | [],_=>by simp[Bm]
 | y::r,h=>by
   rw[List.pairwise_cons] at h
   unfold Bm
   split
   · rename_i c
     refine List.pairwise_cons.mpr ⟨fun z hz=> ?_,List.pairwise_cons.mpr h⟩
     rcases Qsq.mp hz with rfl|hz
     · exact c
     · exact vO c (h.1 z hz)
   · rename_i c
     refine List.pairwise_cons.mpr ⟨fun z hz=> ?_,rg h.2⟩
     rcases Qsq.mp ((pX x r).mem_iff.mp hz) with rfl|hz
     · exact(D9 _ _).resolve_left c
     · exact h.1 z hz
theorem mU:∀l:List Str,(qj l).Pairwise vA
 | []=>List.Pairwise.nil
 |x::r=>rg (mU r)
def yI:∀{l:List Str},sortedS l=true->l.Pairwise vA
 | [],_=>List.Pairwise.nil
 | x::r,h=>by
   have go:∀(r:List Str) (x:Str),risingS x r=true->(x::r).Pairwise vA:=by
     intro r
     induction r with
     |nil=>intro x _;simp
     | cons y r ih=>
       intro x h
       unfold risingS at h
       simp only[QCq] at h
       have h2:=ih y h.2
       have xy:vA x y:=by
         have:=h.1
         unfold vA
         rw[ltCps_eq] at this
         simpa using this
       refine List.pairwise_cons.mpr ⟨fun z hz=> ?_,h2⟩
       rcases Qsq.mp hz with rfl|hz
       · exact xy
       · exact vO xy ((List.pairwise_cons.mp h2).1 z hz)
   exact go r x h
def Dm{out ss:List Str}(h:sortedS out=true)(p:out.Perm ss):out=qj ss:=
 List.Perm.eq_of_pairwise (le:=vA) (fun a b _ _ h1 h2=>F5 h1 h2) (yI h) (mU ss) (p.trans (jy ss).symm)
end DL
namespace L2
open PySem PySem.Spec PyProof.Rows
section
variable{X:Cx}
def Ew:Ln X "tuple.count" (fun x vs H Q=>∃a xs y,x=.ref a/\vs= [y]/\hZ X.K H a xs/\fO y=true/\xs.all fO=true/\Q (.int ((xs.countP fun z=>jE z y:Nat):Int)) H):=by
 intro pins s σ H x vs v us Q I rx rv h
 obtain⟨a,xs,y,rfl,rfl,hq,fy,fs,q⟩:=h
 cases rx
 obtain⟨u,rfl,ru⟩:=rv.one
 obtain⟨its,r,pl,hz⟩:=I.tuple hq
 obtain⟨⟨cls,dd,dat,sl⟩,e,hc,n,hd⟩:=pl
 simp only at hc hd
 subst hc hd
 have cnt:∀{xs:List V} {its:List Value},bM xs its->xs.all fO=true->its.countP (yR y)=xs.countP fun z=>jE z y:=by
  intro xs its r
  induction r with
  |nil=>intro _;rfl
  | cons h t ih=>
    intro f
    simp only[List.all_cons,QCq] at f
    rw[List.countP_cons,List.countP_cons,ih f.2,uM h f.1]
 refine call_meets PySem.F.slot_tuple_count ⟨_,e,rfl⟩ PySem.F.entry_tuple_count (PySem.F.args_tuple_count_2 _ _)
  (SeqAt.tuple_countAt a its.toArray n dd sl u (yR y))
  ⟨e,fun w hw=>iW ru fy r fs w (by simpa using hw),⟨.int _,H,I.tok _,⟨_,rfl⟩,?_⟩⟩
 rw[cnt r fs]
 exact q
end
end L2
namespace DL
open PySem PySem.Spec L2
section
variable{X:Cx}{a b e:Expr}{pos:Pos}
def wR:List D->Option (List Str)
 | []=>some []
 |.str x::r=>(wR r).bind fun xs=>some (x::xs)
 |_::_=>none
theorem Ai{M:Md}{ρ:List Addr}{H:Hp}:∀{ds:List D} {vs:List V} {xs:List Str},bt M ρ H ds vs->wR ds=some xs->vs=xs.map V.str
 | [],_,_,h,e=>by cases h;cases e;rfl
 | d::ds,_,_,h,e=>by
   cases d with
   | str b=>
     simp only[wR] at e
     obtain⟨bs',e1,e⟩:=aq e
     cases e
     cases h with
     | cons h hs=>
       cases h
       rw[Ai hs e1]
       rfl
   |_=>cases e
theorem vS{M:Md}{ρ:List Addr}{H:Hp}:∀ss:List Str,bt M ρ H (ss.map D.str) (ss.map V.str)
 | []=>.nil
 |s::ss=>.cons (.str s) (vS ss)
noncomputable def B3(f:eF):h_:=fun Γ S=>(f Γ S).bind fun(p,S1)=>if p.2.isL=true then(wR p.1).bind fun ss=>if ss.length<64 then some ((qj ss).map D.str,S1) else none else none
def Fw{f:eF}{p:Pos}(hg:Gl X "sorted")(hm:X.mg "sorted"=none)(ha:PE X a (tQ (md X) f))(hs:starEach [a] X.env= [(false,eval a X.env)]:=by rfl):
  PE X (.Call (.Name "sorted" p) [a] [] pos) (tL (md X) (B3 f)):=
 kb (dJ xS hg hm PyProof.Rows.boot_sorted (dB ha fZ hs) (he:=hs)) fun σ H Q qq=>by
  obtain⟨ρ,Γ,S,d,S',ok,e,q⟩:=qq
  obtain⟨⟨⟨ds,t⟩,S1⟩,e1,e⟩:=aq e
  dsimp only at e
  split at e
  ·rename_i c
   obtain⟨ss,e2,e⟩:=aq e
   split at e
   ·rename_i c2
    obtain⟨rfl,rfl⟩:=cH e
    refine⟨ρ,Γ,S,ds,t,S1,ok,e1,fun ρ' a vs H' x st h r=>⟨a,ss,rfl,?_,c2,fun l out hl h1 h2=> ?_⟩⟩
    ·rw[←Ai r e2];exact h.sqL c
    ·cases Dm h1 h2
     exact q _ _ _ _ (x.trans (cK.laid hl)) (st.lay hl) (x.grow _ hl) (dR x st hl) cj (vS _)
   ·cases e
  ·cases e
def qR:List D->Option (List Str)
 | []=>some []
 |.tup (.str x::_)::r=>(qR r).bind fun xs=>some (x::xs)
 |_::_=>none
theorem zv{M:Md}{ρ:List Addr}{H:Hp}:∀{ds:List D} {vs:List V} {xs:List Str},bt M ρ H ds vs->qR ds=some xs->∃rs:List Addr,vs=rs.map V.ref/\vQ H rs xs
 | [],_,_,h,e=>by cases h;cases e;exact⟨[],rfl,.nil⟩
 | .tup (.str x::us)::r,_,_,h,e=>by
   simp only[qR] at e
   obtain⟨bs',e1,e⟩:=aq e
   cases e
   cases h with
   | cons h hs=>
     cases h with
     | tup h hr=>
       obtain⟨rs,rfl,F⟩:=zv hs e1
       cases hr with
       | cons hx hr=>
         cases hx
         exact⟨_::rs,rfl,.cons h F⟩
 |.tup (.non::_)::_,_,_,_,e=>by cases e
 |.tup (.bl _::_)::_,_,_,_,e=>by cases e
 |.tup (.int _::_)::_,_,_,_,e=>by cases e
 |.tup (.tup _::_)::_,_,_,_,e=>by cases e
 |.tup (.ref _::_)::_,_,_,_,e=>by cases e
 |.tup (.fn _::_)::_,_,_,_,e=>by cases e
 |.tup []::_,_,_,_,e=>by cases e
 |.non::_,_,_,_,e=>by cases e
 |.bl _::_,_,_,_,e=>by cases e
 |.int _::_,_,_,_,e=>by cases e
 |.str _::_,_,_,_,e=>by cases e
 |.ref _::_,_,_,_,e=>by cases e
 |.fn _::_,_,_,_,e=>by cases e
def sN(ss:List Str)(ds:List D):List D:=Zp.sortBy ss .non ds
def sE{α β:Type}{R:α->β->Prop}{ss:List Str}{xs:List α}{ys:List β}{d:α}{d':β}(hl:xs.length=ys.length)(h3:xs.length<=3)(h:∀(i:Nat) (x:α),xs[i]?=some x->∃y,ys[i]?=some y/\R x y):
  ∀(i:Nat) (x:α),(Zp.sortBy ss d xs)[i]?=some x->∃y,(Zp.sortBy ss d' ys)[i]?=some y/\R x y:=by
 intro i x e
 unfold Zp.sortBy at *
 rw[←hl]
 split at e
 ·rename_i c;rw[Qhq c];exact h i x e
 ·rename_i h2
  obtain⟨_,perm⟩:=Zp.su xs.length h3 (by omega)
  have hperm:(Zp.jV (Zp.KG ss) (PySem.W.kas_sort xs.length)).toList.Perm (List.range xs.length):=List.isPerm_iff.mp (QUq.mp perm _ (Zp.iY _ _))
  rw[gQm] at e
  obtain⟨k,hk,e⟩:=oQm.mp e
  have hlt:k<xs.length:=List.mem_range.mp (hperm.mem_iff.mp (mQg hk))
  have ex:xs[k]?=some x:=by
   rw[Qlq,gQe hlt] at e
   rw[gQe hlt]
   exact congrArg some e
  obtain⟨y,ey,r⟩:=h k x ex
  refine⟨y,?_,r⟩
  rw[Quq (by omega),gQm,hk]
  simp[Qlq,ey]
theorem bt.of_get{M:Md}{ρ:List Addr}{H:Hp}:∀{ds:List D} {vs:List V},ds.length=vs.length->(∀(i:Nat) (d:D),ds[i]?=some d->∃v,vs[i]?=some v/\Rel M ρ H d v)->bt M ρ H ds vs
 | [],[],_,_=>.nil
 | [],_::_,h,_=>by cases h
 |_::_,[],h,_=>by cases h
 | d::ds,v::vs,h,g=>by
   obtain⟨v',e,r⟩:=g 0 d rfl
   cases e
   exact .cons r (bt.of_get (Nat.succ.inj h) fun i d hd=>by
     obtain⟨v,e,r⟩:=g (i+1) d (by simpa using hd)
     exact⟨v,by simpa using e,r⟩)
noncomputable def xv(f:eF):h_:=fun Γ S=>(f Γ S).bind fun(p,S1)=>if p.2.isL=true then(qR p.1).bind fun ss=>if p.1.length<=3/\ss.Nodup then some (sN ss p.1,S1) else none else none
def Dp{f:eF}{p:Pos}(hg:Gl X "sorted")(hm:X.mg "sorted"=none)(ha:PE X a (tQ (md X) f))(hs:starEach [a] X.env= [(false,eval a X.env)]:=by rfl):
  PE X (.Call (.Name "sorted" p) [a] [] pos) (tL (md X) (xv f)):=
 kb (dJ vd hg hm PyProof.Rows.boot_sorted (dB ha fZ hs) (he:=hs)) fun σ H Q qq=>by
  obtain⟨ρ,Γ,S,d,S',ok,e,q⟩:=qq
  obtain⟨⟨⟨ds,t⟩,S1⟩,e1,e⟩:=aq e
  dsimp only at e
  split at e
  ·rename_i c
   obtain⟨ss,e2,e⟩:=aq e
   split at e
   ·rename_i c2
    obtain⟨rfl,rfl⟩:=cH e
    refine⟨ρ,Γ,S,ds,t,S1,ok,e1,fun ρ' a vs H' x st h r=> ?_⟩
    obtain⟨rs,rfl,F⟩:=zv r e2
    have hl:ds.length=rs.length:=by have:=r.length;simpa using this
    refine⟨a,rs,ss,rfl,h.sqL c,by omega,F,c2.2,fun l hl'=> ?_⟩
    refine q _ _ _ _ (x.trans (cK.laid hl')) (st.lay hl') (x.grow _ hl') (dR x st hl') cj (bt.ext (cK.laid hl') ?_)
    refine bt.of_get ?_ fun i d hd=> ?_
    ·rw[lQm]
     unfold sN
     rw[(Zp.eZ ss ds c2.1).length_eq,(Zp.eZ ss rs (by omega)).length_eq,hl]
    ·obtain⟨y,ey,r'⟩:=sE (R:=fun(d:D) (a:Addr)=>Rel (md X) ρ' H' d (.ref a)) (d':=0) hl c2.1 (fun i d hd=>by
      obtain⟨v,ev,rv⟩:=r.get hd
      rw[gQm] at ev
      obtain⟨y,ey,rfl⟩:=oQm.mp ev
      exact⟨y,ey,rv⟩) i d hd
     exact⟨.ref y,by rw[gQm,ey];rfl,r'⟩
   ·cases e
  ·cases e
end
def Cc{P:Program}{w:World}{K:PySem.W.Frag}{mg:Str->Option Value}{base:Heap}{f:Addr}{fd:FuncData}{ps:List Str}{k n:Nat}:bF P w K mg base eE k f fd ps (eT ⟨K,mg⟩ n fun _ _=>none):=
 {len:=fun vs H Q E h=>by
   obtain⟨_,_,_,_,_,_,_,_,e,_⟩:=h
   cases e
  run:=fun A outer s H args us vs Q E _ _ _ _ h=>by
   obtain⟨_,_,_,_,_,_,_,_,e,_⟩:=h
   cases e}
end DL
namespace Zq
open PySem PyProof.Rows
end Zq
namespace L2
open PySem PyProof.Rows Zq
end L2
namespace DL
open PySem PySem.Spec L2
section
variable{X:Cx}{a b c e:Expr}{pos:Pos}
noncomputable def jG(o o':rq)(f g h:bH):bH:=fun Γ S=>(f Γ S).bind fun(x,S1)=>(g Γ S1).bind fun(y,S2)=>(o S2 x y).bind fun d=>match d with
 |.bl true=>(h Γ S2).bind fun(z,S3)=>(o' S3 y z).bind fun d'=>some (d',S3)
 |.bl false=>some (.bl false,S2)
 |_=>none
def G9{r r':R2}{o o':rq}{f g h:bH}(hk:jd (md X) r o)(hk':jd (md X) r' o'):∀σ H Q,tD (md X) (jG o o' f g h) σ H Q->Fb r r' (tD (md X) f) (tD (md X) g) (tD (md X) h) σ H Q:=fun σ H Q qq=>by
 obtain⟨ρ,Γ,S,d,S',ok,e,q⟩:=qq
 obtain⟨⟨x,S1⟩,e1,e⟩:=aq e
 obtain⟨⟨y,S2⟩,e2,e⟩:=aq e
 obtain⟨d1,e3,e⟩:=aq e
 refine⟨ρ,Γ,S,x,S1,ok,e1,fun ρ1 v H1 x1 st1 r1=>⟨ρ1,Γ,S1,y,S2,ok.to x1 st1,e2,fun ρ2 w H2 x2 st2 r2=> ?_⟩⟩
 refine hk st2 (r1.ext x2) r2 e3 fun w' H3 x3 st3 r3=> ?_
 dsimp only at e
 split at e
 ·cases r3
  obtain⟨⟨z,S3⟩,e4,e⟩:=aq e
  obtain⟨d2,e5,e⟩:=aq e
  obtain⟨rfl,rfl⟩:=cH e
  refine⟨true,rfl,?_⟩
  rw[Qhq rfl]
  refine⟨ρ2,Γ,S2,z,S3,((ok.to x1 st1).to x2 st2).to x3 st3,e4,fun ρ4 v4 H4 x4 st4 r4=> ?_⟩
  exact hk' st4 ((r2.ext x3).ext x4) r4 e5 fun v5 H5 x5 st5 r5=>q _ _ _ ((((x1.trans x2).trans x3).trans x4).trans x5) st5 r5
 ·cases r3
  obtain⟨rfl,rfl⟩:=cH e
  refine⟨false,rfl,?_⟩
  rw[Quq (by decide)]
  exact q _ _ _ ((x1.trans x2).trans x3) st3 (.bl false)
 ·cases e
def Co{op op':CmpOp}{r r':R2}{o o':rq}{f g h:bH}(ho:jf X (compareOp op) r)(hk:jd (md X) r o)(ho':jf X (compareOp op') r')(hk':jd (md X) r' o')(ha:PE X a (tD (md X) f))(hb:PE X b (tD (md X) g))(hc:PE X c (tD (md X) h))(hm:lastMarks [op,op'] [b,c]=false:=by with_unfolding_all rfl):
  PE X (.Compare a [op,op'] [b,c] pos) (tD (md X) (jG o o' f g h)):=kb (FY ho ho' ha hb hc hm) (G9 hk hk')
end
structure Cg(P:Program)(w:World)(K:PySem.W.Frag)(mg:Str->Option Value)(x:Str)(tbl:List (Str×Str)):Prop where
 at_:∃a,mg x=some (.ref a)/\∀h:Heap,K.In h->∃vs,h.DictOf (cq P w) a vs/\∀k nm,tbl.lookup k=some nm->∃f,valueAt vs (Sum.inr k:Key)=some (.ref f)/\mg nm=some (.ref f)
section
variable{X:Cx}{a b c e:Expr}{pos:Pos}
def Mj(tbl:List (Str×Str))(g:bH):bH:=fun Γ S=>(g Γ S).bind fun(y,S1)=>match y with
 |.str x=>(tbl.lookup x).bind fun nm=>some (.fn nm,S1)
 |_=>none
def H_{x:Str}{tbl:List (Str×Str)}{g:bH}{p:Pos}(hD:Cg X.prog X.w X.K X.mg x tbl)(hg:Gl X x)(hb:PE X b (tD (md X) g))(hs:Ia b)(hd:(x==("__debug__":Str))=false:=by decide):
  PE X (.Subscript (.Name x p) b pos) (tD (md X) (Mj tbl g)):=by
 rintro pins s σ H Q I ⟨ρ,Γ,S,d,S',ok,e,q⟩
 obtain⟨a,hm,hK⟩:=hD.at_
 obtain⟨⟨y,S1⟩,e1,e⟩:=aq e
 cases y with
 | str z=>
   obtain⟨nm,e2,e⟩:=aq e
   obtain⟨rfl,rfl⟩:=cH e
   refine CY PySem.F.slot_dict_getitem.lookup hs (xI I hg hm ?_ hd)
   refine di (hb pins s σ H (fun v H'=>∃ρ',cK ρ H ρ' H'/\gQ (md X) ρ' S1 H'/\Rel (md X) ρ' H' (.str z) v) I ⟨ρ,Γ,S,_,S1,ok,e1,fun ρ' v H' x st r=>⟨ρ',x,st,r⟩⟩) fun iv s2 qr=> ?_
   obtain⟨v,H2,I2,rv,ρ',x2,st2,r2⟩:=qr
   obtain⟨vs,dd,hv⟩:=hK _ I2.kIn
   obtain⟨f,hf,hmf⟩:=hv z nm e2
   cases r2
   have ty:s2.TypeIs (.ref a) "dict":=by
     obtain⟨o,es,ep,h1,h2,h3,_⟩:=dd
     exact⟨o,h1,h2.1⟩
   refine⟨ty,wpAny_getItem_of (y2 (k:=Sum.inr z) rv) dd.mapOf hf ?_⟩
   exact⟨.ref f,H2,I2.tok _,rfl,q _ _ _ x2 st2 (.fn hmf)⟩
 |_=>cases e
def uv(i:Nat)(T:List (Str×dU))(g:h_):bH:=fun Γ S=>match Γ[i]? with
 |some (some (.fn x))=>(T.lookup x).bind fun F=>ay F g Γ S
 |_=>none
def HM{i k:Nat}{y:Str}{ps:List Str}{T:List (Str×dU)}{es:List Expr}{g:h_}{p:Pos}(hT:∀x F,T.lookup x=some F->fI X.prog X.w X.K X.mg X.base k x ps F)(hr:fS k X.A)(hN:X.N[i]?=some y)(hv:IA X.env.scope y)
  (ha:PA X (e::es) (zf (md X) g)) (hn:nA ps.length g) (hdb:(y==("__debug__":Str))=false:=by decide) (hcd:(y==("__classdict__":Str))=false:=by decide) (he:starEach (e::es) X.env=(false,eval e X.env)::starEach es X.env:=by rfl) (hpl:(backTo pos (starEach es X.env)).any (·.1)=false:=by rfl):
  PE X (.Call (.Name y p) (e::es) [] pos) (tD (md X) (uv i T g)):=by
 rintro pins s σ H Q I ⟨ρ,Γ,S,d,S',ok,e,q⟩
 unfold uv at e
 split at e
 ·rename_i x hx
  obtain⟨F,e1,e⟩:=aq e
  obtain⟨f,fd,G,bb,kp,m⟩:=(hT x F e1).ex
  obtain⟨v,hσ,rv⟩:=ok.en.get i _ hx
  cases rv with
  | fn hm=>
    have hh:(md X).mg x=some (.ref f):=m
    rw[hm] at hh
    cases hh
    refine wpAny_Call_Name_kw (di (FV hN hv hdb hcd pins s σ H (fun v' H'=>v'=.ref f/\H'=H) I ⟨_,hσ,rfl,rfl⟩) fun u s1 qr=> ?_)
    obtain⟨v',H',I1,r1,e1,e2⟩:=qr
    subst e1 e2
    cases (show u=Value.ref f from r1)
    refine PySem.W.callWith_K (h₀:=X.base) I.ok.mod.kin kp (di (ha pos pins s1 σ H' _ I1 (Cz hn σ H' Q ⟨ρ,Γ,S,d,S',ok,e,q⟩)) fun us s2 ⟨vs,H1,I2,r,q2⟩=>⟨I2.kIn,?_⟩) he hpl
    exact Gu G hr bb .nil Fq I2 r q2
 ·cases e
end
def Bb(w:World)(x:Str):PyData.keyHash w.params x=hashStr w x:=by
 unfold PyData.keyHash hashStr
 first|rfl|simp
inductive Al(w:World)(mg:Str->Option Value):List DictEntry->List (Str×Str)->Prop
 |nil:Al w mg [] []
 |cons {x nm:Str} {t:Tok} {f:Addr} {es:List DictEntry} {tbl:List (Str×Str)}:mg nm=some (.ref f)->Al w mg es tbl->Al w mg (⟨PyData.keyHash w.params x,.str x t,.ref f⟩::es) ((x,nm)::tbl)
def Al.keys{P:Program}{w:World}{mg:Str->Option Value}{es:List DictEntry}{tbl:List (Str×Str)}(al:Al w mg es tbl):∀e∈es,∃k,(cq P w).is k e.key=true/\e.hash=(cq P w).hash k:=by
 induction al with
 |nil=>intro e h;cases h
 | @cons x nm t f es tbl hm al ih=>
   intro e h
   rcases Qsq.mp h with rfl|h
   · exact⟨Sum.inr x,qp x t,Bb w x⟩
   · exact ih e h
def Al.pairs{P:Program}{w:World}{mg:Str->Option Value}{es:List DictEntry}{tbl:List (Str×Str)}(al:Al w mg es tbl):∃vs:List (Key×Value),Pairs (cq P w) es vs/\vs.map (·.1)=tbl.map (fun p=>Sum.inr p.1)∧
  ∀k nm,tbl.lookup k=some nm->∃f,valueAt vs (Sum.inr k:Key)=some (.ref f)/\mg nm=some (.ref f):=by
 induction al with
 |nil=>exact⟨[],.nil,rfl,fun k nm h=>by cases h⟩
 | @cons x nm t f es tbl hm al ih=>
   obtain⟨vs,h1,h2,h3⟩:=ih
   refine⟨(Sum.inr x,.ref f)::vs,.cons (qp x t) rfl h1,by simp[h2],fun k n h=> ?_⟩
   by_cases c:k=x
   · subst c
     rw[List.lookup_cons_self] at h
     cases h
     refine⟨f,?_,hm⟩
     unfold valueAt
     rw[List.find?_cons_of_pos (by simp)]
     rfl
   · have hb:(k==x)=false:=by simpa using c
     rw[List.lookup_cons,hb] at h
     obtain⟨g,g1,g2⟩:=h3 k n h
     refine⟨g,?_,g2⟩
     unfold valueAt at g1⊢
     rw[List.find?_cons_of_neg]
     · exact g1
     · intro z
       have:(Sum.inr x:Key)=Sum.inr k:=by simpa using z
       exact c (Sum.inr.inj this).symm
def EX{P:Program}{w:World}{K:PySem.W.Frag}{mg:Str->Option Value}{x:Str}{tbl:List (Str×Str)}{a:Addr}{es:List DictEntry}{ep:Nat}(hm:mg x=some (.ref a))(l:K.lookup a=some ⟨.type "dict",none,.dict es.toArray ep,#[]⟩)(al:Al w mg es tbl)(nd:(tbl.map (·.1)).Nodup):Cg P w K mg x tbl:=by
 obtain⟨vs,h1,h2,h3⟩:=al.pairs (P:=P)
 refine⟨a,hm,fun h hk=>⟨vs,⟨_,_,_,hk _ _ l,⟨rfl,rfl,rfl⟩,rfl,fun e he=>al.keys e (by simpa using he),by simpa using h1,?_⟩,h3⟩⟩
 rw[h2]
 have:tbl.map (fun p=>(Sum.inr p.1:Key))=(tbl.map (·.1)).map Sum.inr:=by rw[QPq];rfl
 rw[this]
 exact List.Pairwise.map _ (fun a b n e=>n (Sum.inr.inj e)) nd
theorem FX{P:Program}{w:World}{K:PySem.W.Frag}{mg:Str->Option Value}{base:Heap}{k:Nat}{ps:List Str}:∀{T:List (Str×dU)},(∀p∈T,fI P w K mg base k p.1 ps p.2)->∀x F,T.lookup x=some F->fI P w K mg base k x ps F
 | [],_,x,F,h=>by cases h
 | p::T,g,x,F,h=>by
   by_cases c:x=p.1
   · subst c
     rw[List.lookup_cons_self] at h
     cases h
     exact g p (QBq ..)
   · have hb:(x==p.1)=false:=by simpa using c
     rw[List.lookup_cons,hb] at h
     exact FX (fun q hq=>g q (Qpq _ hq)) x F h
def z9:Sp:=fun vs H Q _=>∃(a:Addr) (ns:List Int) (o:Obj),vs= [.ref a]/\H a=some (.frz o (.lst (ns.map V.int)))/\ns.length<=63/\∀H',Q (.bl true) H'
theorem qh{M:Md}{ρ:List Addr}{H:Hp}:∀ns:List Int,bt M ρ H (ns.map D.int) (ns.map V.int)
 | []=>.nil
 |s::ss=>.cons (.int s) (qh ss)
def Hw{P:Program}{w:World}{K:PySem.W.Frag}{mg:Str->Option Value}{base:Heap}{k:Nat}{f:Addr}{fd:FuncData}{ps:List Str}{F:dU}(G:bF P w K mg base eE k f fd ps (eT ⟨K,mg⟩ 1 F))
  (h:∀ns:List Int,ns.length<=63->∃S',F [.ref 0] [.frz (ns.map D.int)]=some (.d (.bl true),S')):bF P w K mg base eE k f fd ps z9:=
 G.imp fun vs H Q E qq=>by
  obtain⟨a,ns,o,e,ha,hl,q⟩:=qq
  subst e
  obtain⟨S',e⟩:=h ns hl
  refine⟨[a],[.frz (ns.map D.int)],[.ref 0],_,S',rfl,.cons (.ref rfl) .nil,⟨rfl,by simp,fun k b o' h1 h2=> ?_⟩,e,fun ρ' v H' x st r=> ?_⟩
  ·cases k with
   |zero=>cases h1;cases h2;exact⟨_,o,ha,qh ns⟩
   |succ k=>simp at h1
  ·cases r
   exact q H'
def BK(K:PySem.W.Frag):Bool:=K.all fun p=>match p.2.data with|.seq _ _=>(match p.2.cls with|.type s=>s !="list" |_=>true)|_=>true
def Du{K:PySem.W.Frag}(h:BK K=true){a:Addr}{o:Obj}(e:K.lookup a=some o){its:Array Value}{n:Nat}(hd:o.data=.seq its n):o.cls≠.type "list":=by
 intro hc
 have gen:∀(K:List (Addr×Obj)),K.all (fun p=>match p.2.data with|.seq _ _=>(match p.2.cls with|.type s=>s !="list" |_=>true)|_=>true)=true->K.lookup a=some o->False:=by
  intro K
  induction K with
  |nil=>intro _ e;cases e
  | cons p K ih=>
    intro h e
    rw[List.all_cons,QCq] at h
    obtain⟨b,q⟩:=p
    rw[List.lookup_cons] at e
    by_cases c:a=b
    · subst c
      simp only[BEq.rfl] at e
      cases e
      have h1:=h.1
      simp only[hd,hc] at h1
      simp at h1
    · have hb:(a==b)=false:=by simpa using c
      rw[hb] at e
      exact ih h.2 e
 exact gen K h e
def LH{K:PySem.W.Frag}{H:Hp}{a:Addr}{ns:List Int}(nl:BK K=true)(hl:ns.length<=63)(hO:HW H)(hS:iK K H a (ns.map V.int)):z9 [.ref a] H (fun v _=>v=.bl true) fun _ _ _=>False:=by
 rcases hS with(h|⟨o,h⟩)|⟨o,its,n,h,hc,_,hd,_⟩
 ·rcases hO a with z|⟨o,xs,z⟩
  ·rw[h] at z;cases z
  ·rw[h] at z;cases z
 ·exact⟨a,ns,o,rfl,h,hl,fun _=>rfl⟩
 ·exact absurd hc (Du nl h hd)
def KN{l:PySem.W.OpenLaw}{q:Program}{loose:List Str}{XP:(Str->Option Value)->Heap->Prop}{YP:World->Heap->Prop}{d:DefRec}{K:Params->PySem.W.Frag}{k:Nat}(hn:l.most=some 63)(hdf:d.params.defaults= [])(hr:fS k PySem.callerA)
  (hY:∀(w:World) (h:Heap),YP w h->(K w.params).In h) (nl:∀w:World,BK (K w.params)=true)
  (F:∀(w:World) (mg:Str->Option Value) (fa:Addr) (h:Heap),(K w.params).In h->h.Ns mainGlobals mg->mg d.name=some (.ref fa)→
   ∃fd:FuncData,(∀(s:Shared) (u:Value),BindsTo s fd ⟨[u],[]⟩ [("_law_script",u)])/\∀base:Heap,(K w.params).In base->base.Ns mainGlobals mg->bF l.prog w (K w.params) mg base eE k fa fd ["_law_script"] z9):
  PySem.W.WalkO q loose XP YP l.row.toRowW d [] (fun f vs=>PySem.call f vs):=
 L2.HQ (n:=63) (k:=k) (x:="_law_script") (CX:=fun _=>eE) (sp:=fun _=>z9) hn (by decide) hdf hr hY F (fun w H a ns hl hO hS=>LH (nl w) hl hO hS) fun _ _ _ _ _ z=>z
end DL
namespace DL
open PySem PySem.Spec L2 PyProof.Rows
section
variable{X:Cx}{x:Str}{e:Expr}{f:bH}{pos pos':Pos}
def bB(i:Nat)(hN:X.N.Nodup)(he:PE X e (tD (md X) f))(hi:X.N[i]?=some x:=by rfl)(hx:Loc X.env.scope x:=by first|exact Or.inl rfl|exact Or.inr rfl)(hs:swapsWith e (some (.Name x pos')) pos.line X.env=pure false:=by rfl)
  (hf:X.fn x=true\/X.env.scope.names.lookup x=some .local:=by first|exact .inl rfl|exact .inr rfl|assumption):PS X (.Assign [.Name x pos'] e pos) (tS (md X) (bj i f)):=LB (Js hN hi hx he hs hf)
def Ka(i:Nat)(hN:X.N.Nodup)(hi:X.N[i]?=some x:=by rfl)(hx:Loc X.env.scope x:=by first|exact Or.inl rfl|exact Or.inr rfl)(hf:X.fn x=true\/X.env.scope.names.lookup x=some .local:=by first|exact .inl rfl|exact .inr rfl|assumption):PG X (.Name x pos) (uj i):=xj hN hi hx hf
def bz(i:Nat)(hN:X.N.Nodup)(hi:X.N[i]?=some x:=by rfl)(hx:Loc X.env.scope x:=by first|exact Or.inl rfl|exact Or.inr rfl)(hf:X.fn x=true\/X.env.scope.names.lookup x=some .local:=by first|exact .inl rfl|exact .inr rfl|assumption):PG X (.Name x pos) (tG (md X) (bQ i)):=EB (xj hN hi hx hf)
def eR{N:List Str}{scope:Scope}{cl:List (Str×Addr)}{C:Addr}{s:Shared}{H:Hp}{fp:List Addr}(i:Nat)(hN:N.Nodup:=by decide +kernel)(hi:(bo X N scope cl C s H fp).N[i]?=some x:=by rfl)(hx:Loc (bo X N scope cl C s H fp).env.scope x:=by first|exact Or.inl rfl|exact Or.inr rfl)
  (hf:(bo X N scope cl C s H fp).fn x=true\/(bo X N scope cl C s H fp).env.scope.names.lookup x=some .local:=by first|exact .inl rfl|exact .inr rfl|assumption):PG (bo X N scope cl C s H fp) (.Name x pos) (tG (md (bo X N scope cl C s H fp)) (bQ i)):=EB (xj hN hi hx hf)
def v_(i:Nat)(hN:X.N[i]?=some x:=by rfl)(hv:IA X.env.scope x:=by first|exact Or.inl rfl|exact Or.inr (Or.inl rfl)|exact Or.inr (Or.inr rfl))(hd:(x==("__debug__":Str))=false:=by decide)(hcd:(x==("__classdict__":Str))=false:=by decide):PE X (.Name x pos) (tD (md X) (ak i)):=Lw (pv i hN hv hd hcd)
end
section
variable{X:Cx}{x:Str}{k k':Nat}{ps:List Str}{F:dU}{e:Expr}{es:List Expr}{g:h_}{p pos:Pos}
def aN(C:fI X.prog X.w X.K X.mg X.base k x ps F)(hr:fS k' X.A)(ha:PA X (e::es) (zf (md X) g))(hk:k<=k':=by first|decide|omega)(hg:Gl X x:=by rfl)
  (hn:nA ps.length g:=by repeat (first|exact Bk|refine mC ?_))
  (hdb:(x==("__debug__":Str))=false:=by decide) (he:starEach (e::es) X.env=(false,eval e X.env)::starEach es X.env:=by rfl) (hpl:(backTo pos (starEach es X.env)).any (·.1)=false:=by rfl):
  PE X (.Call (.Name x p) (e::es) [] pos) (tD (md X) (ay F g)):=LQ C (hr.mono hk) hg ha hn hdb he hpl
def jD(C:fI X.prog X.w X.K X.mg X.base k x ps F)(hr:fS k' X.A)(ha:PA X (e::es) (zf (md X) g))(hk:k<=k':=by first|decide|omega)(hg:Gl X x:=by rfl)
  (hn:nA ps.length g:=by repeat (first|exact Bk|refine mC ?_))
  (hdb:(x==("__debug__":Str))=false:=by decide) (he:starEach (e::es) X.env=(false,eval e X.env)::starEach es X.env:=by rfl) (hpl:(backTo pos (starEach es X.env)).any (·.1)=false:=by rfl):
  PE X (.Call (.Name x p) (e::es) [] pos) (tL (md X) (d0 F g)):=Lc C (hr.mono hk) hg ha hn hdb he hpl
end
def fN{N P:List Str}{sc:Scope}(a:sc.kind=.function:=by rfl)(b:sc.isCoroutine=false:=by rfl)(c:sc.isGenerator=false:=by rfl)(d:N.Nodup:=by decide +kernel)(e:N.take P.length=P:=by rfl)
  (f:∀x∈P,sc.names.lookup x=some .local\/sc.names.lookup x=some .cell:=by decide +kernel) (g:∀y∈sc.names,y.2≠.free:=by decide +kernel):aL N P sc:=⟨a,b,c,d,e,f,g⟩
structure bq(K:PySem.W.Frag)(x:Str)(st:Stmt)(f:Addr):Prop where
 ex:∃(oc:Value) (od:Option Addr) (kV dc pm:Value) (an:Option Addr) (cd ct:Value) (sl:Array (Option Value)),PySem.W.nsIn K mainGlobals x=some (some (.ref f))∧
  K.lookup f=some ⟨oc,od,.func (PySem.W.fnOf x x (iz st) (gN st) (aD st) .none kV dc pm an cd ct),sl⟩/\PySem.W.codeIn K cd x=true/\PySem.W.keepIn K (.ref f)=true
def bq.of{K:PySem.W.Frag}{x:Str}{st:Stmt}{f:Addr}{oc:Value}{od:Option Addr}{kV dc pm:Value}{an:Option Addr}{cd ct:Value}{sl:Array (Option Value)}(a:PySem.W.nsIn K mainGlobals x=some (some (.ref f)))
  (l:K.lookup f=some ⟨oc,od,.func (PySem.W.fnOf x x (iz st) (gN st) (aD st) .none kV dc pm an cd ct),sl⟩) (c:PySem.W.codeIn K cd x=true) (k:PySem.W.keepIn K (.ref f)=true):bq K x st f:=⟨oc,od,kV,dc,pm,an,cd,ct,sl,a,l,c,k⟩
structure MI(K:PySem.W.Frag)(mg:Str->Option Value)(x:Str)(st:Stmt)(ps:List Str)(f:Addr):Prop where
 ex:∃fd,eV K x x st f fd/\Binds K fd ps []/\PySem.W.keepIn K (.ref f)=true
 m:mg x=some (.ref f)
def bq.ok1{K:PySem.W.Frag}{mg:Str->Option Value}{x:Str}{st:Stmt}{ps:List Str}{f:Addr}{h:Heap}(D:bq K x st f)(X:K.In h)(G:h.Ns mainGlobals mg)
  (hb:∀(kV doc pm:Value) (an:Option Addr) (cdv ct:Value) (us:List Value),us.length=ps.length->bindArgs (PySem.W.fnOf x x (iz st) (gN st) (aD st) .none kV doc pm an cdv ct) ⟨us,[]⟩=pure (ps.zip us):=by intro _ _ _ _ _ _ us hl;rcases us with _|⟨_,_|⟨_,_|⟨_,_|⟨_,_|⟨_,_|⟨_,_⟩⟩⟩⟩⟩⟩ <;>first|rfl|cases hl):MI K mg x st ps f:=by
 obtain⟨oc,od,kV,dc,pm,an,cd,ct,sl,h1,h2,h3,h4⟩:=D.ex
 exact⟨⟨_,Bg h2 h3 h4,(Bg h2 h3 h4).binds hb,h4⟩,PySem.W.mg_of X G h1⟩
structure Pk(P:Program)(w:World)(base:Heap):Prop where
def MI.cal{P:Program}{w:World}{base:Heap}{K:PySem.W.Frag}{mg:Str->Option Value}{x:Str}{st:Stmt}{ps:List Str}{f:Addr}{k:Nat}{F:dU}(O:MI K mg x st ps f)(Z:Pk P w base)
  (h:∀fd,eV K x x st f fd->Binds K fd ps []->PySem.W.keepIn K (.ref f)=true->mg x=some (.ref f)->bF P w K mg base eE k f fd ps (eT ⟨K,mg⟩ ps.length F)):fI P w K mg base k x ps F:=by
 obtain⟨fd,h1,h2,h3⟩:=O.ex
 exact⟨f,fd,h fd h1 h2 h3 O.m,h2,h3,O.m⟩
end DL
namespace DL
open PySem PySem.Spec L2
def E{α:Type}(f:de->aH->Option (α×aH))(Γ:de)(S:aH)(Q:α->aH->Prop):Prop:=∃a S',f Γ S=some (a,S')/\Q a S'
def T(f:dm)(Γ:de)(S:aH)(Q:Out->Prop):Prop:=∃o,f Γ S=some o/\Q o
def Fn(F:dU)(ds:List D)(S:aH)(Q:Res->aH->Prop):Prop:=∃r S',F ds S=some (r,S')/\Q r S'
def Tg(g:om)(d:D)(Γ:de)(S:aH)(Q:de->aH->Prop):Prop:=∃Γ' S',g d Γ S=some (Γ',S')/\Q Γ' S'
def Ms(g:rE)(d:List D)(Γ:de)(S:aH)(Q:de->aH->Prop):Prop:=∃Γ' S',g d Γ S=some (Γ',S')/\Q Γ' S'
def Op{α:Type}(o:Option α)(Q:α->Prop):Prop:=∃d,o=some d/\Q d
section
variable{Γ:de}{S:aH}
def E.mono{α:Type}{f:de->aH->Option (α×aH)}{Q R:α->aH->Prop}(h:E f Γ S Q)(i:∀a S,Q a S->R a S):E f Γ S R:=by
 obtain⟨a,S',e,q⟩:=h
 exact⟨a,S',e,i _ _ q⟩
def T.mono{f:dm}{Q R:Out->Prop}(h:T f Γ S Q)(i:∀o,Q o->R o):T f Γ S R:=by
 obtain⟨a,e,q⟩:=h
 exact⟨a,e,i _ q⟩
def fG{i:Nat}{d:D}{Q:D->aH->Prop}(h:Γ[i]?=some (some d))(q:Q d S):E (ak i) Γ S Q:=⟨d,S,by unfold ak;rw[h],q⟩
def KI{d:D}{Q:D->aH->Prop}(q:Q d S):E (cF d) Γ S Q:=⟨d,S,rfl,q⟩
def Mf{Q:List D->aH->Prop}(q:Q [] S):E au Γ S Q:=⟨[],S,rfl,q⟩
def Jm{f:bH}{g:h_}{Q:List D->aH->Prop}(h:E f Γ S fun d S1=>E g Γ S1 fun ds S2=>Q (d::ds) S2):E (aj f g) Γ S Q:=by
 obtain⟨d,S1,e1,ds,S2,e2,q⟩:=h
 exact⟨_,_,by unfold aj;rw[e1];simp only[Qbq];rw[e2];rfl,q⟩
def Br{o:rq}{f g:bH}{Q:D->aH->Prop}(h:E f Γ S fun x S1=>E g Γ S1 fun y S2=>Op (o S2 x y) fun d=>Q d S2):E (aC o f g) Γ S Q:=by
 obtain⟨x,S1,e1,y,S2,e2,d,e3,q⟩:=h
 exact⟨d,S2,by unfold aC;rw[e1];simp only[Qbq];rw[e2];simp only[Qbq];rw[e3];rfl,q⟩
def Nk{f:h_}{Q:D->aH->Prop}(h:E f Γ S fun ds S1=>ds.length<=sizeLine/\Q (.tup ds) S1):E (bg f) Γ S Q:=by
 obtain⟨ds,S1,e1,l,q⟩:=h
 exact⟨_,_,by unfold bg;rw[e1];simp only[Qbq];rw[Qhq l],q⟩
def Mo{f:h_}{Q:List D->aH->Prop}(h:E f Γ S fun ds S1=>ds.length<=sizeLine/\Q ds S1):E (bP f) Γ S Q:=by
 obtain⟨ds,S1,e1,l,q⟩:=h
 exact⟨_,_,by unfold bP;rw[e1];simp only[Qbq];rw[Qhq l],q⟩
def LV{f:h_}{Q:D->aH->Prop}(h:E f Γ S fun ds S1=>Q (.ref S1.length) (S1++ [.lst ds])):E (cO f) Γ S Q:=by
 obtain⟨ds,S1,e1,q⟩:=h
 exact⟨_,_,by unfold cO;rw[e1];rfl,q⟩
def M0{o:Iw}{f:h_}{Q:D->aH->Prop}(h:E f Γ S fun ds S1=>Op (o ds) fun d=>Q d S1):E (yP o f) Γ S Q:=by
 obtain⟨ds,S1,e1,d,e2,q⟩:=h
 exact⟨d,S1,by unfold yP;rw[e1];simp only[Qbq];rw[e2];rfl,q⟩
def qT{f:bH}{Q:(List D×Tag)->aH->Prop}(h:E f Γ S fun d S1=>Op (uf S1 d) fun p=>Q p S1):E (aX f) Γ S Q:=by
 obtain⟨ds,S1,e1,d,e2,q⟩:=h
 exact⟨d,S1,by unfold aX;rw[e1];simp only[Qbq];rw[e2];rfl,q⟩
def oU{f:h_}{Q:(List D×Tag)->aH->Prop}(h:E f Γ S fun ds S1=>Q (ds,.fr) S1):E (gA f) Γ S Q:=by
 obtain⟨ds,S1,e1,q⟩:=h
 exact⟨_,S1,by unfold gA;rw[e1];rfl,q⟩
def Mh{f:eF}{Q:D->aH->Prop}(h:E f Γ S fun p S1=>Q (.int p.1.length) S1):E (ie f) Γ S Q:=by
 obtain⟨p,S1,e1,q⟩:=h
 exact⟨_,S1,by unfold ie;rw[e1];rfl,q⟩
def Ki{f:eF}{Q:D->aH->Prop}(h:E f Γ S fun p S1=>Q (.tup p.1) S1):E (tupQ f) Γ S Q:=by
 obtain⟨p,S1,e1,q⟩:=h
 exact⟨_,S1,by unfold tupQ;rw[e1];rfl,q⟩
def KD{f:eF}{Q:(List D×Tag)->aH->Prop}(h:E f Γ S fun p S1=>p.2.isL=true/\Q p S1):E (iE f) Γ S Q:=by
 obtain⟨p,S1,e1,l,q⟩:=h
 exact⟨_,S1,by unfold iE;rw[e1];simp only[Qbq];rw[Qhq l],q⟩
def C6{f:eF}{Q:D->aH->Prop}(h:E f Γ S fun p S1=>(p.2.isL=true/\p.2.stays S1 p.1)/\Q (.bl (!p.1.isEmpty)) S1):E (eB f) Γ S Q:=by
 obtain⟨p,S1,e1,l,q⟩:=h
 exact⟨_,S1,by unfold eB;rw[e1];simp only[Qbq];rw[Qhq l],q⟩
def ML{F:dU}{g:h_}{Q:D->aH->Prop}(h:E g Γ S fun ds S1=>Fn F ds S1 fun r S2=>match r with|.d x=>Q x S2|.l _=>False):E (ay F g) Γ S Q:=by
 obtain⟨ds,S1,e1,r,S2,e2,q⟩:=h
 cases r with
 |d x=>exact⟨x,S2,by unfold ay;rw[e1];simp only[Qbq];rw[e2];rfl,q⟩
 |l x=>exact q.elim
def Mx{F:dU}{g:h_}{Q:List D->aH->Prop}(h:E g Γ S fun ds S1=>Fn F ds S1 fun r S2=>match r with|.d _=>False|.l x=>Q x S2):E (d0 F g) Γ S Q:=by
 obtain⟨ds,S1,e1,r,S2,e2,q⟩:=h
 cases r with
 |d x=>exact q.elim
 |l x=>exact⟨x,S2,by unfold d0;rw[e1];simp only[Qbq];rw[e2];rfl,q⟩
def fJ{f:bH}{Q:Bool->aH->Prop}(h:E f Γ S fun d S1=>match d with|.bl k=>Q k S1|_=>False):E (aK f) Γ S Q:=by
 obtain⟨d,S1,e1,q⟩:=h
 cases d with
 |bl k=>exact⟨k,S1,by unfold aK;rw[e1];rfl,q⟩
 |_=>exact q.elim
def vM{f:bH}{Q:Bool->aH->Prop}(h:E f Γ S fun d S1=>Op (Bu S1 d) fun k=>Q k S1):E (kc f) Γ S Q:=by
 obtain⟨d,S1,e1,k,e2,q⟩:=h
 exact⟨k,S1,by unfold kc;rw[e1];simp only[Qbq];rw[e2];rfl,q⟩
def BD{f:ko}{Q:Bool->aH->Prop}(h:E f Γ S fun k S1=>Q (!k) S1):E (xM f) Γ S Q:=by
 obtain⟨k,S1,e1,q⟩:=h
 exact⟨_,S1,by unfold xM;rw[e1];rfl,q⟩
def uI{f g:ko}{Q:Bool->aH->Prop}(h:E f Γ S fun k S1=>if k=true then E g Γ S1 Q else Q false S1):E (gB f g) Γ S Q:=by
 obtain⟨k,S1,e1,q⟩:=h
 cases k with
 |true=>obtain⟨j,S2,e2,q⟩:=(q:E g Γ S1 Q);exact⟨j,S2,by unfold gB;rw[e1];exact e2,q⟩
 |false=>exact⟨false,S1,by unfold gB;rw[e1];rfl,q⟩
def KS{f g:ko}{Q:Bool->aH->Prop}(h:E f Γ S fun k S1=>if k=true then Q true S1 else E g Γ S1 Q):E (GM f g) Γ S Q:=by
 obtain⟨k,S1,e1,q⟩:=h
 cases k with
 |true=>exact⟨true,S1,by unfold GM;rw[e1];rfl,q⟩
 |false=>obtain⟨j,S2,e2,q⟩:=(q:E g Γ S1 Q);exact⟨j,S2,by unfold GM;rw[e1];exact e2,q⟩
def Nv{c:ko}{f g:bH}{Q:D->aH->Prop}(h:E c Γ S fun k S1=>if k=true then E f Γ S1 Q else E g Γ S1 Q):E (tf c f g) Γ S Q:=by
 obtain⟨k,S1,e1,q⟩:=h
 cases k with
 |true=>obtain⟨j,S2,e2,q⟩:=(q:E f Γ S1 Q);exact⟨j,S2,by unfold tf;rw[e1];exact e2,q⟩
 |false=>obtain⟨j,S2,e2,q⟩:=(q:E g Γ S1 Q);exact⟨j,S2,by unfold tf;rw[e1];exact e2,q⟩
def Cu{i:Nat}{f:bH}{Q:Out->Prop}(h:E f Γ S fun d S1=>Q (.nx (Γ.set i (some d)) S1)):T (bj i f) Γ S Q:=by
 obtain⟨d,S1,e1,q⟩:=h
 exact⟨_,by unfold bj;rw[e1];rfl,q⟩
def qE{f:bH}{Q:Out->Prop}(h:E f Γ S fun d S1=>Q (.rt d S1)):T (cA f) Γ S Q:=by
 obtain⟨d,S1,e1,q⟩:=h
 exact⟨_,by unfold cA;rw[e1];rfl,q⟩
def MA{f:h_}{Q:Out->Prop}(h:E f Γ S fun d S1=>Q (.rl d S1)):T (Gv f) Γ S Q:=by
 obtain⟨d,S1,e1,q⟩:=h
 exact⟨_,by unfold Gv;rw[e1];rfl,q⟩
def jb{f:bH}{Q:Out->Prop}(h:E f Γ S fun d S1=>Q (.nx Γ S1)):T (mY f) Γ S Q:=by
 obtain⟨d,S1,e1,q⟩:=h
 exact⟨_,by unfold mY;rw[e1];rfl,q⟩
def cu{Q:Out->Prop}(q:Q (.nx Γ S)):T fR Γ S Q:=⟨_,rfl,q⟩
def ND{f:bH}{g:om}{Q:Out->Prop}(h:E f Γ S fun d S1=>Tg g d Γ S1 fun Γ1 S2=>Q (.nx Γ1 S2)):T (rO f g) Γ S Q:=by
 obtain⟨d,S1,e1,Γ1,S2,e2,q⟩:=h
 exact⟨_,by unfold rO;rw[e1];simp only[Qbq];rw[e2];rfl,q⟩
def bV{f g:dm}{Q:Out->Prop}(h:T f Γ S fun o=>match o with|.nx Γ1 S1=>T g Γ1 S1 Q|o=>Q o):T (aG f g) Γ S Q:=by
 obtain⟨o,e1,q⟩:=h
 cases o with
 |nx Γ1 S1=>obtain⟨o,e2,q⟩:=(q:T g Γ1 S1 Q);exact⟨o,by unfold aG;rw[e1];exact e2,q⟩
 |_=>exact⟨_,by unfold aG;rw[e1];rfl,q⟩
def eY{c:ko}{f g:dm}{Q:Out->Prop}(h:E c Γ S fun k S1=>if k=true then T f Γ S1 Q else T g Γ S1 Q):T (eL c f g) Γ S Q:=by
 obtain⟨k,S1,e1,q⟩:=h
 cases k with
 |true=>obtain⟨j,e2,q⟩:=(q:T f Γ S1 Q);exact⟨j,by unfold eL;rw[e1];exact e2,q⟩
 |false=>obtain⟨j,e2,q⟩:=(q:T g Γ S1 Q);exact⟨j,by unfold eL;rw[e1];exact e2,q⟩
def a_{i:Nat}{d:D}{Q:de->aH->Prop}(q:Q (Γ.set i (some d)) S):Tg (bQ i) d Γ S Q:=⟨_,_,rfl,q⟩
def NG{f g:bH}{d:D}{Q:de->aH->Prop}(h:E f Γ S fun x S1=>E g Γ S1 fun y S2=>∃k i ds j,x=.ref k/\y=.int i/\S2[k]?=some (.lst ds)/\Ek ds.length i=some j/\Q Γ (S2.set k (.lst (ds.set j d)))):Tg (KJ f g) d Γ S Q:=by
 obtain⟨x,S1,e1,y,S2,e2,k,i,ds,j,rfl,rfl,h1,h2,q⟩:=h
 exact⟨_,_,by unfold KJ;rw[e1];simp only[Qbq];rw[e2];simp only[Qbq,h1,h2],q⟩
def Nz{f g h:bH}{Q:Out->Prop}(w:E f Γ S fun x S1=>E g Γ S1 fun y S2=>∃k i ds m,x=.ref k/\y=.int i/\S2[k]?=some (.lst ds)/\0<=i/\ds[i.toNat]?=some (.int m)/\E h Γ S2 fun z S3=>∃n es j,z=.int n/\S3[k]?=some (.lst es)/\Ek es.length i=some j/\Q (.nx Γ (S3.set k (.lst (es.set j (.int (m+n))))))):T (Ml f g h) Γ S Q:=by
 obtain⟨x,S1,e1,y,S2,e2,k,i,ds,m,rfl,rfl,h1,h2,h3,z,S3,e3,n,es,j,rfl,h4,h5,q⟩:=w
 exact⟨_,by unfold Ml;rw[e1];simp only[Qbq];rw[e2];simp only[Qbq,h1,Qhq h2,h3,e3,h4,h5],q⟩
def hX{i:yY}{g:om}{b:dm}{Q:Out->Prop} (h:E i Γ S fun p S1=>∃I:Nat->de->aH->Prop,I 0 Γ S1/\(∀n Γ' S',I n Γ' S'->p.2 S')∧
   (∀(n:Nat) (d:D) (Γ':de) (S':aH),p.1[n]?=some d->I n Γ' S'->Tg g d Γ' S' fun Γ1 S2=>T b Γ1 S2 fun o=>match o with|.nx Γ2 S3=>I (n+1) Γ2 S3|.ct Γ2 S3=>I (n+1) Γ2 S3|.bk Γ2 S3=>Q (.nx Γ2 S3)|o=>Q o)∧
   ∀Γ' S',I p.1.length Γ' S'->Q (.nx Γ' S')):T (iC i g b) Γ S Q:=by
 obtain⟨⟨ds,W⟩,S1,e1,I,h0,hW,hstep,hend⟩:=h
 have go:∀(k n:Nat) (Γ':de) (S':aH),n+k=ds.length->I n Γ' S'->∃o,forL g b W (ds.drop n) Γ' S'=some o/\Q o:=by
  intro k
  induction k with
  | zero=>
    intro n Γ' S' hn hi
    rw[List.drop_of_length_le (by omega)]
    refine⟨.nx Γ' S',by simp only[forL];rw[Qhq (hW _ _ _ hi)],hend _ _ (by rw[←hn];exact hi)⟩
  | succ k ih=>
    intro n Γ' S' hn hi
    have hlt:n<ds.length:=by omega
    rw[QWq hlt]
    obtain⟨Γ1,S2,e2,o,e3,q⟩:=hstep n ds[n] Γ' S' (gQe hlt) hi
    simp only[forL]
    rw[Qhq (hW _ _ _ hi),e2]
    simp only[Qbq]
    rw[e3]
    simp only[Qbq]
    cases o with
    |nx Γ2 S3=>exact ih (n+1) Γ2 S3 (by omega) q
    |ct Γ2 S3=>exact ih (n+1) Γ2 S3 (by omega) q
    |bk Γ2 S3=>exact⟨_,rfl,q⟩
    |rt d S3=>exact⟨_,rfl,q⟩
    |rl d S3=>exact⟨_,rfl,q⟩
 obtain⟨o,e2,q⟩:=go ds.length 0 Γ S1 (by omega) h0
 exact⟨o,by unfold iC;rw[e1];exact e2,q⟩
def lP{js:List (Option Nat)}{i:yY}{g:om}{t:ko}{f:bH}{Q:List D->aH->Prop} (h:E i Γ S fun p S1=>∃I:Nat->de->aH->List D->Prop,I 0 (nQ js Γ) S1 []/\(∀n Γ' S' acc,I n Γ' S' acc->p.2 S')∧
   (∀(n:Nat) (d:D) (Γ':de) (S':aH) (acc:List D),p.1[n]?=some d->I n Γ' S' acc->Tg g d Γ' S' fun Γ1 S2=>E t Γ1 S2 fun k S3=>if k=true then E f Γ1 S3 fun y S4=>acc.length<sizeLine/\I (n+1) Γ1 S4 (acc++ [y]) else I (n+1) Γ1 S3 acc)∧
   ∀Γ' S' acc,I p.1.length Γ' S' acc->Q acc S'):E (bX js i g t f) Γ S Q:=by
 obtain⟨⟨ds,W⟩,S1,e1,I,h0,hW,hstep,hend⟩:=h
 have go:∀(k n:Nat) (Γ':de) (S':aH) (acc:List D),n+k=ds.length->I n Γ' S' acc->∃r S'',mP g t f W (ds.drop n) Γ' S' acc=some (r,S'')/\Q r S'':=by
  intro k
  induction k with
  | zero=>
    intro n Γ' S' acc hn hi
    rw[List.drop_of_length_le (by omega)]
    refine⟨acc,S',by simp only[mP];rw[Qhq (hW _ _ _ _ hi)],hend _ _ _ (by rw[←hn];exact hi)⟩
  | succ k ih=>
    intro n Γ' S' acc hn hi
    have hlt:n<ds.length:=by omega
    rw[QWq hlt]
    obtain⟨Γ1,S2,e2,c,S3,e3,q⟩:=hstep n ds[n] Γ' S' acc (gQe hlt) hi
    simp only[mP]
    rw[Qhq (hW _ _ _ _ hi),e2]
    simp only[Qbq]
    rw[e3]
    simp only[Qbq]
    cases c with
    | true=>
      rw[Qhq rfl] at q⊢
      obtain⟨y,S4,e4,hl,q⟩:=q
      rw[e4]
      simp only[Qbq]
      rw[Qhq hl]
      exact ih (n+1) Γ1 S4 _ (by omega) q
    | false=>
      rw[Quq (by decide)] at q⊢
      exact ih (n+1) Γ1 S3 _ (by omega) q
 obtain⟨r,S'',e2,q⟩:=go ds.length 0 _ S1 [] (by omega) h0
 exact⟨r,S'',by unfold bX;rw[e1];exact e2,q⟩
def II{f:bH}{Q:(List D×(aH->Prop))->aH->Prop}(h:E f Γ S fun d S1=>∃j,d=.int j/\(-(2^62)<=j/\j<2^62)/\Q (jR 0 j,fun _=>True) S1):E (rC f) Γ S Q:=by
 obtain⟨d,S1,e1,j,rfl,hj,q⟩:=h
 exact⟨_,S1,by unfold rC;rw[e1];simp only[Qbq];rw[Qhq hj],q⟩
def u5{f:eF}{Q:(List D×(aH->Prop))->aH->Prop}(h:E f Γ S fun p S1=>Q (p.1,fun S'=>p.2.stays S' p.1) S1):E (i0 f) Γ S Q:=by
 obtain⟨p,S1,e1,q⟩:=h
 exact⟨_,S1,by unfold i0;rw[e1];rfl,q⟩
def k_{m:List D->List D->Option (List D×D)}{f:bH}{g:h_}{Q:D->aH->Prop}(h:E f Γ S fun x S1=>∃k ds0,x=.ref k/\S1[k]?=some (.lst ds0)/\E g Γ S1 fun ys S2=>∃ds,S2[k]?=some (.lst ds)/\Op (m ds ys) fun p=>Q p.2 (S2.set k (.lst p.1))):E (rX m f g) Γ S Q:=by
 obtain⟨x,S1,e1,k,ds0,rfl,h1,ys,S2,e2,ds,h2,p,e3,q⟩:=h
 exact⟨_,_,by unfold rX;rw[e1];simp only[Qbq,e2,h1,h2,e3],q⟩
end
def cg{n:Nat}{b:dm}{ds:List D}{S:aH}{Q:Res->aH->Prop} (h:T b (ds.map some++List.replicate (n-ds.length) none) S fun o=>match o with
   |.nx _ S'=>Op (settle S .non S') fun p=>Q p.1 p.2|.rt d S'=>Op (settle S d S') fun p=>Q p.1 p.2|.rl l S'=>Op (dF S l S') fun p=>Q p.1 p.2|_=>False):Fn (fg n b) ds S Q:=by
 obtain⟨o,e1,q⟩:=h
 cases o with
 |nx Γ S'=>obtain⟨⟨r,S2⟩,e2,q⟩:=q;exact⟨r,S2,by unfold fg;rw[e1];exact e2,q⟩
 |rt d S'=>obtain⟨⟨r,S2⟩,e2,q⟩:=q;exact⟨r,S2,by unfold fg;rw[e1];exact e2,q⟩
 |rl d S'=>obtain⟨⟨r,S2⟩,e2,q⟩:=q;exact⟨r,S2,by unfold fg;rw[e1];exact e2,q⟩
 |bk=>exact q.elim
 |ct=>exact q.elim
def iO{S S' S2:aH}{d:D}{Q:Res×aH->Prop}(hc:ou S S')(ht:S'.take S.length=S2)(hd:∀k,d≠.ref k)(hl:cp S.length d=true)(q:Q (.d d,S2)):Op (settle S d S') Q:=by
 refine⟨_,?_,q⟩
 unfold settle
 rw[Qhq hc,ht]
 cases d with
 |ref k=>exact absurd rfl (hd k)
 |_=>simp only[hl,if_true]
def n_{S S' S2:aH}{ds:List D}{Q:Res×aH->Prop}(hc:ou S S')(ht:S'.take S.length=S2)(hl:cc S.length ds=true)(q:Q (.l ds,S2)):Op (dF S ds S') Q:=by
 refine⟨_,?_,q⟩
 unfold dF
 rw[Qhq ⟨hc,hl⟩,ht]
def ue{S:aH}:ou S S:=⟨Qmq _,fun k o _ h=>.inl h⟩
def vJ{S:aH}{k:Nat}{o:O}(h:Iu S.length o=true):ou S (S.set k o):=by
 refine⟨by simp,fun j u _ e=> ?_⟩
 rw[List.getElem?_set] at e
 split at e
 ·split at e
  ·cases e;exact .inr h
  ·cases e
 ·exact .inl e
end DL
namespace L2
open PySem PySem.Spec PyProof.Rows
section
variable{X:Cx}{o e:Expr}{es:List Expr}{to:TE}{t:TA}{name:Str}{apos cpos:Pos}{id:String}{r:V->List V->Hp->VK->Prop}
def NK(r:V->List V->Hp->VK->Prop)(to:TE)(t:TA):TE:=fun σ H Q=>to σ H fun x H1=>(∃p xs,x=.ref p/\H1 p=some (.tup xs))/\t σ H1 fun xs H2=>r x xs H2 Q
def J6(pa:PlainAttrs "tuple")(slot:Slot "tuple" name id)(hty:typeOf (.builtin id)=pure (.type "method_descriptor"))(hm:Ln X id r)(ho:PE X o to)(ha:PA X (e::es) t)
  (hbase:attributeBase o name X.env (eval o X.env)=eval o X.env:=by rfl)
  (hfew:((backTo cpos (starEach (e::es) X.env)).all (fun x=> !x.1)&&(backToKw cpos (keywordEach [] X.env)).all (fun x=>x.1.isSome)
   &&decide ((e::es).length+([]:List Keyword).length+(if ([]:List Keyword).isEmpty then 0 else 1)<30))=true:=by rfl)
  (hline:(apos.endLine==cpos.line)=true:=by rfl) (hs:starEach (e::es) X.env=(false,eval e X.env)::starEach es X.env:=by rfl) (hplain:(backTo cpos (starEach es X.env)).any (·.1)=false:=by rfl):
  PE X (.Call (.Attribute o name apos) (e::es) [] cpos) (NK r to t):=by
 intro pins s σ H Q I h
 refine wpAny_Call_method_late hbase hfew hline rfl (di (ho pins s σ H _ I h) fun v s1 qr=> ?_)
 obtain⟨x,H1,I1,r1,⟨p,xs,e1,hp⟩,q1⟩:=qr
 subst e1
 cases r1
 obtain⟨_,its,_,ob,e1,c1,d1,_⟩:=(show dA X.prog X.w H1 s1.heap p (.tup xs) from I1.hok p _ hp)
 refine⟨"tuple",id,pa,slot,hty,⟨ob,e1,c1⟩,fun a e=>by cases e;exact⟨ob,e1,d1⟩,?_⟩
 have hA:=ha cpos pins s1 σ H1 _ I1 q1
 rw[hs] at hA⊢
 refine Calls.callWith_builtin (by show(false||(backTo cpos (starEach es X.env)).any (·.1))=false;rw[hplain] <;>rfl) (Calls.evalArgs_plain ?_)
 exact di hA fun us s2 ⟨vs,H2,I2,r2,q2⟩=>hm pins s2 σ H2 (.ref p) vs (.ref p) us Q I2 rfl r2 q2
end
end L2
namespace DL
open PySem PySem.Spec L2
section
variable{X:Cx}{e:Expr}
noncomputable def qf(f g:bH):bH:=fun Γ S=>(f Γ S).bind fun(x,S1)=>match x with
 |.tup ds=>(g Γ S1).bind fun(y,S2)=>(sL y).bind fun v=>(ff ds).bind fun vs=>some (.int ((vs.countP fun z=>jE z v:Nat):Int),S2)
 |_=>none
def xc{f g:bH}{o:Expr}{apos cpos:Pos}(ho:PE X o (tD (md X) f))(ha:PE X e (tD (md X) g))(hbase:attributeBase o "count" X.env (eval o X.env)=eval o X.env:=by rfl) (hfew:((backTo cpos (starEach [e] X.env)).all (fun x=> !x.1)&&(backToKw cpos (keywordEach [] X.env)).all (fun x=>x.1.isSome)
   &&decide ([e].length+([]:List Keyword).length+(if ([]:List Keyword).isEmpty then 0 else 1)<30))=true:=by rfl)
  (hline:(apos.endLine==cpos.line)=true:=by rfl) (hs:starEach [e] X.env= [(false,eval e X.env)]:=by rfl):PE X (.Call (.Attribute o "count" apos) [e] [] cpos) (tD (md X) (qf f g)):=
 kb (J6 PySem.F.plainAttrs_tuple PySem.F.slot_tuple_count PySem.F.type_tuple_count Ew ho (dB ha fZ hs) hbase hfew hline hs) fun σ H Q qq=>by
  obtain⟨ρ,Γ,S,d,S',ok,e,q⟩:=qq
  obtain⟨⟨x,S1⟩,e1,e⟩:=aq e
  cases x with
  | tup ds=>
    dsimp only at e
    obtain⟨⟨y,S2⟩,e2,e⟩:=aq e
    obtain⟨v,e3,e⟩:=aq e
    obtain⟨vs,e4,e⟩:=aq e
    obtain⟨rfl,rfl⟩:=cH e
    refine⟨ρ,Γ,S,_,S1,ok,e1,fun ρ1 v1 H1 x1 st1 r1=> ?_⟩
    cases r1 with
    | tup ht hr=>
      refine⟨⟨_,_,rfl,ht⟩,ρ1,Γ,S1,y,S2,ok.to x1 st1,e2,fun ρ2 w H2 x2 st2 r2=> ?_⟩
      obtain⟨f1,f2⟩:=fP (hr.ext x2) e4
      subst f1
      cases mh r2 e3
      exact⟨_,_,_,rfl,rfl,hZ.of (x2.keep _ _ ht (.inr trivial)),pz e3,f2,q _ _ _ (x1.trans x2) st2 (.int _)⟩
  |_=>cases e
def xZ{Γ:de}{S:aH}{f g:bH}{Q:D->aH->Prop}(h:E f Γ S fun x S1=>∃ds,x=.tup ds/\E g Γ S1 fun y S2=>∃v vs,sL y=some v/\ff ds=some vs/\Q (.int ((vs.countP fun z=>jE z v:Nat):Int)) S2):E (qf f g) Γ S Q:=by
 obtain⟨x,S1,e1,ds,rfl,y,S2,e2,v,vs,h1,h2,q⟩:=h
 exact⟨_,S2,by unfold qf;rw[e1];simp only[Qbq];rw[e2];simp only[Qbq,h1,h2],q⟩
end
end DL
namespace L2
open PySem PySem.Spec PyProof.Rows
section
variable{X:Cx}
def Hf(K:PySem.W.Frag)(neg:Bool):R2:=fun x y H Q=>∃a b xs ys,x=.ref a/\y=.ref b/\hZ K H a xs/\hZ K H b ys/\xs.all fO=true/\ys.all fO=true/\Q (.bl (if neg then !rS xs ys else rS xs ys)) H
def Ca{xs ys:List V}:((List.range (min xs.length ys.length)).all (fun j=>jE (xs.getD j .non) (ys.getD j .non))&&xs.length==ys.length)=rS xs ys:=by
 by_cases hl:xs.length=ys.length
 ·rw[←xf hl,←hl,Nat.min_self]
  simp
 ·rw[yN hl]
  have:(xs.length==ys.length)=false:=by simpa using hl
  rw[this,Bool.and_false]
def JJ(hu:X.A.units<cLine):jf X (compareOp .Eq) (Hf X.K false):=by
 intro pins s σ H x y v u Q I rx ry h
 obtain⟨a,b,xs,ys,rfl,rfl,ha,hb,fa,fb,q⟩:=h
 cases rx
 cases ry
 obtain⟨its,r,pl,hz⟩:=I.tuple ha
 obtain⟨jts,r',pl',hz'⟩:=I.tuple hb
 refine SeqAt.eq_tupleAt (e:=fun j=>jE (xs.getD j .non) (ys.getD j .non)) pl pl' hu (fun j h1 h2=>A0 r r' fa fb j h1 h2) ⟨.bl _,H,I,rfl,?_⟩
 rw[show its.toArray.size=xs.length by simp[r.length],show jts.toArray.size=ys.length by simp[r'.length],Ca]
 exact q
def JU(hu:X.A.units<cLine):jf X (compareOp .NotEq) (Hf X.K true):=by
 intro pins s σ H x y v u Q I rx ry h
 obtain⟨a,b,xs,ys,rfl,rfl,ha,hb,fa,fb,q⟩:=h
 cases rx
 cases ry
 obtain⟨its,r,pl,hz⟩:=I.tuple ha
 obtain⟨jts,r',pl',hz'⟩:=I.tuple hb
 refine SeqAt.RcNeAt.tuples (e:=fun j=>jE (xs.getD j .non) (ys.getD j .non)) pl pl' hu (fun j h1 h2=>A0 r r' fa fb j h1 h2) _ _ _ _ ⟨.bl _,H,I,rfl,?_⟩
 rw[show its.toArray.size=xs.length by simp[r.length],show jts.toArray.size=ys.length by simp[r'.length],Ca]
 exact q
def ED(K:PySem.W.Frag):List V->Hp->VK->Prop:=fun xs H Q=>∃(a:Addr) (ns:List Int),xs= [.ref a]/\iK K H a (ns.map V.int)/\ns.length<64/\∀(l:Addr) (out:List Int),H l=none->out.Pairwise (·<=·)->out.Perm ns->Q (.ref l) (upd H l (.lst (out.map V.int)))
def xH{ns:List Int}{vs:List Value}(h:IntsAre vs ns):bM (ns.map V.int) vs:=by
 induction h with
 |nil=>exact .nil
 |cons y t _ ih=>exact .cons ⟨t,rfl⟩ ih
def w4:i4 X (.builtin "sorted") (ED X.K):=by
 intro pins s σ H xs us Q I r h
 obtain⟨a,ss,rfl,ha,h64,q⟩:=h
 obtain⟨u,rfl,rx⟩:=vals1 r
 cases (show u=Value.ref a from rx)
 obtain⟨its,rv,pl,hz⟩:=I.list ha
 have hil:its.length=ss.length:=by have:=rv.length;simpa using this.symm
 have big:s.heap.objs.size<=s.heap.objs.size+1:=Nat.le_succ _
 refine sorted_ints pl.isList (intsAre_of rv) (by omega) fun out ss' hA hp hs=> ?_
 obtain⟨e,he⟩:=sortedAll_at s.heap its out
 have hlen:ss'.length=ss.length:=hp.length_eq
 refine⟨.ref (s.heap.objs.size+1),_,I.laid (a:=s.heap.objs.size+1) (o:=.lst (ss'.map V.int)) (h':=sortedAll s.heap its out) (t':=s.toks) (fun b o hb=> ?_) big ⟨?_,out.toList,e,xH hA,?_⟩,rfl,q _ ss' (I.hok.fresh big) hs hp⟩
 ·exact sortedAll_old hb
 ·rw[lQm,hlen]
  exact QAq (nQl h64) (by decide)
 ·simpa using he
def Hu{ns:List Int}{its:List Value}(r:bM (ns.map V.int) its){i:Nat}{v:Value}(h:its.toArray[i]?=some v):∃t,v=.int (ns.getD i 0) t:=by
 have hi:i<its.length:=by
  have:=(Array.getElem?_eq_some_iff.mp h).1
  simpa using this
 have l:=r.length
 rw[lQm] at l
 have hb:i<ns.length:=by omega
 obtain⟨u,e,q⟩:=r.get (i:=i) (x:=V.int ns[i]) (by rw[gQm,gQe hb];rfl)
 have e':its[i]?=some v:=by simpa using h
 rw[e] at e'
 cases e'
 have d:ns.getD i 0=ns[i]:=by rw[Qlq,gQe hb];rfl
 rw[d]
 exact q
theorem wM:∀ns:List Int,(List.range ns.length).any (fun i=>ns.getD i 0 !=0)=ns.any (· !=0)
 | []=>rfl
 | b::bs=>by
   rw[Qnq,List.range_succ_eq_map,List.any_cons,List.any_map,List.any_cons,←wM bs]
   rfl
def L3(K:PySem.W.Frag):List V->Hp->VK->Prop:=fun xs H Q=>∃(a:Addr) (ns:List Int),xs= [.ref a]/\iK K H a (ns.map V.int)/\Q (.bl (ns.any (· !=0))) H
def DT(hc:X.calm=true):i4 X (.builtin "any") (L3 X.K):=by
 intro pins s σ H xs us Q I r h
 obtain⟨a,bs,rfl,ha,q⟩:=h
 obtain⟨u,rfl,rx⟩:=vals1 r
 cases (show u=Value.ref a from rx)
 obtain⟨its,rv,pl,hz⟩:=I.list ha
 have hl:its.toArray.size=bs.length:=by have:=rv.length;simp at this;simp[this]
 have hlt:a<s.heap.objs.size:=by obtain⟨o,e,_⟩:=pl.isList;exact Qiq e
 refine call_any_walk (wpAny_pyIter_list pl.isList ⟨s.heap.objs.size,_,_,_,_,_,fun i=>bs.getD i 0 !=0,rfl,Walks.list (A:=X.A.in1) (show X.A.in1.handled=none from I.ok.hd hc) s.heap.objs.size a (Qwq hlt) its.toArray,⟨⟨_,Qrq _ rfl,rfl,rfl⟩,pl.isList.at fun o e=>Qcq _ e⟩,?_,fun h' tk hk=> ?_⟩)
 ·intro i v s' Q' E' hv hq
  obtain⟨t,rfl⟩:=Hu rv hv
  exact truthy_int hq
 ·rw[hl,wM]
  refine⟨.bl _,H,I.kept (h':=h') fun b o e=>hk b o ?_ (Qcq _ e),rfl,q⟩
  have:=Qiq e
  simp
  exact Qwq this
def GL(K:PySem.W.Frag):R2:=fun x y H Q=>∃a b xs,x=.ref a/\y=.ref b/\iK K H a xs/\iK K H b []/\Q (.bl xs.isEmpty) H
def EM(hu:X.A.units<cLine):jf X (compareOp .Eq) (GL X.K):=by
 intro pins s σ H x y v u Q I rx ry h
 obtain⟨a,b,xs,rfl,rfl,ha,hb,q⟩:=h
 cases rx
 cases ry
 obtain⟨its,r,pl,hz⟩:=I.list ha
 obtain⟨jts,r',pl',hz'⟩:=I.list hb
 cases r'
 cases xs with
 | nil=>
   cases r
   exact SeqAt.eq_listAt (e:=fun _=>true) pl.isList pl'.isList rfl hu (fun j h1 h2=>absurd h1 (by simp)) ⟨.bl _,H,I,rfl,q⟩
 | cons z zs=>
   cases r with
   |cons r1 r2=>exact SeqAt.eq_list_lengthsAt pl.isList pl'.isList (by simp) hu ⟨.bl _,H,I,rfl,q⟩
end
end L2
namespace DL
open PySem PySem.Spec L2
section
variable{X:Cx}{a b e:Expr}{pos:Pos}
open Classical in
def s_(f:eF):bH:=fun Γ S=>(f Γ S).bind fun(p,S1)=>if p.2.isL=true/\p.2.stays S1 p.1 then some (.bl p.1.isEmpty,S1) else none
def Ii{f:eF}:∀σ H Q,tD (md X) (s_ f) σ H Q->GO (GL X.K) (tQ (md X) f) (tL (md X) (bP au)) σ H Q:=fun σ H Q qq=>by
 obtain⟨ρ,Γ,S,d,S',ok,e,q⟩:=qq
 obtain⟨⟨⟨ds,t⟩,S1⟩,e1,e⟩:=aq e
 dsimp only at e
 split at e
 ·rename_i c
  obtain⟨rfl,rfl⟩:=cH e
  refine⟨ρ,Γ,S,ds,t,S1,ok,e1,fun ρ1 a as H1 x1 st1 h1 r1=>⟨ρ1,Γ,S1,[],S1,ok.to x1 st1,rfl,fun ρ2 b bs H2 x2 st2 fr nr hb r2=> ?_⟩⟩
  obtain⟨as',h3,r3⟩:=h1.to r1 x2 st2 c.2
  cases r2
  refine⟨a,b,as',rfl,rfl,h3.sqL c.1,iK.of hb,?_⟩
  rw[←r3.isEmpty]
  exact q _ _ _ (x1.trans x2) st2 (.bl _)
 ·cases e
def HK{f:eF}{p:Pos}(hu:X.A.units<cLine)(ha:PE X a (tQ (md X) f)):PT X (.Compare a [.Eq] [.List [] p] pos) (tB (md X) (aK (s_ f))):=uc Ii (mv (EM hu) ha ID (aR _))
def Io{Γ:de}{S:aH}{f:eF}{Q:D->aH->Prop}(h:E f Γ S fun p S1=>(p.2.isL=true/\p.2.stays S1 p.1)/\Q (.bl p.1.isEmpty) S1):E (s_ f) Γ S Q:=by
 obtain⟨p,S1,e1,l,q⟩:=h
 exact⟨_,S1,by unfold s_;rw[e1];simp only[Qbq];rw[Qhq l],q⟩
noncomputable def m4(neg:Bool):rq:=fun S x y=>match x,y with
 |.tup ds,.tup es=>(ff ds).bind fun us=>(ff es).bind fun vs=>some (.bl (if neg then !rS us vs else rS us vs))
 |_,_=>fm neg S x y
def LS(K:PySem.W.Frag):R2:=fun x y H Q=>Hf K false x y H Q\/MR x y H Q
def KY(K:PySem.W.Frag):R2:=fun x y H Q=>Hf K true x y H Q\/MJ x y H Q
def EV(hu:X.A.units<cLine):jf X (compareOp .Eq) (LS X.K):=fun pins s σ H x y v u Q I rx ry h=>h.elim (JJ hu pins s σ H x y v u Q I rx ry) (cI pins s σ H x y v u Q I rx ry)
def Ji(hu:X.A.units<cLine):jf X (compareOp .NotEq) (KY X.K):=fun pins s σ H x y v u Q I rx ry h=>h.elim (JU hu pins s σ H x y v u Q I rx ry) (wC pins s σ H x y v u Q I rx ry)
def zC{neg:Bool}{S:aH}{x y d:D}(e:m4 neg S x y=some d):(∃ds es us vs,x=.tup ds/\y=.tup es/\ff ds=some us/\ff es=some vs/\d=.bl (if neg then !rS us vs else rS us vs))\/fm neg S x y=some d:=by
 unfold m4 at e
 split at e
 ·obtain⟨us,e1,e⟩:=aq e
  obtain⟨vs,e2,e⟩:=aq e
  cases e
  exact .inl ⟨_,_,us,vs,rfl,rfl,e1,e2,rfl⟩
 ·exact .inr e
def EW:jd (md X) (LS X.K) (m4 false):=by
 intro ρ S H x y d u v Q st r1 r2 e q
 rcases zC e with⟨ds,es,us,vs,rfl,rfl,e1,e2,rfl⟩|e
 ·cases r1 with
  | tup h1 hs1=>
    cases r2 with
    | tup h2 hs2=>
      obtain⟨rfl,f1⟩:=fP hs1 e1
      obtain⟨rfl,f2⟩:=fP hs2 e2
      exact .inl ⟨_,_,_,_,rfl,rfl,hZ.of h1,hZ.of h2,f1,f2,q _ _ cK.refl st (.bl _)⟩
 ·exact .inr (cJ (M:=md X) st r1 r2 e q)
def Jz:jd (md X) (KY X.K) (m4 true):=by
 intro ρ S H x y d u v Q st r1 r2 e q
 rcases zC e with⟨ds,es,us,vs,rfl,rfl,e1,e2,rfl⟩|e
 ·cases r1 with
  | tup h1 hs1=>
    cases r2 with
    | tup h2 hs2=>
      obtain⟨rfl,f1⟩:=fP hs1 e1
      obtain⟨rfl,f2⟩:=fP hs2 e2
      exact .inl ⟨_,_,_,_,rfl,rfl,hZ.of h1,hZ.of h2,f1,f2,q _ _ cK.refl st (.bl _)⟩
 ·exact .inr (vZ (M:=md X) st r1 r2 e q)
def y_{f g:bH}{k:Nat}(hr:fS k X.A)(ha:PE X a (tD (md X) f))(hb:PE X b (tD (md X) g)):PE X (.Compare a [.Eq] [b] pos) (tD (md X) (aC (m4 false) f g)):=kY (EV hr.units0) EW ha hb (aR _)
def E9{f g:bH}{k:Nat}(hr:fS k X.A)(ha:PE X a (tD (md X) f))(hb:PE X b (tD (md X) g)):PT X (.Compare a [.Eq] [b] pos) (tB (md X) (aK (aC (m4 false) f g))):=bG (EV hr.units0) EW ha hb (aR _)
def zZ{f g:bH}{k:Nat}(hr:fS k X.A)(ha:PE X a (tD (md X) f))(hb:PE X b (tD (md X) g)):PT X (.Compare a [.NotEq] [b] pos) (tB (md X) (aK (aC (m4 true) f g))):=bG (Ji hr.units0) Jz ha hb (aR _)
def K0{S:aH}{ds es:List D}{us vs:List V}{Q:D->Prop}(h1:ff ds=some us)(h2:ff es=some vs)(q:Q (.bl (rS us vs))):Op (m4 false S (.tup ds) (.tup es)) Q:=⟨_,by simp only[m4,h1,h2,Qbq];rfl,q⟩
def zP{S:aH}{ds es:List D}{us vs:List V}{Q:D->Prop}(h1:ff ds=some us)(h2:ff es=some vs)(q:Q (.bl (!rS us vs))):Op (m4 true S (.tup ds) (.tup es)) Q:=⟨_,by simp only[m4,h1,h2,Qbq];rfl,q⟩
def m8:List D->Option (List Int)
 | []=>some []
 | d::r=>match d with
   |.int i=>(m8 r).bind fun is=>some (i::is)
   |_=>none
theorem qt{M:Md}{ρ:List Addr}{H:Hp}:∀{ds:List D} {vs:List V} {is:List Int},bt M ρ H ds vs->m8 ds=some is->vs=is.map V.int
 | [],_,_,h,e=>by cases h;cases e;rfl
 | d::ds,_,_,h,e=>by
   cases d with
   | int b=>
     simp only[m8] at e
     obtain⟨bs',e1,e⟩:=aq e
     cases e
     cases h with
     | cons h hs=>
       cases h
       rw[qt hs e1]
       rfl
   |_=>cases e
theorem nF:∀is:List Int,m8 (is.map D.int)=some is
 | []=>rfl
 |i::is=>by simp only[QDq,m8];rw[nF is];rfl
noncomputable def DJ(f:eF):h_:=fun Γ S=>(f Γ S).bind fun(p,S1)=>if p.2.isL=true then(m8 p.1).bind fun is=>if is.length<64/\is.Pairwise (·<=·) then some (is.map D.int,S1) else none else none
def Da{f:eF}{p:Pos}(hg:Gl X "sorted")(hm:X.mg "sorted"=none)(ha:PE X a (tQ (md X) f))(hs:starEach [a] X.env= [(false,eval a X.env)]:=by rfl):
  PE X (.Call (.Name "sorted" p) [a] [] pos) (tL (md X) (DJ f)):=
 kb (dJ w4 hg hm PyProof.Rows.boot_sorted (dB ha fZ hs) (he:=hs)) fun σ H Q qq=>by
  obtain⟨ρ,Γ,S,d,S',ok,e,q⟩:=qq
  obtain⟨⟨⟨ds,t⟩,S1⟩,e1,e⟩:=aq e
  dsimp only at e
  split at e
  ·rename_i c
   obtain⟨ss,e2,e⟩:=aq e
   split at e
   ·rename_i c2
    obtain⟨rfl,rfl⟩:=cH e
    refine⟨ρ,Γ,S,ds,t,S1,ok,e1,fun ρ' a vs H' x st h r=>⟨a,ss,rfl,?_,c2.1,fun l out hl h1 h2=> ?_⟩⟩
    ·rw[←qt r e2];exact h.sqL c
    ·have:out=ss:=List.Perm.eq_of_pairwise (le:=(·<=·)) (fun a b _ _ h1 h2=>by omega) h1 c2.2 h2
     subst this
     exact q _ _ _ _ (x.trans (cK.laid hl)) (st.lay hl) (x.grow _ hl) (dR x st hl) cj (qh _)
   ·cases e
  ·cases e
def JC{Γ:de}{S:aH}{f:eF}{Q:List D->aH->Prop}(h:E f Γ S fun p S1=>p.2.isL=true/\∃is:List Int,p.1=is.map D.int/\(is.length<64/\is.Pairwise (·<=·))/\Q (is.map D.int) S1):E (DJ f) Γ S Q:=by
 obtain⟨p,S1,e1,l,is,e2,hc,q⟩:=h
 exact⟨_,S1,by unfold DJ;rw[e1];simp only[Qbq];rw[Qhq l,e2,nF];simp only[Qbq];rw[Qhq hc],q⟩
def anyI(f:eF):bH:=fun Γ S=>(f Γ S).bind fun(p,S1)=>if p.2.isL=true then(m8 p.1).bind fun is=>some (.bl (is.any (· !=0)),S1) else none
def Kd{f:eF}{p:Pos}(hc:X.calm=true)(hg:Gl X "any")(hm:X.mg "any"=none)(ha:PE X a (tQ (md X) f))(hs:starEach [a] X.env= [(false,eval a X.env)]:=by rfl):
  PE X (.Call (.Name "any" p) [a] [] pos) (tD (md X) (anyI f)):=
 kb (dJ (DT hc) hg hm (by rfl) (dB ha fZ hs) (he:=hs)) fun σ H Q qq=>by
  obtain⟨ρ,Γ,S,d,S',ok,e,q⟩:=qq
  obtain⟨⟨⟨ds,t⟩,S1⟩,e1,e⟩:=aq e
  dsimp only at e
  split at e
  ·rename_i c
   obtain⟨ss,e2,e⟩:=aq e
   obtain⟨rfl,rfl⟩:=cH e
   refine⟨ρ,Γ,S,ds,t,S1,ok,e1,fun ρ' a vs H' x st h r=>⟨a,ss,rfl,?_,q _ _ _ x st (.bl _)⟩⟩
   rw[←qt r e2];exact h.sqL c
  ·cases e
def Jh{Γ:de}{S:aH}{f:eF}{Q:D->aH->Prop}(h:E f Γ S fun p S1=>p.2.isL=true/\∃is:List Int,p.1=is.map D.int/\Q (.bl (is.any (· !=0))) S1):E (anyI f) Γ S Q:=by
 obtain⟨p,S1,e1,l,is,e2,q⟩:=h
 exact⟨_,S1,by unfold anyI;rw[e1];simp only[Qbq];rw[Qhq l,e2,nF];rfl,q⟩
end
end DL
namespace W28
open PySem PySem.Spec L2 DL
abbrev aO(k:Int):=cF (.int k)
abbrev aF(k:Nat):=aj (ak k)
abbrev fh(k:Int):=aj (cF (.int k))
def vY:dm:=
 (aG (bj 2 (aO 0))
 (aG (eL (aK (aC Dq (ak 1) (ie (aX (ak 0))))) (bj 2 (yP Hz (aj (aC aQ (ak 0) (ak 1)) au))) fR)
 (aG (bj 3 (aC nW (aC rF (ak 2) (aC nW (aC yi (aO 10) (aO 60)) (aC yi (aO 10) (aO 60)))) (yP intOfD (aj (aC Mp (ak 2) (aC yi (aO 10) (aO 18))) au))))
 (Gv (bP (aF 3 (aj (aC rF (aC cM (aC cM (ak 2) (aC nW (aO 104729) (ak 1))) (aO 7)) (aO 2305843009213693951)) (fh 0 au))))))))
def mJ:dU:=fg 4 vY
def uE:dm:=
 (aG (eL (aK (aC IT (aC aQ (ak 0) (aO 0)) (aO 0))) (aG (bj 2 (aC rF (aC aQ (ak 0) (aO 0)) (ak 1)))
 (aG (rO (aC AC (aC aQ (ak 0) (aO 0)) (ak 1)) (KJ (ak 0) (aO 0)))
 (cA (ak 2)))) fR)
 (aG (Ml (ak 0) (aO 2) (aO 1))
 (aG (bj 3 (aC rF (aC cM (aC cM (aC nW (aC aQ (ak 0) (aO 1)) (aO 69069)) (aC nW (aO 9973) (aC aQ (ak 0) (aO 2)))) (aO 5)) (aO 2305843009213693921)))
 (aG (rO (aC rF (aC nW (ak 3) (aC cM (aC cM (aC rF (ak 3) (aO 999983)) (aC nW (aO 2) (aC aQ (ak 0) (aO 2)))) (aO 3))) (aO 2305843009213693907)) (KJ (ak 0) (aO 1)))
 (cA (aC rF (aC AC (aC aQ (ak 0) (aO 1)) (aO 65537)) (ak 1)))))))
def aI:dU:=fg 4 uE
def qY:dm:=
 (aG (bj 3 (cO (bX [none,some 1] (i0 (gA (bP (aj (cF (.str "a")) (aj (cF (.str "b")) (aj (cF (.str "c")) (aj (cF (.str "d")) (aj (cF (.str "e")) (aj (cF (.str "zz")) au))))))))) (bQ 0) cz (aC cM (ak 1) (ak 0)))))
 (Gv (B3 (gA (bX [none,some 0,some 3] (rC (ak 2)) (bQ 0) cz (rX nz (ak 2) (aj (ay aI (aF 1 (aj (ie (aX (ak 2))) au))) au)))))))
def dq:dU:=fg 4 qY
def tN:dm:=
 (cA (aC aQ (ak 1) (ay aI (aF 0 (aj (ie (aX (ak 1))) au)))))
def bN:dU:=fg 2 tN
def wo(self:dU):dm:=
 (aG (bj 4 (ay aI (aF 0 (fh 9 au))))
 (aG (eL (GM (aK (aC Dq (ak 3) (aO 1))) (aK (aC Dq (ak 4) (aO 3)))) (aG (eL (gB (aK (eB (aX (ak 1)))) (aK (aC IT (ay aI (aF 0 (fh 3 au))) (aO 0)))) (cA (ay bN (aF 0 (aF 1 au)))) fR)
 (cA (ay aI (aF 0 (aj (aC aQ (cO (bP (fh 3 (fh 10 au)))) (yP intOfD (aj (aC (fm false) (ay aI (aF 0 (fh 5 au))) (aO 0)) au))) au))))) fR)
 (aG (eL (gB (aK (aC (fm false) (ak 4) (aO 3))) (aK (eB (aX (ak 2))))) (cA (bg (aj (cF (.str "waits")) (aj (ay bN (aF 0 (aF 2 au))) au)))) fR)
 (aG (eL (aK (aC (fm false) (ak 4) (aO 4))) (cA (bg (aj (cF (.str "not")) (aj (ay self (aF 0 (aF 1 (aF 2 (aj (aC mN (ak 3) (aO 1)) au))))) au)))) fR)
 (aG (bj 5 (aC aQ (cO (bP (aj (cF (.str "plus")) (aj (cF (.str "minus")) (aj (cF (.str "less")) (aj (cF (.str "same")) (aj (cF (.str "both")) au))))))) (ay aI (aF 0 (fh 5 au)))))
 (cA (bg (aF 5 (aj (ay self (aF 0 (aF 1 (aF 2 (aj (aC mN (ak 3) (aO 1)) au))))) (aj (ay self (aF 0 (aF 1 (aF 2 (aj (aC mN (ak 3) (aO 1)) au))))) au))))))))))
def bE:Nat->dU
 |0=>fun _ _=>none
 |n+1=>fg 6 (wo (bE n))
def qQ:dm:=
 (aG (bj 4 (aC aQ (cO (bP (fh 0 (aj (cF (.str "given")) (aj (ay (bE 4) (aF 0 (aF 1 (aF 2 (fh 1 au))))) au))))) (ay aI (aF 0 (fh 3 au)))))
 (aG (bj 5 (bg (aj (cF (.str "wait")) (aj (ay bN (aF 0 (aF 2 au))) (aF 4 au)))))
 (aG (bj 6 (ay aI (aF 0 (fh 3 au))))
 (aG (eL (aK (aC (fm false) (ak 6) (aO 0))) (Gv (bP (aF 5 au))) fR)
 (aG (bj 7 (bg (aj (cF (.str "not")) (aj (ay (bE 4) (aF 0 (aF 1 (aF 2 (fh 2 au))))) au))))
 (Gv (bP (aj (bg (aj (cF (.str "unless")) (aF 7 (aj (aC cM (ak 3) (aO 3)) au)))) (aF 5 (aj (bg (aj (cF (.str "go")) (aj (aC aQ (cO (bP (aF 3 (aj (aC cM (ak 3) (aO 3)) au)))) (aC mN (ak 6) (aO 1))) au))) au))))))))))
def ju:dU:=fg 8 qQ
def zw:dm:=
 (aG (rO (ay bN (aF 0 (aF 1 au))) (iA (nG 2 (aJ (bQ 4) (aJ (bQ 5) dr)))))
 (aG (bj 6 (ay bN (aF 0 (aj (cO (AO (gA (bP (aj (cF .non) au))) (aX (ak 2)))) au))))
 (cA (bg (aj (cF (.str "do")) (aF 6 (aF 4 (aF 5 (aj (ay (bE 4) (aF 0 (aF 3 (aj (cO (bP au)) (fh 1 au))))) au)))))))))
def lJ:dU:=fg 7 zw
def uL:dm:=
 (aG (rO (ak 1) (iA (nG 3 (aJ (bQ 4) (aJ (bQ 5) (aJ (bQ 6) dr))))))
 (aG (bj 7 (cO (AO (aX (ak 5)) (gA (bP (aj (cF (.str "given")) au))))))
 (aG (bj 8 (cO (bP au)))
 (aG (iC (rC (aC cM (aO 1) (ay aI (aF 0 (aF 3 au))))) (bQ 9) (aG (bj 10 (ay aI (aF 0 (fh 9 au))))
 (eL (gB (aK (aC Dq (ak 10) (aO 2))) (aK (eB (aX (ak 6))))) (mY (rR (ak 8) (gA (d0 ju (aF 0 (aF 7 (aF 6 (aj (ie (aX (ak 8))) au)))))))) (eL (gB (aK (aC Dq (ak 10) (aO 4))) (aK (eB (aX (ak 6))))) (aG (bj 11 (aC aQ (cO (bP (aj (cF (.str "call")) (aj (cF (.str "all")) au)))) (yP intOfD (aj (Ap (aC (fm false) (ak 4) (cF (.str "when free"))) (aC (fm false) (ak 10) (aO 3))) au))))
 (mY (rX i8 (ak 8) (aj (bg (aF 11 (aj (ay bN (aF 0 (aF 6 au))) au))) au)))) (eL (gB (aK (aC (fm false) (ak 10) (aO 4))) (aK (eB (aX (ak 2))))) (mY (rX i8 (ak 8) (aj (ay lJ (aF 0 (aF 2 (aF 5 (aF 7 au))))) au))) (eL (aK (aC (fm false) (ak 10) (aO 5))) (aG (mY (rX i8 (ak 8) (aj (bg (aj (cF (.str "unless")) (aj (ay (bE 4) (aF 0 (aF 7 (aF 6 (fh 2 au))))) (aj (aC cM (ie (aX (ak 8))) (aO 2)) au)))) au)))
 (mY (rX i8 (ak 8) (aj (bg (aj (cF (.str "tell")) (aj (ay aI (aF 0 (fh 10 au))) au))) au)))) (eL (gB (aK (aC Dq (ak 10) (aO 8))) (aK (eB (aX (ak 5))))) (mY (rX i8 (ak 8) (aj (bg (aj (cF (.str "put")) (aj (ay bN (aF 0 (aF 5 au))) (aj (ay (bE 4) (aF 0 (aF 7 (aF 6 (fh 2 au))))) au)))) au))) (mY (rX i8 (ak 8) (aj (bg (aj (cF (.str "tell")) (aj (ay (bE 4) (aF 0 (aF 7 (aF 6 (fh 1 au))))) au))) au))))))))))
 (cA (tupQ (iE (aX (ak 8)))))))))
def kJ:dU:=fg 12 uL
def uO:dm:=
 (aG (bj 5 (ay bN (aF 0 (aF 3 au))))
 (aG (bj 6 (cO (d0 dq (aF 0 (aj (cF (.str "")) (aj (aC aQ (cO (bP (fh 1 (fh 1 (fh 2 (fh 0 au)))))) (ay aI (aF 0 (fh 4 au)))) au))))))
 (aG (bj 7 (cO (d0 dq (aF 0 (aj (cF (.str "")) (aj (ay aI (aF 0 (aj (aC cM (ak 4) (aO 1)) au))) au))))))
 (aG (bj 8 (cO (bP au)))
 (aG (iC (i0 (gA (d0 dq (aF 0 (aj (cF (.str "")) (aj (aC cM (aO 1) (ay aI (aF 0 (fh 3 au)))) au)))))) (bQ 9) (aG (bj 10 (cO (bX [none,some 1] (i0 (aX (ak 8))) (bQ 0) cz (bg (aF 1 (aj (aC aQ (ak 0) (aO 0)) au))))))
 (aG (bj 11 (cO (AO (aX (ak 2)) (gA (uX (aX (ak 10)) (yP intOfD (aj (aC (fm false) (ay aI (aF 0 (fh 5 au))) (aO 0)) au)))))))
 (mY (rX i8 (ak 8) (aj (bg (aF 9 (aj (ay kJ (aF 0 (aj (bg (aF 5 (aF 6 (aF 7 au)))) (aF 11 (fh 4 au))))) au))) au))))))
 (aG (bj 12 (tupQ (gA (bX [none,some 0] (i0 (aX (ak 7))) (bQ 0) cz (bg (aF 0 (aj (aC aQ (cO (bP (aj (cF (.str "row")) (aj (cF (.str "turns")) au)))) (ay aI (aF 1 (fh 2 au)))) au)))))))
 (cA (bg (aF 1 (aF 5 (aj (tupQ (gA (bX [none,some 0] (i0 (aX (ak 6))) (bQ 0) cz (bg (aF 0 (aj (ay aI (aF 1 (fh 3 au))) au)))))) (aF 12 (aj (tupQ (iE (aX (ak 8)))) au)))))))))))))
def kg:dU:=fg 13 uO
def qx:dm:=
 (aG (bj 4 (cO (d0 dq (aF 0 (aj (cF (.str "")) (aF 1 au))))))
 (aG (bj 5 (cO (bP au)))
 (aG (GP (aK (eB (aX (ak 4)))) (aG (bj 6 (cO (bP au)))
 (aG (iC (i0 (aX (ak 5))) (bQ 7) (mY (rR (ak 6) (gA (bX [none,some 7] (i0 (aX (aC aQ (ak 7) (aO 4)))) (bQ 0) cz (bg (aj (aC aQ (ak 1) (aO 0)) (aj (aC aQ (ak 0) (aO 0)) au))))))))
 (aG (bj 8 (rX nz (ak 4) (aj (ay aI (aF 0 (aj (ie (aX (ak 4))) au))) au)))
 (mY (rX i8 (ak 5) (aj (ay kg (aF 0 (aF 8 (aF 6 (aF 2 (aF 3 au)))))) au)))))) 4)
 (cA (tupQ (gA (xv (aX (ak 5)))))))))
def jo:dU:=fg 9 qx
def wu:dm:=
 (aG (bj 5 (cO (bP au)))
 (aG (iC (rC (aC cM (aO 1) (ay aI (aF 0 (aF 4 au))))) (bQ 6) (aG (bj 7 (ay aI (aF 0 (fh 10 au))))
 (eL (gB (aK (aC Dq (ak 7) (aO 5))) (aK (eB (aX (ak 1))))) (mY (rX i8 (ak 5) (aj (ay lJ (aF 0 (aF 1 (aF 2 (aF 2 au))))) au))) (eL (gB (aK (aC (fm false) (ak 7) (aO 5))) (aK (eB (aX (ak 3))))) (mY (rX i8 (ak 5) (aj (bg (aj (aC aQ (cO (bP (aj (cF (.str "take")) (aj (cF (.str "give")) au)))) (ay aI (aF 0 (fh 2 au)))) (aj (ay bN (aF 0 (aF 3 au))) au))) au))) (eL (gB (aK (aC (fm false) (ak 7) (aO 6))) (aK (eB (aX (ak 3))))) (mY (rX i8 (ak 5) (aj (bg (aj (cF (.str "pass")) (aj (ay bN (aF 0 (aF 3 au))) (aj (ay bN (aF 0 (aF 3 au))) au)))) au))) (eL (gB (aK (aC (fm false) (ak 7) (aO 7))) (aK (eB (aX (ak 2))))) (mY (rX i8 (ak 5) (aj (bg (aj (cF (.str "put")) (aj (ay bN (aF 0 (aF 2 au))) (aj (ay (bE 4) (aF 0 (aF 2 (aj (cO (bP au)) (fh 2 au))))) au)))) au))) (eL (aK (aC (fm false) (ak 7) (aO 8))) (aG (mY (rX i8 (ak 5) (aj (bg (aj (cF (.str "unless")) (aj (ay (bE 4) (aF 0 (aF 2 (aj (cO (bP au)) (fh 2 au))))) (aj (aC cM (ie (aX (ak 5))) (aO 2)) au)))) au)))
 (mY (rX i8 (ak 5) (aj (bg (aj (cF (.str "say")) (aj (ay (bE 4) (aF 0 (aF 2 (aj (cO (bP au)) (fh 1 au))))) au))) au)))) (mY (rX i8 (ak 5) (aj (bg (aj (cF (.str "say")) (aj (ay (bE 4) (aF 0 (aF 2 (aj (cO (bP au)) (fh 1 au))))) au))) au))))))))))
 (aG (eL (aK (aC (fm false) (ay aI (aF 0 (fh 5 au))) (aO 0))) (mY (rX i8 (ak 5) (aj (bg (aj (cF (.str "go")) (aj (ay aI (aF 0 (aj (aC cM (ie (aX (ak 5))) (aO 2)) au))) au))) au))) fR)
 (cA (tupQ (iE (aX (ak 5))))))))
def mK:dU:=fg 8 wu
def qN:dm:=
 (aG (bj 4 (cO (bP au)))
 (aG (iC (i0 (aX (ak 1))) (bQ 5) (mY (rR (ak 4) (gA (bX [none,some 5] (i0 (aX (aC aQ (ak 5) (aO 4)))) (bQ 0) cz (bg (aj (aC aQ (ak 1) (aO 0)) (aj (aC aQ (ak 0) (aO 0)) au))))))))
 (aG (bj 6 (cO (d0 dq (aF 0 (aj (cF (.str "p")) (aj (ay aI (aF 0 (aj (aC cM (ak 3) (aO 1)) au))) au))))))
 (aG (bj 7 (cO (d0 dq (aF 0 (aj (cF (.str "o")) (aj (aC aQ (cO (bP (fh 0 (fh 0 (fh 1 (fh 2 au)))))) (ay aI (aF 0 (fh 4 au)))) au))))))
 (aG (bj 8 (cO (bP au)))
 (aG (iC (rC (ak 2)) (bQ 9) (aG (bj 10 (cO (d0 dq (aF 0 (aj (cF (.str "")) (aj (aC aQ (cO (bP (fh 0 (fh 1 (fh 1 (fh 2 au)))))) (ay aI (aF 0 (fh 4 au)))) au))))))
 (aG (bj 11 (ay mK (aF 0 (aF 4 (aj (cO (AO (aX (ak 10)) (aX (ak 7)))) (aF 6 (fh 4 au)))))))
 (mY (rX i8 (ak 8) (aj (bg (aj (tupQ (gA (bX [none,some 0] (i0 (aX (ak 10))) (bQ 0) cz (bg (aF 0 (aj (ay aI (aF 1 (fh 3 au))) au)))))) (aF 11 au))) au))))))
 (aG (bj 12 (tupQ (gA (bX [none,some 0] (i0 (aX (ak 6))) (bQ 0) cz (bg (aF 0 (aj (ay aI (aF 1 (fh 3 au))) au)))))))
 (cA (bg (aF 1 (aF 12 (aj (tupQ (gA (bX [none,some 0] (i0 (aX (ak 7))) (bQ 0) cz (bg (aF 0 (aj (ay aI (aF 1 (fh 3 au))) au)))))) (aj (tupQ (iE (aX (ak 8)))) au)))))))))))))
def ji:dU:=fg 13 qN
def kX:dm:=
 (aG (bj 1 (ay jo (aF 0 (aj (aC aQ (cO (bP (fh 1 (fh 2 (fh 3 (fh 1 (fh 2 (fh 0 au)))))))) (ay aI (aF 0 (fh 6 au)))) (aj (cO (bP (aj (cF (.str "at once")) (aj (cF (.str "when free")) au)))) (fh 2 au))))))
 (cA (ay ji (aF 0 (aF 1 (aj (aC cM (aO 1) (ay aI (aF 0 (fh 4 au)))) (fh 2 au)))))))
def eM:dU:=fg 2 kX
def sC:dm:=
 (cA (tupQ (gA (bX [none,none] (i0 (aX (ak 0))) (iA (nG 2 (aJ (bQ 0) (aJ (bQ 1) dr)))) cz (ak 1)))))
def g7:dU:=fg 1 sC
def qZ:dm:=
 (aG (rO (ak 0) (iA (nG 5 (aJ (bQ 1) (aJ (bQ 2) (aJ (bQ 3) (aJ (bQ 4) (aJ (bQ 5) dr))))))))
 (cA (bg (aj (ay g7 (aF 3 au)) (aj (cF (.int (-1))) (aj (bg au) (aj (bg au) (aj (tupQ (gA (bX [none] (i0 (aX (ak 4))) (bQ 0) cz (bg au)))) au))))))))
def jn:dU:=fg 6 qZ
def Gr:dm:=
 (aG (rO (ak 0) (iA (nG 4 (aJ (bQ 1) (aJ (bQ 2) (aJ (bQ 3) (aJ (bQ 4) dr)))))))
 (aG (bj 5 (bg (aj (cF (.int (-1))) (aj (cF (.int (-1))) (fh 0 (fh 0 (fh 0 au)))))))
 (cA (bg (aj (tupQ (gA (bX [none] (i0 (aX (ak 1))) (bQ 0) cz (ay jn (aF 0 au))))) (aj (tupQ (gA (bX [none,none] (i0 (aX (ak 2))) (iA (nG 2 (aJ (bQ 0) (aJ (bQ 1) dr)))) cz (bg (aF 1 (aj (bg au) au)))))) (aj (ay g7 (aF 3 au)) (aj (tupQ (gA (bX [none,none,some 5] (i0 (aX (ak 4))) (iA (nG 2 (aJ (bQ 0) (aJ (bQ 1) dr)))) cz (bg (aj (ay g7 (aF 0 au)) (aj (bg (aF 2 au)) au)))))) au))))))))
def xn:dU:=fg 6 Gr
def vq:dm:=
 (Gv (bX [none,none] (i0 (aX (ak 0))) (iA (nG 2 (aJ (bQ 0) (aJ (bQ 1) dr)))) cz (ak 1)))
def jN:dU:=fg 1 vq
def lQ:dm:=
 (aG (bj 1 (cO (bP au)))
 (aG (iC (i0 (aX (aC aQ (ak 0) (aO 1)))) (iA (nG 2 (aJ (bQ 2) (aJ (bQ 3) dr)))) (mY (v8 (ak 1) (aX (ak 3)))))
 (aG (iC (i0 (aX (aC aQ (ak 0) (aO 0)))) (iA (nG 5 (aJ (bQ 4) (aJ (bQ 5) (aJ (bQ 3) (aJ (bQ 6) (aJ (bQ 7) dr))))))) (aG (mY (v8 (ak 1) (aX (aC cM (ak 3) (ak 6)))))
 (iC (i0 (aX (ak 7))) (bQ 8) (mY (rR (ak 1) (gA (d0 jN (aF 8 au))))))))
 (cA (ak 1)))))
def eX:dU:=fg 9 lQ
def qG:dm:=
 (cA (aC aQ (aC aQ (aC aQ (aC aQ (ak 0) (aO 3)) (ak 1)) (aO 1)) (pk (aO 1))))
def c7:dU:=fg 2 qG
def rh:dm:=
 (aG (Hj 3 4 (aj (aC aQ (ak 2) (aO 0)) (aj (aC aQ (ak 2) (aO 1)) au)))
 (aG (eL (aK (aC (fm false) (ak 3) (cF (.int (-1))))) (cA (aC aQ (aC aQ (aC aQ (ak 0) (aO 3)) (ak 1)) (aO 1))) fR)
 (cA (aC aQ (aC aQ (aC aQ (aC aQ (aC aQ (ak 0) (aO 0)) (ak 3)) (aO 4)) (ak 4)) (aO 1)))))
def eW:dU:=fg 5 rh
def lK:dm:=
 (aG (bj 3 (ay c7 (aF 1 (aF 2 au))))
 (cA (Ap (aC (fm false) (aC aQ (ak 3) (aO 0)) (cF (.int (-1)))) (aC (fm false) (aC aQ (ak 3) (aO 2)) (ie (aX (ay eW (aF 0 (aF 2 (aF 3 au))))))))))
def gK:dU:=fg 4 lK
def wj:dm:=
 (aG (bj 2 (cO (d0 eX (aF 1 au))))
 (Gv (bX [none,some 0,some 1,some 2] (rC (ie (aX (aC aQ (ak 1) (aO 3))))) (bQ 0) (gB (aK (Cn true (ak 0) (aX (ak 3)))) (xM (kc (ay gK (aF 1 (aF 2 (aF 0 au))))))) (ak 0))))
def jX:dU:=fg 3 wj
def j6:dm:=
 (aG (rO (aC aQ (aC aQ (ak 1) (aO 0)) (ak 2)) (iA (nG 5 (aJ (bQ 3) (aJ (bQ 4) (aJ (bQ 5) (aJ (bQ 6) (aJ (bQ 7) dr))))))))
 (aG (eL (gB (aK (aC Dq (ak 4) (aO 0))) (aK (aC (m4 true) (aC cM (ak 5) (ak 6)) (bg au)))) (cA (cF (.bl false))) fR)
 (aG (eL (gB (aK (aC Mp (ak 4) (aO 0))) (aK (Cn true (ak 2) (gA (bX [none] (i0 (aX (aC aQ (aC aQ (aC aQ (ak 1) (aO 3)) (ak 4)) (aO 1)))) (bQ 0) cz (aC aQ (ak 0) (aO 0))))))) (cA (cF (.bl false))) fR)
 (aG (eL (gB (aK (aC (m4 false) (aC aQ (aC aQ (aC aQ (ak 0) (aO 0)) (ak 2)) (aO 1)) (cF (.str "when free")))) (aK (aC (m4 true) (ak 6) (bg au)))) (cA (cF (.bl false))) fR)
 (aG (iC (pY (aX (aC aQ (aC aQ (aC aQ (ak 0) (aO 0)) (ak 2)) (aO 3))) (aX (ak 7))) (iA (nG 2 (aJ (iA (nG 2 (aJ (bQ 8) (aJ (bQ 9) dr)))) (aJ (bQ 10) dr)))) (aG (bj 11 (cO (bX [none,none] (i0 (aX (ak 10))) (iA (nG 2 (aJ (bQ 0) (aJ (bQ 1) dr)))) cz (ak 0))))
 (eL (GM (aK (eqQ true (aX (ak 11)) (gA (DJ (aX (ak 11)))))) (gB (aK (aC (m4 false) (ak 9) (cF (.str "row")))) (kc (anyI (aX (ak 11)))))) (cA (cF (.bl false))) fR)))
 (cA (sT (gA (bX [none] (i0 (aX (ak 3))) (bQ 0) cz (jG Ed Ed (aO 0) (ak 0) (aO 9)))))))))))
def ft:dU:=fg 12 j6
def qX:dm:=
 (aG (bj 3 (cO (bP au)))
 (aG (iC (pY (aX (aC aQ (ak 0) (aO 1))) (aX (aC aQ (ak 1) (aO 1)))) (iA (nG 2 (aJ (bQ 4) (aJ (bQ 5) dr)))) (mY (rR (ak 3) (gA (uX (gA (bP (aj (bg (aj (cF (.str "pass")) (aj (aC aQ (ak 4) (aO 0)) au))) au))) (qf (aC aQ (ak 5) (aO 1)) (ak 2)))))))
 (aG (iC (pY (aX (aC aQ (ak 0) (aO 0))) (aX (aC aQ (ak 1) (aO 0)))) (iA (nG 2 (aJ (bQ 6) (aJ (bQ 5) dr)))) (aG (mY (rR (ak 3) (gA (AO (gA (uX (gA (bP (aj (bg (aj (cF (.str "row")) (aj (aC aQ (ak 6) (aO 0)) au))) au))) (qf (aC aQ (ak 5) (aO 2)) (ak 2)))) (gA (uX (gA (bP (aj (bg (aj (cF (.str "late")) (aj (aC aQ (ak 6) (aO 0)) au))) au))) (qf (aC aQ (ak 5) (aO 3)) (ak 2))))))))
 (iC (pY (aX (aC aQ (ak 6) (aO 3))) (aX (aC aQ (ak 5) (aO 4)))) (iA (nG 2 (aJ (bQ 7) (aJ (bQ 8) dr)))) (mY (rR (ak 3) (gA (uX (gA (bP (aj (bg (aj (cF (.str "bell")) (aj (aC aQ (ak 6) (aO 0)) (aj (aC aQ (ak 7) (aO 0)) au)))) au))) (ie (gA (bX [none,some 2] (i0 (aX (ak 8))) (bQ 0) (aK (aC (fm false) (aC aQ (ak 0) (aO 1)) (ak 1))) (ak 0)))))))))))
 (cA (ak 3)))))
def jh:dU:=fg 9 qX
def k0:dm:=
 (aG (iC (pY (aX (aC aQ (ak 0) (aO 1))) (aX (aC aQ (ak 1) (aO 1)))) (iA (nG 2 (aJ (iA (nG 2 (aJ (bQ 3) (aJ (bQ 4) dr)))) (aJ (iA (nG 2 (aJ (bQ 5) (aJ (bQ 6) dr)))) dr)))) (eL (aK (Cn false (ak 2) (aX (ak 6)))) (cA (bg (aj (cF (.str "pass")) (aF 3 au)))) fR))
 (aG (iC (pY (aX (aC aQ (ak 0) (aO 0))) (aX (aC aQ (ak 1) (aO 0)))) (iA (nG 2 (aJ (bQ 7) (aJ (bQ 8) dr)))) (aG (eL (aK (Cn false (ak 2) (aX (aC aQ (ak 8) (aO 2))))) (cA (bg (aj (cF (.str "row")) (aj (aC aQ (ak 7) (aO 0)) au)))) fR)
 (aG (eL (aK (Cn false (ak 2) (aX (aC aQ (ak 8) (aO 3))))) (cA (bg (aj (cF (.str "late")) (aj (aC aQ (ak 7) (aO 0)) au)))) fR)
 (iC (pY (aX (aC aQ (ak 7) (aO 3))) (aX (aC aQ (ak 8) (aO 4)))) (iA (nG 2 (aJ (iA (nG 2 (aJ (bQ 9) (aJ (bQ 10) dr)))) (aJ (bQ 11) dr)))) (eL (aK (Cn false (ak 2) (gA (d0 jN (aF 11 au))))) (cA (bg (aj (cF (.str "bell")) (aj (aC aQ (ak 7) (aO 0)) (aF 9 au))))) fR)))))
 (cA (cF .non))))
def fU:dU:=fg 12 k0
def CN:dm:=
 (aG (bj 3 (ay fU (aF 0 (aF 1 (aF 2 au)))))
 (aG (eL (aK (aC (AY true) (ak 3) (cF .non))) (cA (ak 3)) fR)
 (aG (bj 4 (ay c7 (aF 1 (aF 2 au))))
 (aG (bj 5 (aC aQ (ak 4) (aO 0)))
 (aG (eL (aK (aC (fm false) (ak 5) (cF (.int (-1))))) (cA (tf (aK (aC (fm false) (aC aQ (ak 4) (aO 2)) (ie (aX (ay eW (aF 0 (aF 2 (aF 4 au)))))))) (bg (aj (cF (.str "done")) au)) (bg (aj (cF (.str "out")) au)))) fR)
 (aG (bj 6 (aC aQ (aC aQ (aC aQ (ak 0) (aO 0)) (ak 5)) (aO 0)))
 (cA (tf (aK (aC (fm false) (aC aQ (aC aQ (aC aQ (ak 1) (aO 0)) (ak 5)) (aO 1)) (ak 2))) (bg (aj (cF (.str "within")) (aF 6 au))) (bg (aj (cF (.str "called")) (aF 6 au)))))))))))
def sh:dU:=fg 7 CN
def sO:dm:=
 (aG (rO (aC aQ (aC aQ (aC aQ (aC aQ (ak 1) (aO 3)) (ak 2)) (aO 1)) (pk (aO 1))) (iA (nG 5 (aJ (bQ 3) (aJ (bQ 4) (aJ (bQ 5) (aJ (bQ 6) (aJ (bQ 7) dr))))))))
 (aG (eL (aK (aC Dq (ak 3) (aO 0))) (cA (aC aQ (cO (bP (aj (cF (.str "out")) (aj (cF (.str "done")) au)))) (yP intOfD (aj (aC (fm false) (ak 5) (ie (aX (aC aQ (aC aQ (aC aQ (ak 0) (aO 3)) (ak 2)) (aO 1))))) au)))) fR)
 (cA (aC aQ (cO (bP (aj (cF (.str "called")) (aj (cF (.str "within")) au)))) (yP intOfD (aj (aC (fm false) (aC aQ (aC aQ (aC aQ (ak 1) (aO 0)) (ak 3)) (aO 1)) (ak 2)) au))))))
def kH:dU:=fg 8 sO
def jW:dm:=
 (aG (bj 3 (cO (d0 jh (aF 0 (aF 1 (aF 2 au))))))
 (aG (bj 4 (ay sh (aF 0 (aF 1 (aF 2 au)))))
 (aG (bj 5 (aC aQ (aC aQ (aC aQ (ak 1) (aO 3)) (ak 2)) (aO 1)))
 (aG (eL (GM (aK (aC IT (ie (aX (ak 3))) (aO 1))) (GM (aK (aC (m4 true) (qF (aC aQ (ak 5) (aO 0)) rH (qJ (aO 2))) (bg (aj (pk (aO 1)) (aj (pk (aO 1)) au))))) (aK (aC (m4 true) (qF (aC aQ (ak 5) (aO 0)) (qJ (aO 3)) rH) (bg (fh 0 (fh 0 au))))))) (cA (cF (.bl false))) fR)
 (aG (eL (kc (Ih (gA (bX [none] (i0 (aX (qF (ak 5) (qJ (aO 1)) rH))) (bQ 0) cz (aC Dq (aC aQ (ak 0) (aO 0)) (aO 0)))))) (cA (cF (.bl false))) fR)
 (aG (eL (aK (s_ (aX (ak 3)))) (cA (aC (m4 false) (aC aQ (ak 4) (aO 0)) (ay kH (aF 0 (aF 1 (aF 2 au)))))) fR)
 (aG (eL (aK (aC (m4 true) (aC aQ (ak 3) (aO 0)) (ak 4))) (cA (cF (.bl false))) fR)
 (aG (eL (aK (aC (m4 false) (aC aQ (ak 4) (aO 0)) (cF (.str "pass")))) (cA (aC (m4 false) (ie (aX (ak 5))) (aO 1))) fR)
 (cA (Ap (aC IT (ie (aX (ak 5))) (aO 1)) (aC (m4 false) (aC aQ (aC aQ (aC aQ (ak 0) (aO 0)) (aC aQ (aC aQ (ak 5) (pk (aO 1))) (aO 0))) (aO 0)) (aC aQ (ak 4) (aO 1)))))))))))))
def fj:dU:=fg 6 jW
def qO:dm:=
 (aG (eL (xM (kc (sT (gA (bX [none,some 0,some 1] (rC (ie (aX (aC aQ (ak 0) (aO 3))))) (bQ 0) cz (ay fj (aF 1 (aF 2 (aF 0 au))))))))) (cA (cF (.bl false))) fR)
 (aG (eL (xM (kc (sT (gA (bX [none] (i0 (aX (aC cM (aC aQ (ak 1) (aO 2)) (tupQ (gA (bX [none] (i0 (aX (aC aQ (ak 1) (aO 1)))) (bQ 0) cz (aC aQ (ak 0) (aO 0)))))))) (bQ 0) cz (jG Ed Ed (aO 0) (ak 0) (aO 9))))))) (cA (cF (.bl false))) fR)
 (aG (eL (xM (kc (sT (gA (bX [none] (i0 (aX (aC aQ (ak 1) (aO 1)))) (bQ 0) cz (LR (aC (m4 false) (aC aQ (ak 0) (aO 0)) (aO 0)) (aC (m4 false) (aC aQ (ak 0) (aO 1)) (bg au)))))))) (cA (cF (.bl false))) fR)
 (cA (sT (gA (bX [none,some 0,some 1] (rC (ie (aX (aC aQ (ak 0) (aO 0))))) (bQ 0) cz (ay ft (aF 1 (aF 2 (aF 0 au)))))))))))
def jw:dU:=fg 2 qO
def uQ:dm:=
 (aG (eL (gB (aK (Cn false (ak 2) (aX (ak 1)))) (aK (aC (fm false) (ay aI (aF 0 (fh 2 au))) (aO 0)))) (cA (ak 2)) fR)
 (cA (ay bN (aF 0 (aF 1 au)))))
def kD:dU:=fg 3 uQ
def vp:dm:=
 (Gv (bX [none] (i0 (aX (ak 0))) (bQ 0) cz (aC aQ (ak 0) (aO 0))))
def eO:dU:=fg 1 vp
def vC:dm:=
 (cA (JS (gA (d0 eO (aF 0 au))) (ak 1)))
def dE:dU:=fg 2 vC
def uG:dm:=
 (cA (aC cM (aC cM (qF (ak 0) rH (qJ (ak 1))) (bg (aF 2 au))) (qF (ak 0) (qJ (aC cM (ak 1) (aO 1))) rH)))
def dW:dU:=fg 3 uG
def uq:dm:=
 (cA (aC cM (qF (ak 0) rH (qJ (aO 3))) (bg (aj (ay dW (aj (aC aQ (ak 0) (aO 3)) (aF 1 (aj (bg (aF 2 (aF 3 au))) au)))) au))))
def gk:dU:=fg 4 uq
def sJ:dm:=
 (cA (aC cM (bg (aj (ay dW (aj (aC aQ (ak 0) (aO 0)) (aF 1 (aF 2 au)))) au)) (qF (ak 0) (qJ (aO 1)) rH)))
def dz:dU:=fg 3 sJ
def nM:dm:=
 (aG (bj 5 (aC aQ (ay c7 (aF 1 (aF 2 au))) (aO 0)))
 (aG (eL (aK (aC (fm true) (ak 5) (cF (.int (-1))))) (aG (bj 6 (ay dE (aj (aC aQ (aC aQ (aC aQ (ak 0) (aO 0)) (ak 5)) (aO 2)) (aF 3 au))))
 (aG (bj 7 (ay dW (aj (aC aQ (aC aQ (aC aQ (ak 1) (aO 0)) (ak 5)) (aO 0)) (aF 6 (aF 4 au)))))
 (cA (ay dz (aF 1 (aF 5 (aj (aC cM (bg (aF 7 au)) (qF (aC aQ (aC aQ (ak 1) (aO 0)) (ak 5)) (qJ (aO 1)) rH)) au))))))) fR)
 (aG (eL (aK (Cn false (ak 3) (gA (d0 eO (aj (aC aQ (ak 0) (aO 2)) au))))) (aG (bj 8 (ay dW (aj (aC aQ (ak 1) (aO 2)) (aj (ay dE (aj (aC aQ (ak 0) (aO 2)) (aF 3 au))) (aF 4 au)))))
 (cA (bg (aj (aC aQ (ak 1) (aO 0)) (aj (aC aQ (ak 1) (aO 1)) (aF 8 (aj (aC aQ (ak 1) (aO 3)) au))))))) fR)
 (aG (rO (aC aQ (aC aQ (ak 1) (aO 3)) (ak 2)) (iA (nG 2 (aJ (bQ 7) (aJ (bQ 9) dr)))))
 (aG (bj 6 (ay dE (aj (aC aQ (aC aQ (aC aQ (ak 0) (aO 3)) (ak 2)) (aO 0)) (aF 3 au))))
 (cA (ay gk (aF 1 (aF 2 (aj (ay dW (aF 7 (aF 6 (aF 4 au)))) (aF 9 au)))))))))))
def f_:dU:=fg 10 nM
def m5:dm:=
 (aG (eL (aK (aC (fm false) (ak 0) (cF (.str "plus")))) (cA (yP minD (aj (aC cM (ak 1) (ak 2)) (aj (cF (.int (9))) au)))) fR)
 (aG (eL (aK (aC (fm false) (ak 0) (cF (.str "minus")))) (cA (yP maxD (aj (aC mN (ak 1) (ak 2)) (fh 0 au)))) fR)
 (aG (eL (aK (aC (fm false) (ak 0) (cF (.str "less")))) (cA (tf (aK (aC Dq (ak 1) (ak 2))) (aO 1) (aO 0))) fR)
 (aG (eL (aK (aC (fm false) (ak 0) (cF (.str "same")))) (cA (tf (aK (aC (fm false) (ak 1) (ak 2))) (aO 1) (aO 0))) fR)
 (cA (tf (gB (aK (aC (fm true) (ak 1) (aO 0))) (aK (aC (fm true) (ak 2) (aO 0)))) (aO 1) (aO 0)))))))
def g9:dU:=fg 3 m5
def wg(self:dU):dm:=
 (aG (eL (kc (DA "int" (ak 0))) (cA (ak 0)) fR)
 (aG (eL (kc (DA "str" (ak 0))) (cA (LM (ak 1) (ak 0))) fR)
 (aG (eL (aK (aC (fm false) (aC aQ (ak 0) (aO 0)) (cF (.str "waits")))) (cA (tf (aK (aC IT (LM (ak 2) (aC aQ (ak 0) (aO 1))) (aO 0))) (aO 1) (aO 0))) fR)
 (aG (bj 3 (ay self (aj (aC aQ (ak 0) (aO 1)) (aF 1 (aF 2 au)))))
 (aG (eL (aK (aC (fm false) (aC aQ (ak 0) (aO 0)) (cF (.str "not")))) (cA (tf (aK (aC (fm false) (ak 3) (aO 0))) (aO 1) (aO 0))) fR)
 (cA (ay g9 (aj (aC aQ (ak 0) (aO 0)) (aF 3 (aj (ay self (aj (aC aQ (ak 0) (aO 2)) (aF 1 (aF 2 au)))) au))))))))))
def gY:Nat->dU
 |0=>fun _ _=>none
 |n+1=>fg 4 (wg (gY n))
def qg:dm:=
 (aG (bj 4 (ay c7 (aF 1 (aF 2 au))))
 (aG (bj 5 (aC aQ (ak 4) (aO 0)))
 (aG (eL (aK (aC (fm false) (ak 5) (cF (.int (-1))))) (aG (bj 6 (KH (gA (d0 eO (aj (aC aQ (ak 0) (aO 2)) au))) (aX (aC aQ (ak 1) (aO 2)))))
 (aG (mY (HF (ak 6) (KH (gA (d0 eO (aj (aC aQ (aC aQ (aC aQ (ak 0) (aO 3)) (ak 2)) (aO 0)) au))) (aX (aC aQ (aC aQ (aC aQ (ak 1) (aO 3)) (ak 2)) (aO 0))))))
 (cA (ay (gY 6) (aF 3 (aF 6 (aj MU au))))))) fR)
 (aG (bj 6 (KH (gA (d0 eO (aj (aC aQ (aC aQ (aC aQ (ak 0) (aO 0)) (ak 5)) (aO 2)) au))) (aX (aC aQ (aC aQ (aC aQ (ak 1) (aO 0)) (ak 5)) (aO 0)))))
 (aG (Mr (ak 6) (cF (.str "given")) (aC aQ (ak 4) (aO 3)))
 (aG (Mu 7 (sR [none,none] (pY (gA (d0 eO (aj (aC aQ (aC aQ (aC aQ (ak 0) (aO 0)) (ak 5)) (aO 3)) au))) (aX (aC aQ (aC aQ (aC aQ (ak 1) (aO 0)) (ak 5)) (aO 4)))) (iA (nG 2 (aJ (bQ 0) (aJ (bQ 1) dr)))) cz (ak 0) (ie (aX (ak 1)))))
 (cA (ay (gY 6) (aF 3 (aF 6 (aF 7 au)))))))))))
def eg:dU:=fg 8 qg
def Cw:dm:=
 (cA (ay f_ (aF 0 (aF 1 (aF 2 (aj (aC aQ (ak 3) (aO 1)) (aj (ay eg (aF 0 (aF 1 (aF 2 (aj (aC aQ (ak 3) (aO 2)) au))))) au)))))))
def r8:dU:=fg 4 Cw
def j2:dm:=
 (aG (rO (aC aQ (aC aQ (ak 0) (aO 3)) (ak 1)) (iA (nG 2 (aJ (bQ 3) (aJ (bQ 4) dr)))))
 (cA (ay gk (aF 0 (aF 1 (aF 3 (aj (aC cM (qF (ak 4) rH (qJ (pk (aO 1)))) (bg (aF 2 au))) au)))))))
def eD:dU:=fg 5 j2
def Cm:dm:=
 (aG (bj 3 (ay c7 (aF 0 (aF 1 au))))
 (cA (ay eD (aF 0 (aF 1 (aj (aC cM (aC cM (qF (ak 3) rH (qJ (aO 2))) (bg (aF 2 au))) (qF (ak 3) (qJ (aO 3)) rH)) au))))))
def kE:dU:=fg 4 Cm
def ud:dm:=
 (aG (eL (aK (aC (fm false) (ay eg (aF 0 (aF 1 (aF 2 (aj (aC aQ (ak 3) (aO 1)) au))))) (aO 0))) (cA (ay kE (aF 1 (aF 2 (aj (aC aQ (ak 3) (aO 2)) au))))) fR)
 (cA (ak 1)))
def kq:dU:=fg 4 ud
def Gf:dm:=
 (cA (ay kE (aF 1 (aF 2 (aj (aC aQ (ak 3) (aO 1)) au)))))
def yt:dU:=fg 4 Gf
def yT:dm:=
 (aG (rO (aC aQ (aC aQ (ak 0) (aO 0)) (ak 1)) (iA (nG 5 (aJ (bQ 3) (aJ (bQ 4) (aJ (bQ 5) (aJ (bQ 6) (aJ (bQ 7) dr))))))))
 (aG (eL (aK (aC (fm false) (ak 4) (cF (.int (-1))))) (cA (ay dz (aF 0 (aF 1 (aj (bg (aF 3 (aF 2 (aF 5 (aF 6 (aF 7 au)))))) au))))) fR)
 (cA (ay dz (aF 0 (aF 1 (aj (bg (aF 3 (aF 4 (aj (aC cM (ak 5) (bg (aF 2 au))) (aF 6 (aF 7 au)))))) au)))))))
def lH:dU:=fg 8 yT
def Fi:dm:=
 (aG (bj 4 (ay dE (aj (aC aQ (ak 0) (aO 0)) (aj (aC aQ (ak 3) (aO 2)) au))))
 (aG (bj 5 (ay dE (aj (aC aQ (aC aQ (aC aQ (ak 0) (aO 0)) (ak 4)) (aO 4)) (aj (aC aQ (ak 3) (aO 3)) au))))
 (aG (bj 6 (bg (aF 4 (aF 5 (fh 0 (aj (ay eg (aF 0 (aF 1 (aF 2 (aj (aC aQ (ak 3) (aO 4)) au))))) (fh 0 au)))))))
 (aG (rO (aC aQ (aC aQ (ak 1) (aO 3)) (ak 2)) (iA (nG 2 (aJ (bQ 7) (aJ (bQ 8) dr)))))
 (cA (ay lH (aj (ay gk (aF 1 (aF 2 (aF 7 (aj (aC cM (ak 8) (bg (aF 6 au))) au))))) (aF 4 (aF 2 au)))))))))
def xk:dU:=fg 9 Fi
def zi:dm:=
 (aG (bj 4 (aC aQ (ay c7 (aF 1 (aF 2 au))) (aO 0)))
 (cA (bg (aF 4 (aj (ay dE (aj (aC aQ (aC aQ (aC aQ (ak 0) (aO 0)) (ak 4)) (aO 3)) (aF 3 au))) au)))))
def j7:dU:=fg 5 zi
def sQ:dm:=
 (aG (bj 4 (aC aQ (aC aQ (ak 0) (aO 0)) (ak 1)))
 (cA (ay dz (aF 0 (aF 1 (aj (aC cM (qF (ak 4) rH (qJ (aO 4))) (bg (aj (ay dW (aj (aC aQ (ak 4) (aO 4)) (aF 2 (aF 3 au)))) au))) au))))))
def fY:dU:=fg 5 sQ
def GA:dm:=
 (aG (rO (aC aQ (aC aQ (ak 0) (aO 0)) (ak 1)) (iA (nG 5 (aJ (bQ 2) (aJ (bQ 3) (aJ (bQ 4) (aJ (bQ 5) (aJ (bQ 6) dr))))))))
 (aG (eL (kc (ak 5)) (cA (ay dz (aF 0 (aF 1 (aj (bg (aF 2 (aj (aC aQ (ak 5) (aO 0)) (aF 4 (aj (qF (ak 5) (qJ (aO 1)) rH) (aF 6 au)))))) au))))) fR)
 (aG (eL (kc (ak 4)) (cA (ay dz (aF 0 (aF 1 (aj (bg (aF 2 (aj (aC aQ (ak 4) (aO 0)) (aj (qF (ak 4) (qJ (aO 1)) rH) (aF 5 (aF 6 au)))))) au))))) fR)
 (cA (ay dz (aF 0 (aF 1 (aj (bg (aF 2 (aj (cF (.int (-1))) (aF 4 (aF 5 (aF 6 au)))))) au))))))))
def p9:dU:=fg 7 GA
def AB:dm:=
 (aG (rO (ay j7 (aF 0 (aF 1 (aF 2 (aj (aC aQ (ak 3) (aO 1)) au))))) (iA (nG 2 (aJ (bQ 4) (aJ (bQ 5) dr)))))
 (aG (bj 6 (aO 0))
 (aG (eL (aK (aC (fm false) (aC aQ (aC aQ (aC aQ (aC aQ (aC aQ (ak 0) (aO 0)) (ak 4)) (aO 3)) (ak 5)) (aO 1)) (cF (.str "turns")))) (bj 6 (ay eg (aF 0 (aF 1 (aF 2 (aj (aC aQ (ak 3) (aO 2)) au)))))) fR)
 (aG (bj 7 (aC aQ (aC aQ (aC aQ (aC aQ (ak 1) (aO 0)) (ak 4)) (aO 4)) (ak 5)))
 (aG (bj 8 (ie (gA (bX [none,none,some 6] (i0 (aX (ak 7))) (iA (nG 2 (aJ (bQ 0) (aJ (bQ 1) dr)))) (aK (aC Ed (ak 0) (ak 2))) (ak 0)))))
 (aG (bj 9 (ay fY (aF 1 (aF 4 (aF 5 (aj (aC cM (aC cM (qF (ak 7) rH (qJ (ak 8))) (bg (aj (bg (aF 6 (aF 2 au))) au))) (qF (ak 7) (qJ (ak 8)) rH)) au))))))
 (cA (ay p9 (aF 9 (aF 4 au))))))))))
def oS:dU:=fg 10 AB
def zo:dm:=
 (aG (rO (ay j7 (aF 0 (aF 1 (aF 2 (aj (aC aQ (ak 3) (aO 1)) au))))) (iA (nG 2 (aJ (bQ 4) (aJ (bQ 5) dr)))))
 (aG (bj 6 (aC aQ (aC aQ (aC aQ (aC aQ (ak 1) (aO 0)) (ak 4)) (aO 4)) (ak 5)))
 (aG (eL (xM (kc (ak 6))) (cA (ak 1)) fR)
 (aG (bj 7 (ay fY (aF 1 (aF 4 (aF 5 (aj (qF (ak 6) (qJ (aO 1)) rH) au))))))
 (aG (eL (aK (aC (fm false) (aC aQ (aC aQ (aC aQ (ak 0) (aO 0)) (ak 4)) (aO 1)) (cF (.str "when free")))) (cA (ak 7)) fR)
 (aG (rO (aC aQ (aC aQ (ak 7) (aO 0)) (ak 4)) (iA (nG 5 (aJ (bQ 8) (aJ (bQ 9) (aJ (bQ 10) (aJ (bQ 11) (aJ (bQ 12) dr))))))))
 (cA (ay dz (aF 7 (aF 4 (aj (bg (aF 8 (aj (aC aQ (aC aQ (ak 6) (aO 0)) (aO 1)) (aF 10 (aj (aC cM (ak 11) (bg (aF 2 au))) (aF 12 au)))))) au)))))))))))
def oZ:dU:=fg 13 zo
def C7:dm:=
 (aG (rO (ay j7 (aF 0 (aF 1 (aF 2 (aj (aC aQ (ak 3) (aO 1)) au))))) (iA (nG 2 (aJ (bQ 4) (aJ (bQ 5) dr)))))
 (cA (ay fY (aF 1 (aF 4 (aF 5 (aj (bg au) au)))))))
def rY:dU:=fg 6 C7
def yV:dm:=
 (aG (bj 4 (ay eg (aF 0 (aF 1 (aF 2 (aj (aC aQ (ak 3) (aO 1)) au))))))
 (cA (ay eD (aF 1 (aF 2 (aj (aC cM (qF (ay c7 (aF 1 (aF 2 au))) rH (qJ (aO 4))) (bg (aF 4 au))) au))))))
def oG:dU:=fg 5 yV
def ur:dm:=
 (cA (aC cM (bg (aj (aC aQ (ak 0) (aO 0)) (aj (ay dW (aj (aC aQ (ak 0) (aO 1)) (aF 1 (aF 2 au)))) au))) (qF (ak 0) (qJ (aO 2)) rH)))
def gc:dU:=fg 3 ur
def FP:dm:=
 (aG (bj 4 (ay dE (aj (aC aQ (ak 0) (aO 1)) (aF 3 au))))
 (aG (rO (aC aQ (aC aQ (ak 1) (aO 1)) (ak 4)) (iA (nG 2 (aJ (bQ 5) (aJ (bQ 6) dr)))))
 (aG (eL (aK (aC IT (ak 5) (aO 0))) (cA (ay gc (aF 1 (aF 4 (aj (bg (aj (aC mN (ak 5) (aO 1)) (aF 6 au))) au))))) fR)
 (cA (ay gc (aF 1 (aF 4 (aj (bg (aF 5 (aj (aC cM (ak 6) (bg (aF 2 au))) au))) au))))))))
def t7:dU:=fg 7 FP
def zj:dm:=
 (cA (ay t7 (aF 0 (aF 1 (aF 2 (aj (aC aQ (ak 3) (aO 1)) au))))))
def pj:dU:=fg 4 zj
def qL:dm:=
 (aG (bj 3 (ay dE (aj (aC aQ (ak 0) (aO 1)) (aF 2 au))))
 (aG (rO (aC aQ (aC aQ (ak 1) (aO 1)) (ak 3)) (iA (nG 2 (aJ (bQ 4) (aJ (bQ 5) dr)))))
 (aG (eL (kc (ak 5)) (cA (ay gc (aF 1 (aF 3 (aj (bg (aF 4 (aj (qF (ak 5) (qJ (aO 1)) rH) au))) au))))) fR)
 (cA (ay gc (aF 1 (aF 3 (aj (bg (aj (yP minD (aj (aC cM (ak 4) (aO 1)) (aj (cF (.int (9))) au))) (aF 5 au))) au))))))))
def g_:dU:=fg 6 qL
def AM:dm:=
 (cA (ay g_ (aF 0 (aF 1 (aj (aC aQ (ak 3) (aO 1)) au)))))
def oE:dU:=fg 4 AM
def yW:dm:=
 (cA (ay t7 (aF 0 (aj (ay g_ (aF 0 (aF 1 (aj (aC aQ (ak 3) (aO 1)) au)))) (aF 2 (aj (aC aQ (ak 3) (aO 2)) au))))))
def oW:dU:=fg 4 yW
def Cf:dm:=
 (cA (ak 1))
def sA:dU:=fg 4 Cf
noncomputable def mE:List (Str×Str):= [("put","by_put"),("unless","by_unless"),("go","by_go"),("do","by_do"),("wait","by_wait"),("call","by_call"),("all","by_all"),("tell","by_tell"),("take","by_take"),("give","by_give"),("pass","by_pass"),("say","by_say")]
def ui:List (Str×dU):= [("by_put",r8),("by_unless",kq),("by_go",yt),("by_do",xk),("by_wait",oS),("by_call",oZ),("by_all",rY),("by_tell",oG),("by_take",pj),("by_give",oE),("by_pass",oW),("by_say",sA)]
def vD:dm:=
 (aG (bj 4 (Mj mE (aC aQ (ak 3) (aO 0))))
 (cA (uv 4 ui (aF 0 (aF 1 (aF 2 (aF 3 au)))))))
def j_:dU:=fg 5 vD
def vB:dm:=
 (aG (rO (aC aQ (aC aQ (ak 1) (aO 3)) (ak 2)) (iA (nG 2 (aJ (bQ 3) (aJ (bQ 4) dr)))))
 (aG (rO (aC aQ (ak 4) (pk (aO 1))) (iA (nG 5 (aJ (bQ 5) (aJ (bQ 6) (aJ (bQ 7) (aJ (bQ 8) (aJ (bQ 9) dr))))))))
 (aG (bj 10 (ay gk (aj (ay p9 (aF 1 (aF 5 au))) (aF 2 (aF 3 (aj (qF (ak 4) rH (qJ (pk (aO 1)))) au))))))
 (aG (bj 11 (aC aQ (ay eW (aF 0 (aF 2 (aj (aC aQ (ak 4) (pk (aO 2))) au)))) (aC mN (aC aQ (aC aQ (ak 4) (pk (aO 2))) (aO 2)) (aO 1))))
 (aG (eL (aK (aC (AY false) (aC aQ (ak 11) (aO 1)) (cF .non))) (cA (ak 10)) fR)
 (cA (ay f_ (aF 0 (aF 10 (aF 2 (aj (aC aQ (ak 11) (aO 1)) (aF 9 au))))))))))))
def jY:dU:=fg 12 vB
def oB:dm:=
 (aG (bj 3 (ay c7 (aF 1 (aF 2 au))))
 (aG (bj 4 (aC aQ (ak 3) (aO 0)))
 (aG (eL (gB (aK (aC (fm true) (ak 4) (cF (.int (-1))))) (aK (aC (fm true) (aC aQ (aC aQ (aC aQ (ak 1) (aO 0)) (ak 4)) (aO 1)) (ak 2)))) (cA (bg (aj (ay lH (aF 1 (aF 4 (aF 2 au)))) (aj (cF .non) au)))) fR)
 (aG (bj 5 (ay eW (aF 0 (aF 2 (aF 3 au)))))
 (aG (eL (aK (aC (fm false) (aC aQ (ak 3) (aO 2)) (ie (aX (ak 5))))) (cA (bg (aj (ay jY (aF 0 (aF 1 (aF 2 au)))) (aj (cF .non) au)))) fR)
 (aG (bj 6 (aC aQ (ak 5) (aC aQ (ak 3) (aO 2))))
 (aG (bj 7 (cF .non))
 (aG (eL (aK (aC (fm false) (aC aQ (ak 6) (aO 0)) (cF (.str "say")))) (bj 7 (bg (aF 2 (aj (ay eg (aF 0 (aF 1 (aF 2 (aj (aC aQ (ak 6) (aO 1)) au))))) au)))) fR)
 (cA (bg (aj (ay j_ (aF 0 (aj (ay kE (aF 1 (aF 2 (aj (aC cM (aC aQ (ak 3) (aO 2)) (aO 1)) au)))) (aF 2 (aF 6 au))))) (aF 7 au))))))))))))
def oF:dU:=fg 8 oB
def Ae:dm:=
 (aG (eL (aK (Cn true (ak 2) (gA (d0 jX (aF 0 (aF 1 au)))))) never fR)
 (cA (ay oF (aF 0 (aF 1 (aF 2 au))))))
def oQ:dU:=fg 3 Ae
def Le:dm:=
 (aG (iC (rC (yP maxD (fh 1 (aj (yP minD (aj (ie (aX (ak 0))) (fh 5 au))) au)))) (bQ 1) (aG (bj 2 (cO (d0 mJ (aF 0 (aF 1 au)))))
 (aG (bj 3 (ay eM (aF 2 au)))
 (aG (bj 4 (ay xn (aF 3 au)))
 (aG (bj 5 (pk (aO 1)))
 (iC (rC (aO 40)) (bQ 6) (aG (eL (xM (kc (ay jw (aF 3 (aF 4 au))))) (cA (cF (.bl false))) fR)
 (aG (bj 7 (cO (d0 jX (aF 3 (aF 4 au)))))
 (eL (aK (eB (aX (ak 7)))) (aG (bj 5 (ay kD (aF 2 (aF 7 (aF 5 au)))))
 (bj 4 (aC aQ (ay oQ (aF 3 (aF 4 (aF 5 au)))) (aO 0)))) fR)))))))))
 (cA (cF (.bl true))))
def G1:dU:=fg 8 Le
def top(i:Nat):Stmt:=PySem.Challenge.pw_calledroom_k16_whole_one_place_each.main.body.getD i (.Pass ⟨0,0,0,0⟩)
abbrev nI:Stmt:=top 58
abbrev lW:Stmt:=top 59
abbrev kQ:Stmt:=top 61
abbrev lS:Stmt:=top 60
abbrev nT:Stmt:=top 62
abbrev kL:Stmt:=top 63
abbrev pN:Stmt:=top 64
abbrev lZ:Stmt:=top 65
abbrev lX:Stmt:=top 66
abbrev ki:Stmt:=top 67
abbrev oa:Stmt:=top 68
abbrev kC:Stmt:=top 69
abbrev gZ:Stmt:=top 70
abbrev lG:Stmt:=top 10
abbrev kM:Stmt:=top 12
abbrev xB:Stmt:=top 11
abbrev nZ:Stmt:=top 23
abbrev ia:Stmt:=top 53
abbrev kS:Stmt:=top 13
abbrev kT:Stmt:=top 14
abbrev ig:Stmt:=top 54
abbrev nk:Stmt:=top 52
abbrev gL:Stmt:=top 75
abbrev kn:Stmt:=top 72
abbrev gU:Stmt:=top 22
abbrev uu:Stmt:=top 21
abbrev lF:Stmt:=top 73
abbrev gH:Stmt:=top 74
abbrev kU:Stmt:=top 76
abbrev lL:Stmt:=top 71
abbrev nL:Stmt:=top 25
abbrev nj:Stmt:=top 27
abbrev lz:Stmt:=top 15
abbrev lU:Stmt:=top 18
abbrev lA:Stmt:=top 16
abbrev lN:Stmt:=top 29
abbrev iT:Stmt:=top 6
abbrev nU:Stmt:=top 5
abbrev nH:Stmt:=top 28
abbrev tW:Stmt:=top 33
abbrev gD:Stmt:=top 19
abbrev uR:Stmt:=top 20
abbrev lM:Stmt:=top 34
abbrev yk:Stmt:=top 35
abbrev pO:Stmt:=top 30
abbrev xY:Stmt:=top 36
abbrev qk:Stmt:=top 37
abbrev me:Stmt:=top 38
abbrev yw:Stmt:=top 31
abbrev qe:Stmt:=top 39
abbrev p8:Stmt:=top 40
abbrev sS:Stmt:=top 41
abbrev pI:Stmt:=top 42
abbrev lV:Stmt:=top 17
abbrev xh:Stmt:=top 44
abbrev pF:Stmt:=top 43
abbrev kN:Stmt:=top 46
abbrev pQ:Stmt:=top 45
abbrev p_:Stmt:=top 47
abbrev uP:Stmt:=top 48
abbrev m_:Stmt:=top 50
abbrev og:Stmt:=top 32
abbrev p7:Stmt:=top 56
abbrev pJ:Stmt:=top 55
abbrev pw:Stmt:=top 77
end W28
namespace W28
open PySem PySem.Spec L2 DL PyProof.Rows
abbrev Mc:List Str:= ["_law_deed_here","_law_room_here"]
abbrev Lh:List Str:= ["_law_frame"]
abbrev L6:List Str:= ["_law_one"]
abbrev B5:List Str:= ["_law_pot_here","_law_goals","_law_things","_law_words_here"]
abbrev Cs:List Str:= ["_law_pot_here","_law_goals","_law_words_here","_law_passes","_law_most"]
abbrev CQ:List Str:= ["_law_pot_here","_law_many","_law_manners","_law_bells_most"]
abbrev CK:List Str:= ["_law_pot_here","_law_many"]
abbrev C5:List Str:= ["_law_pot_here","_law_name","_law_goals","_law_manners","_law_bells_most"]
abbrev CU:List Str:= ["_law_pot_here","_law_room_here","_law_goals","_law_most"]
abbrev CC:List Str:= ["_law_pot_here","_law_rooms_here","_law_hands","_law_passes_most"]
abbrev zm:List Str:= ["_law_pot_here","_law_some","_law_last"]
abbrev yX:List Str:= ["_law_pot_here","_law_some"]
abbrev Ct:List Str:= ["_law_pot_here","_law_stem","_law_many"]
abbrev Cb:List Str:= ["_law_pot_here","_law_words_here","_law_bells","_law_at"]
abbrev wy:List Str:= ["_law_pot_here","_law_words_here","_law_bells","_law_deep"]
abbrev CM:List Str:= ["_law_pot_here"]
abbrev CV:List Str:= ["_law_script","_law_k"]
abbrev FD:List Str:= ["_law_script"]
abbrev Iz:List Str:= ["_law_value"]
abbrev Gh:List Str:= ["_law_word","_law_pot_here"]
abbrev Cd:List Str:= ["_law_world_here","_law_scene","_law_number"]
abbrev kZ:List Str:= ["_law_world_here","_law_scene","_law_own_here"]
abbrev Ao:List Str:= ["_law_world_here","_law_scene"]
abbrev zu:List Str:= ["form","first","second"]
abbrev zM:List Str:= ["line"]
abbrev zc:List Str:= ["parts","at","part"]
abbrev z3:List Str:= ["roll","name"]
abbrev Az:List Str:= ["roll"]
abbrev zW:List Str:= ["room"]
abbrev zg:List Str:= ["scene","at","room"]
abbrev y7:List Str:= ["scene","at","turnstile"]
abbrev Cr:List Str:= ["scene","hand","frame"]
abbrev B6:List Str:= ["scene","hand","row"]
abbrev yS:List Str:= ["scene","hand","values","frames"]
abbrev zF:List Str:= ["scene","hand"]
abbrev Ci:List Str:= ["scene","room","bell","line"]
abbrev CG:List Str:= ["scene","room","hand"]
abbrev Cy:List Str:= ["scene","room"]
abbrev Cv:List Str:= ["scene"]
abbrev Ar:List Str:= ["things"]
abbrev wG:List Str:= ["tree","things","waiting"]
abbrev CI:List Str:= ["world","hand","frame"]
abbrev B7:List Str:= ["world","scene","hand","name"]
abbrev bW:List Str:= ["world","scene","hand","row"]
abbrev xp:List Str:= ["world","scene","hand","tree"]
abbrev yf:List Str:= ["world","scene","hand","word","value"]
abbrev x8:List Str:= ["world","scene","hand","word"]
abbrev dh:List Str:= ["world","scene","hand"]
abbrev yJ:List Str:= ["world","scene","name"]
abbrev wX:List Str:= ["world","scene"]
abbrev yh:List Str:= ["world"]
section
variable(P:Program)(w:World)(K:PySem.W.Frag)(mg:Str->Option Value)(base:Heap)
abbrev BW:Prop:=fI P w K mg base 1 "_law_pot" CV mJ
abbrev c9:Prop:=fI P w K mg base 1 "_law_take" CK aI
abbrev km:Prop:=fI P w K mg base 2 "_law_words" Ct dq
abbrev fc:Prop:=fI P w K mg base 2 "_law_pick" yX bN
abbrev kK:Prop:=fI P w K mg base 7 "_law_sum" wy (bE 4)
abbrev wW:Prop:=fI P w K mg base 8 "_law_waits" Cb ju
abbrev wO:Prop:=fI P w K mg base 8 "_law_do" B5 lJ
abbrev AL:Prop:=fI P w K mg base 9 "_law_deed" CU kJ
abbrev zy:Prop:=fI P w K mg base 10 "_law_room" C5 kg
abbrev wY:Prop:=fI P w K mg base 11 "_law_rooms" CQ jo
abbrev A5:Prop:=fI P w K mg base 9 "_law_own" Cs mK
abbrev yn:Prop:=fI P w K mg base 10 "_law_world" CC ji
abbrev pW:Prop:=fI P w K mg base 12 "_law_any_world" CM eM
abbrev rf:Prop:=fI P w K mg base 1 "values_of" Ar g7
abbrev xl:Prop:=fI P w K mg base 2 "begun_room" zW jn
abbrev Hc:Prop:=fI P w K mg base 3 "begun" yh xn
abbrev sI:Prop:=fI P w K mg base 1 "hands_at" zM jN
abbrev rV:Prop:=fI P w K mg base 2 "hands_in_rows" Cv eX
abbrev dM:Prop:=fI P w K mg base 1 "last_frame" zF c7
abbrev iD:Prop:=fI P w K mg base 1 "program_of" CI eW
abbrev rN:Prop:=fI P w K mg base 2 "is_behind_all" dh gK
abbrev sV:Prop:=fI P w K mg base 3 "may_step" wX jX
abbrev oA:Prop:=fI P w K mg base 1 "_law_room_right" Cd ft
abbrev yo:Prop:=fI P w K mg base 1 "_law_bound" kZ jh
abbrev qw:Prop:=fI P w K mg base 2 "place_in_a_row" dh fU
abbrev F4:Prop:=fI P w K mg base 3 "stands" dh sh
abbrev zY:Prop:=fI P w K mg base 1 "_law_free" kZ kH
abbrev oD:Prop:=fI P w K mg base 4 "_law_hand_right" kZ fj
abbrev yj:Prop:=fI P w K mg base 5 "_law_right" Ao jw
abbrev Ay:Prop:=fI P w K mg base 3 "_law_next" zm kD
abbrev nN:Prop:=fI P w K mg base 1 "names_of" Az eO
abbrev iV:Prop:=fI P w K mg base 2 "place_of" z3 dE
abbrev hU:Prop:=fI P w K mg base 1 "with_part" zc dW
abbrev jz:Prop:=fI P w K mg base 2 "with_hand" yS gk
abbrev hV:Prop:=fI P w K mg base 2 "with_room" zg dz
abbrev qV:Prop:=fI P w K mg base 3 "put_thing" yf f_
abbrev uF:Prop:=fI P w K mg base 1 "value_of_two" zu g9
abbrev BL:Prop:=fI P w K mg base 8 "value_of" wG (gY 6)
abbrev g8:Prop:=fI P w K mg base 9 "reckoned" xp eg
abbrev jl:Prop:=fI P w K mg base 3 "with_last_frame" Cr eD
abbrev tZ:Prop:=fI P w K mg base 4 "at_row" B6 kE
abbrev vF:Prop:=fI P w K mg base 3 "come_in" CG lH
abbrev pR:Prop:=fI P w K mg base 3 "bell_of" x8 j7
abbrev lq:Prop:=fI P w K mg base 3 "with_line" Ci fY
abbrev CO:Prop:=fI P w K mg base 3 "leave" Cy p9
abbrev qU:Prop:=fI P w K mg base 2 "with_pass" y7 gc
abbrev CW:Prop:=fI P w K mg base 3 "taken" B7 t7
abbrev oY:Prop:=fI P w K mg base 3 "given_back" yJ g_
abbrev A6:Prop:=fI P w K mg base 11 "row_done" bW j_
abbrev Bp:Prop:=fI P w K mg base 4 "end_deed" dh jY
abbrev DM:Prop:=fI P w K mg base 12 "step_of" dh oF
abbrev Et:Prop:=fI P w K mg base 13 "stepped" dh oQ
end
section
variable{P:Program}{w:World}{K:PySem.W.Frag}{mg:Str->Option Value}{base:Heap}{f:Addr}{fd:FuncData}
def q0:aL ["_law_script","_law_k","_law_cell","_law_digits"] CV (aD nI):=fN
def zX(F:eV K "_law_pot" "_law_pot" nI f fd)(B:Bl mg):bF P w K mg base eE 1 f fd CV (eT ⟨K,mg⟩ 2 mJ):=by
 have nd:=q0.nd
 refine bx F q0 fun cdv A outer s H E hr=> ?_
 exact(aw (bB 2 nd ao)
  (aw (cv (bG mf l_ (v_ 1) (fD rfl B.len (dk (v_ 0))) (aR _)) (aE (bB 2 nd (rT JW (dJ FM rfl B.abs (by rfl) (ai (az (v_ 0) (v_ 1)) ar))))) bJ)
  (aw (bB 3 nd (tM (uw (v_ 2) (tM (FQ ao ao) (FQ ao ao))) (rT jT (g6 iL rfl B.int (by rfl) (ai (kY IR IH (v_ 2) (FQ ao ao) (aR _)) ar)))))
  (aE (nh (cP (ai (v_ 3) (ai (uw (cC (cC (v_ 2) (tM ao (v_ 1))) ao) ao) (ai ao ar)))))))))
def oq:aL ["_law_pot_here","_law_many","_law_digit","_law_mixed"] CK (aD lW):=fN
def xq(F:eV K "_law_take" "_law_take" lW f fd)(B:Bl mg):bF P w K mg base eE 1 f fd CK (eT ⟨K,mg⟩ 2 aI):=by
 have nd:=oq.nd
 refine bx F oq fun cdv A outer s H E hr=> ?_
 exact(aw (cv (bG wV vX (az (v_ 0) ao) ao (aR _)) (aw (bB 2 nd (uw (az (v_ 0) ao) (v_ 1)))
  (aw (fM (EE (az (v_ 0) ao) (v_ 1)) (IE (v_ 0) ao))
  (aE (aM (v_ 2))))) bJ)
  (aw (Jn (v_ 0) ao ao)
  (aw (bB 3 nd (uw (cC (cC (tM (az (v_ 0) ao) ao) (tM ao (az (v_ 0) ao))) ao) ao))
  (aw (fM (uw (tM (v_ 3) (cC (cC (uw (v_ 3) ao) (tM ao (az (v_ 0) ao))) ao)) ao) (IE (v_ 0) ao))
  (aE (aM (uw (EE (az (v_ 0) ao) ao) (v_ 1))))))))
def mR:aL ["_law_pot_here","_law_stem","_law_many","_law_left"] Ct (aD kQ):=fN
def vf(F:eV K "_law_words" "_law_words" kQ f fd)(B:Bl mg)(aB:c9 P w K mg base):bF P w K mg base eE 2 f fd Ct (eT ⟨K,mg⟩ 3 dq):=by
 have nd:=mR.nd
 refine bx F mR fun cdv A outer s H E hr=> ?_
 exact(aw (bB 3 nd (cx (cV (N:= ["_law_one","_law_stem"]) (js:= [none,some 1]) (aU.gen rfl rfl rfl rfl rfl rfl) rfl (du (iu (cP (ai bf (ai bf (ai bf (ai bf (ai bf (ai bf ar))))))))) (fun _ _ _ _=>(eR 0)) (fun _ _ _ _=>eA) (fun _ _ _ _=>(cC (v_ 1) (v_ 0))))))
  (aE (nh (Fw rfl B.sorted (iu (cV (N:= ["_law_k","_law_pot_here","_law_left"]) (js:= [none,some 0,some 3]) (aU.gen rfl rfl rfl rfl rfl rfl) rfl (kP rfl B.range (v_ 2)) (fun _ _ _ _=>(eR 0)) (fun _ _ _ _=>eA) (fun _ _ _ _=>(Cj (v_ 2) (aN aB hr (ai (v_ 1) (ai (fD rfl B.len (dk (v_ 2))) ar)))))))))))
def xF:aL yX yX (aD lS):=fN
def x_(F:eV K "_law_pick" "_law_pick" lS f fd)(B:Bl mg)(aB:c9 P w K mg base):bF P w K mg base eE 2 f fd yX (eT ⟨K,mg⟩ 2 bN):=by
 refine bx F xF fun cdv A outer s H E hr=> ?_
 exact(aE (aM (az (v_ 1) (aN aB hr (ai (v_ 0) (ai (fD rfl B.len (dk (v_ 1))) ar))))))
def qD:aL ["_law_pot_here","_law_words_here","_law_bells","_law_deep","_law_way","_law_word"] wy (aD nT):=fN
theorem qP(F:eV K "_law_sum" "_law_sum" nT f fd)(B:Bl mg)(aB:c9 P w K mg base)(aW:fc P w K mg base)(b:Binds K fd wy [])(kp:PySem.W.keepIn K (.ref f)=true)(m:mg "_law_sum"=some (.ref f)):∀n,bF P w K mg base eE (3+n) f fd wy (eT ⟨K,mg⟩ 4 (bE n))
 |0=>Cc
 | n+1=>by
   have bC:fI P w K mg base (3+n) "_law_sum" wy (bE n):=⟨f,fd,qP F B aB aW b kp m n,b,kp,m⟩
   have nd:=qD.nd
   refine bx (k:=3+n) F qD fun cdv A outer s H E hr=> ?_
   have hu:=hr.units0
   exact(aw (bB 4 nd (aN aB hr (ai (v_ 0) (ai ao ar))))
   (aw (cv (PW.pt (w_or (bG mf l_ (v_ 3) ao (aR _)) (Gi (bG mf l_ (v_ 4) ao (aR _))))) (aw (cv (PW.pt (w_and (fV hu (dk (v_ 1))) (eS (bG wV vX (aN aB hr (ai (v_ 0) (ai ao ar))) ao (aR _))))) (aE (aM (aN aW hr (ai (v_ 0) (ai (v_ 1) ar))))) bJ)
   (aE (aM (aN aB hr (ai (v_ 0) (ai (az (cx (cP (ai ao (ai ao ar)))) (rT jT (g6 iL rfl B.int (by rfl) (ai (kY cI cJ (aN aB hr (ai (v_ 0) (ai ao ar))) ao (aR _)) ar)))) ar)))))) bJ)
   (aw (cv (PW.pt (w_and (bG cI cJ (v_ 4) ao (aR _)) (eS (fV hu (dk (v_ 2)))))) (aE (aM (aS (ai bf (ai (aN aW hr (ai (v_ 0) (ai (v_ 2) ar))) ar))))) bJ)
   (aw (cv (bG cI cJ (v_ 4) ao (aR _)) (aE (aM (aS (ai bf (ai (aN bC hr (ai (v_ 0) (ai (v_ 1) (ai (v_ 2) (ai (sP (v_ 3) ao) ar))))) ar))))) bJ)
   (aw (bB 5 nd (az (cx (cP (ai bf (ai bf (ai bf (ai bf (ai bf ar))))))) (aN aB hr (ai (v_ 0) (ai ao ar)))))
   (aE (aM (aS (ai (v_ 5) (ai (aN bC hr (ai (v_ 0) (ai (v_ 1) (ai (v_ 2) (ai (sP (v_ 3) ao) ar))))) (ai (aN bC hr (ai (v_ 0) (ai (v_ 1) (ai (v_ 2) (ai (sP (v_ 3) ao) ar))))) ar)))))))))))
def m6:aL ["_law_pot_here","_law_words_here","_law_bells","_law_at","_law_turn","_law_row","_law_way","_law_test"] Cb (aD kL):=fN
def u3(F:eV K "_law_waits" "_law_waits" kL f fd)(B:Bl mg)(bC:kK P w K mg base)(aB:c9 P w K mg base)(aW:fc P w K mg base):bF P w K mg base eE 8 f fd Cb (eT ⟨K,mg⟩ 4 ju):=by
 have nd:=m6.nd
 refine bx F m6 fun cdv A outer s H E hr=> ?_
 exact(aw (bB 4 nd (az (cx (cP (ai ao (ai bf (ai (aN bC hr (ai (v_ 0) (ai (v_ 1) (ai (v_ 2) (ai ao ar))))) ar))))) (aN aB hr (ai (v_ 0) (ai ao ar)))))
  (aw (bB 5 nd (aS (ai bf (ai (aN aW hr (ai (v_ 0) (ai (v_ 2) ar))) (ai (v_ 4) ar)))))
  (aw (bB 6 nd (aN aB hr (ai (v_ 0) (ai ao ar))))
  (aw (cv (bG cI cJ (v_ 6) ao (aR _)) (aE (nh (cP (ai (v_ 5) ar)))) bJ)
  (aw (bB 7 nd (aS (ai bf (ai (aN bC hr (ai (v_ 0) (ai (v_ 1) (ai (v_ 2) (ai ao ar))))) ar))))
  (aE (nh (cP (ai (aS (ai bf (ai (v_ 7) (ai (cC (v_ 3) ao) ar)))) (ai (v_ 5) (ai (aS (ai bf (ai (az (cx (cP (ai (v_ 3) (ai (cC (v_ 3) ao) ar)))) (sP (v_ 6) ao)) ar))) ar)))))))))))
def sG:aL ["_law_pot_here","_law_goals","_law_things","_law_words_here","_law_room_here","_law_deed_here","_law_goal"] B5 (aD pN):=fN
def Bh(F:eV K "_law_do" "_law_do" pN f fd)(B:Bl mg)(aW:fc P w K mg base)(bC:kK P w K mg base):bF P w K mg base eE 8 f fd B5 (eT ⟨K,mg⟩ 4 lJ):=by
 have nd:=sG.nd
 refine bx F sG fun cdv A outer s H E hr=> ?_
 exact(aw (fM (aN aW hr (ai (v_ 0) (ai (v_ 1) ar))) (cN rfl (aA (bz 4 nd) (aA (bz 5 nd) bO))))
  (aw (bB 6 nd (aN aW hr (ai (v_ 0) (ai (cx (An (iu (cP (ai uD ar))) (dk (v_ 2)))) ar))))
  (aE (aM (aS (ai bf (ai (v_ 6) (ai (v_ 4) (ai (v_ 5) (ai (aN bC hr (ai (v_ 0) (ai (v_ 3) (ai (cx (cP ar)) (ai ao ar))))) ar))))))))))
def oX:aL ["_law_pot_here","_law_room_here","_law_goals","_law_most","_law_manner","_law_things","_law_bells","_law_words_here","_law_rows","_law_k","_law_way","_law_word"] CU (aD lZ):=fN
def ya(F:eV K "_law_deed" "_law_deed" lZ f fd)(B:Bl mg)(aB:c9 P w K mg base)(kz:wW P w K mg base)(aW:fc P w K mg base)(iH:wO P w K mg base)(bC:kK P w K mg base):bF P w K mg base eE 9 f fd CU (eT ⟨K,mg⟩ 4 kJ):=by
 have nd:=oX.nd
 refine bx F oX fun cdv A outer s H E hr=> ?_
 have hu:=hr.units0
 exact(aw (fM (v_ 1) (cN rfl (aA (bz 4 nd) (aA (bz 5 nd) (aA (bz 6 nd) bO)))))
  (aw (bB 7 nd (cx (An (dk (v_ 5)) (iu (cP (ai bf ar))))))
  (aw (bB 8 nd (cx (cP ar)))
  (aw (gR PassesOwn.never rfl (kP rfl B.range (cC ao (aN aB hr (ai (v_ 0) (ai (v_ 3) ar))))) (bz 9 nd) (aw (bB 10 nd (aN aB hr (ai (v_ 0) (ai ao ar))))
  (aE (cv (PW.pt (w_and (bG mf l_ (v_ 10) ao (aR _)) (eS (fV hu (dk (v_ 6)))))) (aE (cW (i7 (v_ 8) (iu (jD kz hr (ai (v_ 0) (ai (v_ 7) (ai (v_ 6) (ai (fD rfl B.len (dk (v_ 8))) ar))))))))) (aE (cv (PW.pt (w_and (bG mf l_ (v_ 10) ao (aR _)) (eS (fV hu (dk (v_ 6)))))) (aw (bB 11 nd (az (cx (cP (ai bf (ai bf ar)))) (rT jT (g6 iL rfl B.int (by rfl) (ai (Ft (kY cI cJ (v_ 4) bf (aR _)) (B9 (kY cI cJ (v_ 10) ao (aR _)))) ar)))))
  (aE (cW (c_ (v_ 8) (aS (ai (v_ 11) (ai (aN aW hr (ai (v_ 0) (ai (v_ 6) ar))) ar))))))) (aE (cv (PW.pt (w_and (bG cI cJ (v_ 10) ao (aR _)) (eS (fV hu (dk (v_ 2)))))) (aE (cW (c_ (v_ 8) (aN iH hr (ai (v_ 0) (ai (v_ 2) (ai (v_ 5) (ai (v_ 7) ar)))))))) (aE (cv (bG cI cJ (v_ 10) ao (aR _)) (aw (cW (c_ (v_ 8) (aS (ai bf (ai (aN bC hr (ai (v_ 0) (ai (v_ 7) (ai (v_ 6) (ai ao ar))))) (ai (cC (fD rfl B.len (dk (v_ 8))) ao) ar))))))
  (aE (cW (c_ (v_ 8) (aS (ai bf (ai (aN aB hr (ai (v_ 0) (ai ao ar))) ar))))))) (aE (cv (PW.pt (w_and (bG mf l_ (v_ 10) ao (aR _)) (eS (fV hu (dk (v_ 5)))))) (aE (cW (c_ (v_ 8) (aS (ai bf (ai (aN aW hr (ai (v_ 0) (ai (v_ 5) ar))) (ai (aN bC hr (ai (v_ 0) (ai (v_ 7) (ai (v_ 6) (ai ao ar))))) ar))))))) (aE (cW (c_ (v_ 8) (aS (ai bf (ai (aN bC hr (ai (v_ 0) (ai (v_ 7) (ai (v_ 6) (ai ao ar))))) ar))))))))))))))))))
  (aE (aM (ee rfl B.tuple (B_ (dk (v_ 8))) (ht:=jx))))))))
def oN:aL ["_law_pot_here","_law_name","_law_goals","_law_manners","_law_bells_most","_law_manner","_law_things","_law_bells","_law_deeds","_law_word","_law_here","_law_some","_law_sorts"] C5 (aD lX):=fN
def xJ(F:eV K "_law_room" "_law_room" lX f fd)(B:Bl mg)(aW:fc P w K mg base)(cf:km P w K mg base)(aB:c9 P w K mg base)(mq:AL P w K mg base):bF P w K mg base eE 10 f fd C5 (eT ⟨K,mg⟩ 5 kg):=by
 have nd:=oN.nd
 refine bx F oN fun cdv A outer s H E hr=> ?_
 exact(aw (bB 5 nd (aN aW hr (ai (v_ 0) (ai (v_ 3) ar))))
  (aw (bB 6 nd (cx (jD cf hr (ai (v_ 0) (ai bf (ai (az (cx (cP (ai ao (ai ao (ai ao (ai ao ar)))))) (aN aB hr (ai (v_ 0) (ai ao ar)))) ar))))))
  (aw (bB 7 nd (cx (jD cf hr (ai (v_ 0) (ai bf (ai (aN aB hr (ai (v_ 0) (ai (cC (v_ 4) ao) ar))) ar))))))
  (aw (bB 8 nd (cx (cP ar)))
  (aw (gR PassesOwn.never rfl (du (iu (jD cf hr (ai (v_ 0) (ai bf (ai (cC ao (aN aB hr (ai (v_ 0) (ai ao ar)))) ar)))))) (bz 9 nd) (aw (GH (n:=10) (N:= ["_law_deed_here","_law_name"]) (js:= [none,some 1]) (aU.gen rfl rfl rfl rfl rfl rfl) rfl (du (dk (v_ 8))) (fun _ _ _ _=>(eR 0)) (fun _ _ _ _=>eA) (fun _ _ _ _=>(aS (ai (v_ 1) (ai (az (v_ 0) ao) ar)))) (Ka 10 nd))
  (aw (bB 11 nd (cx (An (dk (v_ 2)) (iu (AE (dk (v_ 10)) (rT jT (g6 iL rfl B.int (by rfl) (ai (kY cI cJ (aN aB hr (ai (v_ 0) (ai ao ar))) ao (aR _)) ar))))))))
  (aE (cW (c_ (v_ 8) (aS (ai (v_ 9) (ai (aN mq hr (ai (v_ 0) (ai (aS (ai (v_ 5) (ai (v_ 6) (ai (v_ 7) ar)))) (ai (v_ 11) (ai ao ar))))) ar)))))))))
  (aw (bB 12 nd (ee rfl B.tuple (iu (cV (N:= ["_law_bell","_law_pot_here"]) (js:= [none,some 0]) (aU.gen rfl rfl rfl rfl rfl rfl) rfl (du (dk (v_ 7))) (fun _ _ _ _=>(eR 0)) (fun _ _ _ _=>eA) (fun _ _ _ _=>(aS (ai (v_ 0) (ai (az (cx (cP (ai bf (ai bf ar)))) (aN aB hr (ai (v_ 1) (ai ao ar)))) ar)))))) (ht:=fW)))
  (aE (aM (aS (ai (v_ 1) (ai (v_ 5) (ai (ee rfl B.tuple (iu (cV (N:= ["_law_thing","_law_pot_here"]) (js:= [none,some 0]) (aU.gen rfl rfl rfl rfl rfl rfl) rfl (du (dk (v_ 6))) (fun _ _ _ _=>(eR 0)) (fun _ _ _ _=>eA) (fun _ _ _ _=>(aS (ai (v_ 0) (ai (aN aB hr (ai (v_ 1) (ai ao ar))) ar)))))) (ht:=fW)) (ai (v_ 12) (ai (ee rfl B.tuple (B_ (dk (v_ 8))) (ht:=jx)) ar))))))))))))))
end
section
variable{P:Program}{w:World}{K:PySem.W.Frag}{mg:Str->Option Value}{base:Heap}{f:Addr}{fd:FuncData}
def mO:aL ["_law_pot_here","_law_many","_law_manners","_law_bells_most","_law_names","_law_rooms_here","_law_goals","_law_room_here","_law_name"] CQ (aD ki):=fN
def u4(F:eV K "_law_rooms" "_law_rooms" ki f fd)(B:Bl mg)(cf:km P w K mg base)(aB:c9 P w K mg base)(mr:zy P w K mg base):bF P w K mg base eE 11 f fd CQ (eT ⟨K,mg⟩ 4 jo):=by
 have nd:=mO.nd
 refine bx F mO fun cdv A outer s H E hr=> ?_
 have hu:=hr.units0
 exact(aw (bB 4 nd (cx (jD cf hr (ai (v_ 0) (ai bf (ai (v_ 1) ar))))))
  (aw (bB 5 nd (cx (cP ar)))
  (aw (GT 4 PassesOwn.never (fV hu (dk (v_ 4))) (aw (bB 6 nd (cx (cP ar)))
  (aw (gR PassesOwn.never rfl (du (dk (v_ 5))) (bz 7 nd) (aE (cW (i7 (v_ 6) (iu (cV (N:=Mc) (js:= [none,some 7]) (aU.gen rfl rfl rfl rfl rfl rfl) rfl (du (dk (az (v_ 7) ao))) (fun _ _ _ _=>(eR 0)) (fun _ _ _ _=>eA) (fun _ _ _ _=>(aS (ai (az (v_ 1) ao) (ai (az (v_ 0) ao) ar))))))))))
  (aw (bB 8 nd (Cj (v_ 4) (aN aB hr (ai (v_ 0) (ai (fD rfl B.len (dk (v_ 4))) ar)))))
  (aE (cW (c_ (v_ 5) (aN mr hr (ai (v_ 0) (ai (v_ 8) (ai (v_ 6) (ai (v_ 2) (ai (v_ 3) ar)))))))))))))
  (aE (aM (ee rfl B.tuple (iu (Dp rfl B.sorted (dk (v_ 5)))) (ht:=fW)))))))
def qA:aL ["_law_pot_here","_law_goals","_law_words_here","_law_passes","_law_most","_law_rows","_law_k","_law_way"] Cs (aD oa):=fN
def zt(F:eV K "_law_own" "_law_own" oa f fd)(B:Bl mg)(aB:c9 P w K mg base)(iH:wO P w K mg base)(aW:fc P w K mg base)(bC:kK P w K mg base):bF P w K mg base eE 9 f fd Cs (eT ⟨K,mg⟩ 5 mK):=by
 have nd:=qA.nd
 refine bx F qA fun cdv A outer s H E hr=> ?_
 have hu:=hr.units0
 exact(aw (bB 5 nd (cx (cP ar)))
  (aw (gR PassesOwn.never rfl (kP rfl B.range (cC ao (aN aB hr (ai (v_ 0) (ai (v_ 4) ar))))) (bz 6 nd) (aw (bB 7 nd (aN aB hr (ai (v_ 0) (ai ao ar))))
  (aE (cv (PW.pt (w_and (bG mf l_ (v_ 7) ao (aR _)) (eS (fV hu (dk (v_ 1)))))) (aE (cW (c_ (v_ 5) (aN iH hr (ai (v_ 0) (ai (v_ 1) (ai (v_ 2) (ai (v_ 2) ar)))))))) (aE (cv (PW.pt (w_and (bG cI cJ (v_ 7) ao (aR _)) (eS (fV hu (dk (v_ 3)))))) (aE (cW (c_ (v_ 5) (aS (ai (az (cx (cP (ai bf (ai bf ar)))) (aN aB hr (ai (v_ 0) (ai ao ar)))) (ai (aN aW hr (ai (v_ 0) (ai (v_ 3) ar))) ar)))))) (aE (cv (PW.pt (w_and (bG cI cJ (v_ 7) ao (aR _)) (eS (fV hu (dk (v_ 3)))))) (aE (cW (c_ (v_ 5) (aS (ai bf (ai (aN aW hr (ai (v_ 0) (ai (v_ 3) ar))) (ai (aN aW hr (ai (v_ 0) (ai (v_ 3) ar))) ar))))))) (aE (cv (PW.pt (w_and (bG cI cJ (v_ 7) ao (aR _)) (eS (fV hu (dk (v_ 2)))))) (aE (cW (c_ (v_ 5) (aS (ai bf (ai (aN aW hr (ai (v_ 0) (ai (v_ 2) ar))) (ai (aN bC hr (ai (v_ 0) (ai (v_ 2) (ai (cx (cP ar)) (ai ao ar))))) ar))))))) (aE (cv (bG cI cJ (v_ 7) ao (aR _)) (aw (cW (c_ (v_ 5) (aS (ai bf (ai (aN bC hr (ai (v_ 0) (ai (v_ 2) (ai (cx (cP ar)) (ai ao ar))))) (ai (cC (fD rfl B.len (dk (v_ 5))) ao) ar))))))
  (aE (cW (c_ (v_ 5) (aS (ai bf (ai (aN bC hr (ai (v_ 0) (ai (v_ 2) (ai (cx (cP ar)) (ai ao ar))))) ar))))))) (aE (cW (c_ (v_ 5) (aS (ai bf (ai (aN bC hr (ai (v_ 0) (ai (v_ 2) (ai (cx (cP ar)) (ai ao ar))))) ar))))))))))))))))))
  (aw (cv (bG cI cJ (aN aB hr (ai (v_ 0) (ai ao ar))) ao (aR _)) (aE (cW (c_ (v_ 5) (aS (ai bf (ai (aN aB hr (ai (v_ 0) (ai (cC (fD rfl B.len (dk (v_ 5))) ao) ar))) ar)))))) bJ)
  (aE (aM (ee rfl B.tuple (B_ (dk (v_ 5))) (ht:=jx)))))))
def m3:aL ["_law_pot_here","_law_rooms_here","_law_hands","_law_passes_most","_law_goals","_law_room_here","_law_passes","_law_shared","_law_made","_law_k","_law_own_here","_law_program","_law_counted"] CC (aD kC):=fN
def u6(F:eV K "_law_world" "_law_world" kC f fd)(B:Bl mg)(cf:km P w K mg base)(aB:c9 P w K mg base)(nJ:A5 P w K mg base):bF P w K mg base eE 10 f fd CC (eT ⟨K,mg⟩ 4 ji):=by
 have nd:=m3.nd
 refine bx F m3 fun cdv A outer s H E hr=> ?_
 exact(aw (bB 4 nd (cx (cP ar)))
  (aw (gR PassesOwn.never rfl (du (dk (v_ 1))) (bz 5 nd) (aE (cW (i7 (v_ 4) (iu (cV (N:=Mc) (js:= [none,some 5]) (aU.gen rfl rfl rfl rfl rfl rfl) rfl (du (dk (az (v_ 5) ao))) (fun _ _ _ _=>(eR 0)) (fun _ _ _ _=>eA) (fun _ _ _ _=>(aS (ai (az (v_ 1) ao) (ai (az (v_ 0) ao) ar))))))))))
  (aw (bB 6 nd (cx (jD cf hr (ai (v_ 0) (ai bf (ai (aN aB hr (ai (v_ 0) (ai (cC (v_ 3) ao) ar))) ar))))))
  (aw (bB 7 nd (cx (jD cf hr (ai (v_ 0) (ai bf (ai (az (cx (cP (ai ao (ai ao (ai ao (ai ao ar)))))) (aN aB hr (ai (v_ 0) (ai ao ar)))) ar))))))
  (aw (bB 8 nd (cx (cP ar)))
  (aw (gR PassesOwn.never rfl (kP rfl B.range (v_ 2)) (bz 9 nd) (aw (bB 10 nd (cx (jD cf hr (ai (v_ 0) (ai bf (ai (az (cx (cP (ai ao (ai ao (ai ao (ai ao ar)))))) (aN aB hr (ai (v_ 0) (ai ao ar)))) ar))))))
  (aw (bB 11 nd (aN nJ hr (ai (v_ 0) (ai (v_ 4) (ai (cx (An (dk (v_ 10)) (dk (v_ 7)))) (ai (v_ 6) (ai ao ar)))))))
  (aE (cW (c_ (v_ 8) (aS (ai (ee rfl B.tuple (iu (cV (N:=Gh) (js:= [none,some 0]) (aU.gen rfl rfl rfl rfl rfl rfl) rfl (du (dk (v_ 10))) (fun _ _ _ _=>(eR 0)) (fun _ _ _ _=>eA) (fun _ _ _ _=>(aS (ai (v_ 0) (ai (aN aB hr (ai (v_ 1) (ai ao ar))) ar)))))) (ht:=fW)) (ai (v_ 11) ar)))))))))
  (aw (bB 12 nd (ee rfl B.tuple (iu (cV (N:=Gh) (js:= [none,some 0]) (aU.gen rfl rfl rfl rfl rfl rfl) rfl (du (dk (v_ 6))) (fun _ _ _ _=>(eR 0)) (fun _ _ _ _=>eA) (fun _ _ _ _=>(aS (ai (v_ 0) (ai (aN aB hr (ai (v_ 1) (ai ao ar))) ar)))))) (ht:=fW)))
  (aE (aM (aS (ai (v_ 1) (ai (v_ 12) (ai (ee rfl B.tuple (iu (cV (N:=Gh) (js:= [none,some 0]) (aU.gen rfl rfl rfl rfl rfl rfl) rfl (du (dk (v_ 7))) (fun _ _ _ _=>(eR 0)) (fun _ _ _ _=>eA) (fun _ _ _ _=>(aS (ai (v_ 0) (ai (aN aB hr (ai (v_ 1) (ai ao ar))) ar)))))) (ht:=fW)) (ai (ee rfl B.tuple (B_ (dk (v_ 8))) (ht:=jx)) ar))))))))))))))
def jr:aL ["_law_pot_here","_law_rooms_here"] CM (aD gZ):=fN
def oH(F:eV K "_law_any_world" "_law_any_world" gZ f fd)(B:Bl mg)(kI:wY P w K mg base)(aB:c9 P w K mg base)(kj:yn P w K mg base):bF P w K mg base eE 12 f fd CM (eT ⟨K,mg⟩ 1 eM):=by
 have nd:=jr.nd
 refine bx F jr fun cdv A outer s H E hr=> ?_
 exact(aw (bB 1 nd (aN kI hr (ai (v_ 0) (ai (az (cx (cP (ai ao (ai ao (ai ao (ai ao (ai ao (ai ao ar)))))))) (aN aB hr (ai (v_ 0) (ai ao ar)))) (ai (cx (cP (ai bf (ai bf ar)))) (ai ao ar))))))
  (aE (aM (aN kj hr (ai (v_ 0) (ai (v_ 1) (ai (cC ao (aN aB hr (ai (v_ 0) (ai ao ar)))) (ai ao ar))))))))
def xK:aL Ar Ar (aD lG):=fN
def yg(F:eV K "values_of" "values_of" lG f fd)(B:Bl mg):bF P w K mg base eE 1 f fd Ar (eT ⟨K,mg⟩ 1 g7):=by
 refine bx F xK fun cdv A outer s H E hr=> ?_
 exact(aE (aM (ee rfl B.tuple (iu (cV (N:= ["word","value"]) (js:= [none,none]) (aU.gen rfl rfl rfl rfl rfl rfl) rfl (du (dk (v_ 0))) (fun _ _ _ _=>(cN rfl (aA (eR 0) (aA (eR 1) bO)))) (fun _ _ _ _=>eA) (fun _ _ _ _=>(v_ 1)))) (ht:=fW))))
def mV:aL ["room","name","manner","things","bells","deeds"] zW (aD kM):=fN
def vj(F:eV K "begun_room" "begun_room" kM f fd)(B:Bl mg)(fe:rf P w K mg base){i3:Tok}(gF:mg "NOBODY"=some (.int (-1) i3)):bF P w K mg base eE 2 f fd zW (eT ⟨K,mg⟩ 1 jn):=by
 have nd:=mV.nd
 refine bx F mV fun cdv A outer s H E hr=> ?_
 exact(aw (fM (v_ 0) (cN rfl (aA (bz 1 nd) (aA (bz 2 nd) (aA (bz 3 nd) (aA (bz 4 nd) (aA (bz 5 nd) bO)))))))
  (aE (aM (aS (ai (aN fe hr (ai (v_ 3) ar)) (ai (dI (fq (v:=.int (-1)) rfl gF ⟨_,rfl⟩) fun _ _=>.int (-1)) (ai (aS ar) (ai (aS ar) (ai (ee rfl B.tuple (iu (cV (N:= ["bell"]) (js:= [none]) (aU.gen rfl rfl rfl rfl rfl rfl) rfl (du (dk (v_ 4))) (fun _ _ _ _=>(eR 0)) (fun _ _ _ _=>eA) (fun _ _ _ _=>(aS ar)))) (ht:=fW)) ar)))))))))
def y4:aL ["world","rooms","passes","shared","hands","own"] yh (aD xB):=fN
def ET(F:eV K "begun" "begun" xB f fd)(B:Bl mg)(fe:rf P w K mg base)(kh:xl P w K mg base){iS:Tok}(fH:mg "OWN"=some (.int (-1) iS)):bF P w K mg base eE 3 f fd yh (eT ⟨K,mg⟩ 1 xn):=by
 have nd:=y4.nd
 refine bx F y4 fun cdv A outer s H E hr=> ?_
 exact(aw (fM (v_ 0) (cN rfl (aA (bz 1 nd) (aA (bz 2 nd) (aA (bz 3 nd) (aA (bz 4 nd) bO))))))
  (aw (bB 5 nd (aS (ai (dI (fq (v:=.int (-1)) rfl fH ⟨_,rfl⟩) fun _ _=>.int (-1)) (ai (dI (fq (v:=.int (-1)) rfl fH ⟨_,rfl⟩) fun _ _=>.int (-1)) (ai ao (ai ao (ai ao ar)))))))
  (aE (aM (aS (ai (ee rfl B.tuple (iu (cV (N:=zW) (js:= [none]) (aU.gen rfl rfl rfl rfl rfl rfl) rfl (du (dk (v_ 1))) (fun _ _ _ _=>(eR 0)) (fun _ _ _ _=>eA) (fun _ _ _ _=>(aN kh hr (ai (v_ 0) ar))))) (ht:=fW)) (ai (ee rfl B.tuple (iu (cV (N:= ["name","value"]) (js:= [none,none]) (aU.gen rfl rfl rfl rfl rfl rfl) rfl (du (dk (v_ 2))) (fun _ _ _ _=>(cN rfl (aA (eR 0) (aA (eR 1) bO)))) (fun _ _ _ _=>eA) (fun _ _ _ _=>(aS (ai (v_ 1) (ai (aS ar) ar)))))) (ht:=fW)) (ai (aN fe hr (ai (v_ 3) ar)) (ai (ee rfl B.tuple (iu (cV (N:= ["things","program","own"]) (js:= [none,none,some 5]) (aU.gen rfl rfl rfl rfl rfl rfl) rfl (du (dk (v_ 4))) (fun _ _ _ _=>(cN rfl (aA (eR 0) (aA (eR 1) bO)))) (fun _ _ _ _=>eA) (fun _ _ _ _=>(aS (ai (aN fe hr (ai (v_ 0) ar)) (ai (aS (ai (v_ 2) ar)) ar)))))) (ht:=fW)) ar)))))))))
def zJ:aL zM zM (aD nZ):=fN
def AQ(F:eV K "hands_at" "hands_at" nZ f fd)(B:Bl mg):bF P w K mg base eE 1 f fd zM (eT ⟨K,mg⟩ 1 jN):=by
 refine bx F zJ fun cdv A outer s H E hr=> ?_
 exact(aE (nh (cV (N:= ["turn","hand"]) (js:= [none,none]) (aU.gen rfl rfl rfl rfl rfl rfl) rfl (du (dk (v_ 0))) (fun _ _ _ _=>(cN rfl (aA (eR 0) (aA (eR 1) bO)))) (fun _ _ _ _=>eA) (fun _ _ _ _=>(v_ 1)))))
def j8:aL ["scene","hands","value","row","values","within","late","bells","line"] Cv (aD ia):=fN
def pG(F:eV K "hands_in_rows" "hands_in_rows" ia f fd)(B:Bl mg)(gX:sI P w K mg base):bF P w K mg base eE 2 f fd Cv (eT ⟨K,mg⟩ 1 eX):=by
 have nd:=j8.nd
 refine bx F j8 fun cdv A outer s H E hr=> ?_
 exact(aw (bB 1 nd (cx (cP ar)))
  (aw (gR PassesOwn.never rfl (du (dk (az (v_ 0) ao))) (cN rfl (aA (bz 2 nd) (aA (bz 3 nd) bO))) (aE (cW (vL (v_ 1) (dk (v_ 3))))))
  (aw (gR PassesOwn.never rfl (du (dk (az (v_ 0) ao))) (cN rfl (aA (bz 4 nd) (aA (bz 5 nd) (aA (bz 3 nd) (aA (bz 6 nd) (aA (bz 7 nd) bO)))))) (aw (cW (vL (v_ 1) (dk (cC (v_ 3) (v_ 6)))))
  (aE (gR PassesOwn.never rfl (du (dk (v_ 7))) (bz 8 nd) (aE (cW (i7 (v_ 1) (iu (jD gX hr (ai (v_ 8) ar))))))))))
  (aE (aM (v_ 1))))))
end
section
variable{P:Program}{w:World}{K:PySem.W.Frag}{mg:Str->Option Value}{base:Heap}{f:Addr}{fd:FuncData}
def u_:aL zF zF (aD kS):=fN
def vm(F:eV K "last_frame" "last_frame" kS f fd)(B:Bl mg):bF P w K mg base eE 1 f fd zF (eT ⟨K,mg⟩ 2 c7):=by
 refine bx F u_ fun cdv A outer s H E hr=> ?_
 exact(aE (aM (az (az (az (az (v_ 0) ao) (v_ 1)) ao) (lj ao))))
def mZ:aL ["world","hand","frame","room","deed"] CI (aD kT):=fN
def vc(F:eV K "program_of" "program_of" kT f fd)(B:Bl mg){iS:Tok}(fH:mg "OWN"=some (.int (-1) iS)):bF P w K mg base eE 1 f fd CI (eT ⟨K,mg⟩ 3 eW):=by
 have nd:=mZ.nd
 refine bx F mZ fun cdv A outer s H E hr=> ?_
 exact(aw (LW (Kk (i:=3) (j:=4) rfl nd rfl rfl (by decide) rfl rfl (ai (az (v_ 2) ao) (ai (az (v_ 2) ao) ar)) rfl))
  (aw (cv (bG cI cJ (v_ 3) (dI (fq (v:=.int (-1)) rfl fH ⟨_,rfl⟩) fun _ _=>.int (-1)) (aR _)) (aE (aM (az (az (az (v_ 0) ao) (v_ 1)) ao))) bJ)
  (aE (aM (az (az (az (az (az (v_ 0) ao) (v_ 3)) ao) (v_ 4)) ao)))))
def jZ:aL ["world","scene","hand","frame"] dh (aD ig):=fN
def qc(F:eV K "is_behind_all" "is_behind_all" ig f fd)(B:Bl mg)(aZ:dM P w K mg base)(cB:iD P w K mg base){iS:Tok}(fH:mg "OWN"=some (.int (-1) iS)):bF P w K mg base eE 2 f fd dh (eT ⟨K,mg⟩ 3 gK):=by
 have nd:=jZ.nd
 refine bx F jZ fun cdv A outer s H E hr=> ?_
 exact(aw (bB 3 nd (aN aZ hr (ai (v_ 1) (ai (v_ 2) ar))))
  (aE (aM (Ft (kY cI cJ (az (v_ 3) ao) (dI (fq (v:=.int (-1)) rfl fH ⟨_,rfl⟩) fun _ _=>.int (-1)) (aR _)) (B9 (kY cI cJ (az (v_ 3) ao) (fD rfl B.len (dk (aN cB hr (ai (v_ 0) (ai (v_ 2) (ai (v_ 3) ar)))))) (aR _)))))))
def qy:aL ["world","scene","held_up"] wX (aD nk):=fN
def Aa(F:eV K "may_step" "may_step" nk f fd)(B:Bl mg)(ik:rV P w K mg base)(ij:rN P w K mg base):bF P w K mg base eE 3 f fd wX (eT ⟨K,mg⟩ 2 jX):=by
 have nd:=qy.nd
 refine bx F qy fun cdv A outer s H E hr=> ?_
 exact(aw (bB 2 nd (cx (jD ik hr (ai (v_ 1) ar))))
  (aE (nh (cV (N:= ["hand","world","scene","held_up"]) (js:= [none,some 0,some 1,some 2]) (aU.gen rfl rfl rfl rfl rfl rfl) rfl (kP rfl B.range (fD rfl B.len (dk (az (v_ 1) ao)))) (fun _ _ _ _=>(eR 0)) (fun _ _ _ _=>(E4 (PW.pt (w_and (xo (v_ 0) (dk (v_ 3))) (eS (vR (jM (aN ij hr (ai (v_ 1) (ai (v_ 2) (ai (v_ 0) ar))))))))))) (fun _ _ _ _=>(v_ 0))))))
def i9:aL ["_law_world_here","_law_scene","_law_number","_law_values","_law_within","_law_row","_law_late","_law_bells","_law_word","_law_sort","_law_bell","_law_turns"] Cd (aD gL):=fN
def ni(F:eV K "_law_room_right" "_law_room_right" gL f fd)(B:Bl mg):bF P w K mg base eE 1 f fd Cd (eT ⟨K,mg⟩ 3 ft):=by
 have nd:=i9.nd
 refine bx F i9 fun cdv A outer s H E hr=> ?_
 have hu:=hr.units0
 exact(aw (fM (az (az (v_ 1) ao) (v_ 2)) (cN rfl (aA (bz 3 nd) (aA (bz 4 nd) (aA (bz 5 nd) (aA (bz 6 nd) (aA (bz 7 nd) bO)))))))
  (aw (cv (PW.pt (w_and (bG mf l_ (v_ 4) ao (aR _)) (eS (zZ hr (cC (v_ 5) (v_ 6)) (aS ar))))) (aE (aM rL)) bJ)
  (aw (cv (PW.pt (w_and (bG IR IH (v_ 4) ao (aR _)) (eS (xo (v_ 2) (iu (cV (N:=Lh) (js:= [none]) (aU.gen rfl rfl rfl rfl rfl rfl) rfl (du (dk (az (az (az (v_ 1) ao) (v_ 4)) ao))) (fun _ _ _ _=>(eR 0)) (fun _ _ _ _=>eA) (fun _ _ _ _=>(az (v_ 0) ao)))))))) (aE (aM rL)) bJ)
  (aw (cv (PW.pt (w_and (E9 hr (az (az (az (v_ 0) ao) (v_ 2)) ao) bf) (eS (zZ hr (v_ 6) (aS ar))))) (aE (aM rL)) bJ)
  (aw (gR PassesOwn.never rfl (rp rfl B.zip (dk (az (az (az (v_ 0) ao) (v_ 2)) ao)) (dk (v_ 7))) (cN rfl (aA (cN rfl (aA (bz 8 nd) (aA (bz 9 nd) bO))) (aA (bz 10 nd) bO))) (aw (GH (n:=11) (N:= ["_law_turn","_law_own_here"]) (js:= [none,none]) (aU.gen rfl rfl rfl rfl rfl rfl) rfl (du (dk (v_ 10))) (fun _ _ _ _=>(cN rfl (aA (eR 0) (aA (eR 1) bO)))) (fun _ _ _ _=>eA) (fun _ _ _ _=>(v_ 0)) (Ka 11 nd))
  (aE (cv (PW.pt (w_or (Lq hu (dk (v_ 11)) (iu (Da rfl B.sorted (dk (v_ 11))))) (Gi (PW.pt (w_and (E9 hr (v_ 9) bf) (eS (jM (Kd rfl rfl B.any (dk (v_ 11)))))))))) (aE (aM rL)) bJ))))
  (aE (aM (AK rfl rfl B.all (iu (cV (N:=Iz) (js:= [none]) (aU.gen rfl rfl rfl rfl rfl rfl) rfl (du (dk (v_ 3))) (fun _ _ _ _=>(eR 0)) (fun _ _ _ _=>eA) (fun _ _ _ _=>(Co Ax zk Ax zk ao (v_ 0) ao))))))))))))
def mT:aL ["_law_world_here","_law_scene","_law_own_here","_law_found","_law_told","_law_here","_law_room_here","_law_bell","_law_rows"] kZ (aD kn):=fN
def uW(F:eV K "_law_bound" "_law_bound" kn f fd)(B:Bl mg):bF P w K mg base eE 1 f fd kZ (eT ⟨K,mg⟩ 3 jh):=by
 have nd:=mT.nd
 refine bx F mT fun cdv A outer s H E hr=> ?_
 exact(aw (bB 3 nd (cx (cP ar)))
  (aw (gR PassesOwn.never rfl (rp rfl B.zip (dk (az (v_ 0) ao)) (dk (az (v_ 1) ao))) (cN rfl (aA (bz 4 nd) (aA (bz 5 nd) bO))) (aE (cW (i7 (v_ 3) (iu (AE (iu (cP (ai (aS (ai bf (ai (az (v_ 4) ao) ar))) ar))) (xc (az (v_ 5) ao) (v_ 2))))))))
  (aw (gR PassesOwn.never rfl (rp rfl B.zip (dk (az (v_ 0) ao)) (dk (az (v_ 1) ao))) (cN rfl (aA (bz 6 nd) (aA (bz 5 nd) bO))) (aw (cW (i7 (v_ 3) (iu (An (iu (AE (iu (cP (ai (aS (ai bf (ai (az (v_ 6) ao) ar))) ar))) (xc (az (v_ 5) ao) (v_ 2)))) (iu (AE (iu (cP (ai (aS (ai bf (ai (az (v_ 6) ao) ar))) ar))) (xc (az (v_ 5) ao) (v_ 2))))))))
  (aE (gR PassesOwn.never rfl (rp rfl B.zip (dk (az (v_ 6) ao)) (dk (az (v_ 5) ao))) (cN rfl (aA (bz 7 nd) (aA (bz 8 nd) bO))) (aE (cW (i7 (v_ 3) (iu (AE (iu (cP (ai (aS (ai bf (ai (az (v_ 6) ao) (ai (az (v_ 7) ao) ar)))) ar))) (fD rfl B.len (iu (cV (N:= ["_law_one","_law_own_here"]) (js:= [none,some 2]) (aU.gen rfl rfl rfl rfl rfl rfl) rfl (du (dk (v_ 8))) (fun _ _ _ _=>(eR 0)) (fun _ _ _ _=>(E4 (bG cI cJ (az (v_ 0) ao) (v_ 1) (aR _)))) (fun _ _ _ _=>(v_ 0))))))))))))))
  (aE (aM (v_ 3))))))
def jj:aL ["world","scene","hand","name","first","value","row","room","state","bell","sort","line"] dh (aD gU):=fN
def oP(F:eV K "place_in_a_row" "place_in_a_row" gU f fd)(B:Bl mg)(gX:sI P w K mg base):bF P w K mg base eE 2 f fd dh (eT ⟨K,mg⟩ 3 fU):=by
 have nd:=jj.nd
 refine bx F jj fun cdv A outer s H E hr=> ?_
 exact(aw (gR PassesOwn.never rfl (rp rfl B.zip (dk (az (v_ 0) ao)) (dk (az (v_ 1) ao))) (cN rfl (aA (cN rfl (aA (bz 3 nd) (aA (bz 4 nd) bO))) (aA (cN rfl (aA (bz 5 nd) (aA (bz 6 nd) bO))) bO))) (aE (cv (Ds (v_ 2) (dk (v_ 6))) (aE (aM (aS (ai bf (ai (v_ 3) ar))))) bJ)))
  (aw (gR PassesOwn.never rfl (rp rfl B.zip (dk (az (v_ 0) ao)) (dk (az (v_ 1) ao))) (cN rfl (aA (bz 7 nd) (aA (bz 8 nd) bO))) (aw (cv (Ds (v_ 2) (dk (az (v_ 8) ao))) (aE (aM (aS (ai bf (ai (az (v_ 7) ao) ar))))) bJ)
  (aw (cv (Ds (v_ 2) (dk (az (v_ 8) ao))) (aE (aM (aS (ai bf (ai (az (v_ 7) ao) ar))))) bJ)
  (aE (gR PassesOwn.never rfl (rp rfl B.zip (dk (az (v_ 7) ao)) (dk (az (v_ 8) ao))) (cN rfl (aA (cN rfl (aA (bz 9 nd) (aA (bz 10 nd) bO))) (aA (bz 11 nd) bO))) (aE (cv (Ds (v_ 2) (iu (jD gX hr (ai (v_ 11) ar)))) (aE (aM (aS (ai bf (ai (az (v_ 7) ao) (ai (v_ 9) ar)))))) bJ)))))))
  (aE (aM uD))))
def vU:aL ["world","scene","hand","waits","frame","room","name"] dh (aD uu):=fN
def Ei(F:eV K "stands" "stands" uu f fd)(B:Bl mg)(gS:qw P w K mg base)(aZ:dM P w K mg base)(cB:iD P w K mg base){iS:Tok}(fH:mg "OWN"=some (.int (-1) iS)):bF P w K mg base eE 3 f fd dh (eT ⟨K,mg⟩ 3 sh):=by
 have nd:=vU.nd
 refine bx F vU fun cdv A outer s H E hr=> ?_
 exact(aw (bB 3 nd (aN gS hr (ai (v_ 0) (ai (v_ 1) (ai (v_ 2) ar)))))
  (aw (cv (bG HS HZ (v_ 3) uD (aR _)) (aE (aM (v_ 3))) bJ)
  (aw (bB 4 nd (aN aZ hr (ai (v_ 1) (ai (v_ 2) ar))))
  (aw (bB 5 nd (az (v_ 4) ao))
  (aw (cv (bG cI cJ (v_ 5) (dI (fq (v:=.int (-1)) rfl fH ⟨_,rfl⟩) fun _ _=>.int (-1)) (aR _)) (aE (aM (sW (bG cI cJ (az (v_ 4) ao) (fD rfl B.len (dk (aN cB hr (ai (v_ 0) (ai (v_ 2) (ai (v_ 4) ar)))))) (aR _)) (aS (ai bf ar)) (aS (ai bf ar))))) bJ)
  (aw (bB 6 nd (az (az (az (v_ 0) ao) (v_ 5)) ao))
  (aE (aM (sW (bG cI cJ (az (az (az (v_ 1) ao) (v_ 5)) ao) (v_ 2) (aR _)) (aS (ai bf (ai (v_ 6) ar))) (aS (ai bf (ai (v_ 6) ar))))))))))))
def oT:aL ["_law_world_here","_law_scene","_law_own_here","_law_room_here","_law_deed_here","_law_row","_law_given","_law_told"] kZ (aD lF):=fN
def yD(F:eV K "_law_free" "_law_free" lF f fd)(B:Bl mg):bF P w K mg base eE 1 f fd kZ (eT ⟨K,mg⟩ 3 kH):=by
 have nd:=oT.nd
 refine bx F oT fun cdv A outer s H E hr=> ?_
 exact(aw (fM (az (az (az (az (v_ 1) ao) (v_ 2)) ao) (lj ao)) (cN rfl (aA (bz 3 nd) (aA (bz 4 nd) (aA (bz 5 nd) (aA (bz 6 nd) (aA (bz 7 nd) bO)))))))
  (aw (cv (bG mf l_ (v_ 3) ao (aR _)) (aE (aM (az (cx (cP (ai bf (ai bf ar)))) (rT jT (g6 iL rfl B.int (by rfl) (ai (kY cI cJ (v_ 5) (fD rfl B.len (dk (az (az (az (v_ 0) ao) (v_ 2)) ao))) (aR _)) ar)))))) bJ)
  (aE (aM (az (cx (cP (ai bf (ai bf ar)))) (rT jT (g6 iL rfl B.int (by rfl) (ai (kY cI cJ (az (az (az (v_ 1) ao) (v_ 3)) ao) (v_ 2) (aR _)) ar))))))))
def jc:aL ["_law_world_here","_law_scene","_law_own_here","_law_found","_law_told","_law_frames"] kZ (aD gH):=fN
def nu(F:eV K "_law_hand_right" "_law_hand_right" gH f fd)(B:Bl mg)(ke:yo P w K mg base)(uJ:F4 P w K mg base)(lI:zY P w K mg base):bF P w K mg base eE 4 f fd kZ (eT ⟨K,mg⟩ 3 fj):=by
 have nd:=jc.nd
 refine bx F jc fun cdv A outer s H E hr=> ?_
 have hu:=hr.units0
 exact(aw (bB 3 nd (cx (jD ke hr (ai (v_ 0) (ai (v_ 1) (ai (v_ 2) ar))))))
  (aw (bB 4 nd (aN uJ hr (ai (v_ 0) (ai (v_ 1) (ai (v_ 2) ar)))))
  (aw (bB 5 nd (az (az (az (v_ 1) ao) (v_ 2)) ao))
  (aw (cv (PW.pt (w_or (bG wV vX (fD rfl B.len (dk (v_ 3))) ao (aR _)) (w_or (zZ hr (cX (az (v_ 5) ao) dY (dX ao)) (aS (ai (lj ao) (ai (lj ao) ar)))) (Gi (zZ hr (cX (az (v_ 5) ao) (dX ao) dY) (aS (ai ao (ai ao ar)))))))) (aE (aM rL)) bJ)
  (aw (cv (jM (KO rfl rfl B.any (iu (cV (N:=Lh) (js:= [none]) (aU.gen rfl rfl rfl rfl rfl rfl) rfl (du (dk (cX (v_ 5) (dX ao) dY))) (fun _ _ _ _=>(eR 0)) (fun _ _ _ _=>eA) (fun _ _ _ _=>(kY mf l_ (az (v_ 0) ao) ao (aR _))))))) (aE (aM rL)) bJ)
  (aw (cv (HK hu (dk (v_ 3))) (aE (aM (y_ hr (az (v_ 4) ao) (aN lI hr (ai (v_ 0) (ai (v_ 1) (ai (v_ 2) ar))))))) bJ)
  (aw (cv (zZ hr (az (v_ 3) ao) (v_ 4)) (aE (aM rL)) bJ)
  (aw (cv (E9 hr (az (v_ 4) ao) bf) (aE (aM (y_ hr (fD rfl B.len (dk (v_ 5))) ao))) bJ)
  (aE (aM (Ft (kY wV vX (fD rfl B.len (dk (v_ 5))) ao (aR _)) (B9 (y_ hr (az (az (az (v_ 0) ao) (az (az (v_ 5) (lj ao)) ao)) ao) (az (v_ 4) ao))))))))))))))
end
section
variable{P:Program}{w:World}{K:PySem.W.Frag}{mg:Str->Option Value}{base:Heap}{f:Addr}{fd:FuncData}
def vk:aL Ao Ao (aD kU):=fN
def u9(F:eV K "_law_right" "_law_right" kU f fd)(B:Bl mg)(gM:oD P w K mg base)(gP:oA P w K mg base):bF P w K mg base eE 5 f fd Ao (eT ⟨K,mg⟩ 2 jw):=by
 refine bx F vk fun cdv A outer s H E hr=> ?_
 exact(aw (cv (vR (jM (AK rfl rfl B.all (iu (cV (N:= ["_law_own_here","_law_world_here","_law_scene"]) (js:= [none,some 0,some 1]) (aU.gen rfl rfl rfl rfl rfl rfl) rfl (kP rfl B.range (fD rfl B.len (dk (az (v_ 0) ao)))) (fun _ _ _ _=>(eR 0)) (fun _ _ _ _=>eA) (fun _ _ _ _=>(aN gM hr (ai (v_ 1) (ai (v_ 2) (ai (v_ 0) ar)))))))))) (aE (aM rL)) bJ)
  (aw (cv (vR (jM (AK rfl rfl B.all (iu (cV (N:=Iz) (js:= [none]) (aU.gen rfl rfl rfl rfl rfl rfl) rfl (du (dk (cC (az (v_ 1) ao) (ee rfl B.tuple (iu (cV (N:=L6) (js:= [none]) (aU.gen rfl rfl rfl rfl rfl rfl) rfl (du (dk (az (v_ 1) ao))) (fun _ _ _ _=>(eR 0)) (fun _ _ _ _=>eA) (fun _ _ _ _=>(az (v_ 0) ao)))) (ht:=fW))))) (fun _ _ _ _=>(eR 0)) (fun _ _ _ _=>eA) (fun _ _ _ _=>(Co Ax zk Ax zk ao (v_ 0) ao))))))) (aE (aM rL)) bJ)
  (aw (cv (vR (jM (AK rfl rfl B.all (iu (cV (N:=L6) (js:= [none]) (aU.gen rfl rfl rfl rfl rfl rfl) rfl (du (dk (az (v_ 1) ao))) (fun _ _ _ _=>(eR 0)) (fun _ _ _ _=>eA) (fun _ _ _ _=>(Ng (y_ hr (az (v_ 0) ao) ao) (B9 (y_ hr (az (v_ 0) ao) (aS ar)))))))))) (aE (aM rL)) bJ)
  (aE (aM (AK rfl rfl B.all (iu (cV (N:= ["_law_number","_law_world_here","_law_scene"]) (js:= [none,some 0,some 1]) (aU.gen rfl rfl rfl rfl rfl rfl) rfl (kP rfl B.range (fD rfl B.len (dk (az (v_ 0) ao)))) (fun _ _ _ _=>(eR 0)) (fun _ _ _ _=>eA) (fun _ _ _ _=>(aN gP hr (ai (v_ 1) (ai (v_ 2) (ai (v_ 0) ar)))))))))))))
def yO:aL zm zm (aD lL):=fN
def yl(F:eV K "_law_next" "_law_next" lL f fd)(B:Bl mg)(aB:c9 P w K mg base)(aW:fc P w K mg base):bF P w K mg base eE 3 f fd zm (eT ⟨K,mg⟩ 3 kD):=by
 refine bx F yO fun cdv A outer s H E hr=> ?_
 exact(aw (cv (PW.pt (w_and (Ds (v_ 2) (dk (v_ 1))) (eS (bG cI cJ (aN aB hr (ai (v_ 0) (ai ao ar))) ao (aR _))))) (aE (aM (v_ 2))) bJ)
  (aE (aM (aN aW hr (ai (v_ 0) (ai (v_ 1) ar))))))
def Ak:aL Az Az (aD nL):=fN
def Ab(F:eV K "names_of" "names_of" nL f fd)(B:Bl mg):bF P w K mg base eE 1 f fd Az (eT ⟨K,mg⟩ 1 eO):=by
 refine bx F Ak fun cdv A outer s H E hr=> ?_
 exact(aE (nh (cV (N:= ["row"]) (js:= [none]) (aU.gen rfl rfl rfl rfl rfl rfl) rfl (du (dk (v_ 0))) (fun _ _ _ _=>(eR 0)) (fun _ _ _ _=>eA) (fun _ _ _ _=>(az (v_ 0) ao)))))
def zh:aL z3 z3 (aD nj):=fN
def zQ(F:eV K "place_of" "place_of" nj f fd)(B:Bl mg)(dj:nN P w K mg base):bF P w K mg base eE 2 f fd z3 (eT ⟨K,mg⟩ 2 dE):=by
 refine bx F zh fun cdv A outer s H E hr=> ?_
 exact(aE (aM (Hy (iu (jD dj hr (ai (v_ 0) ar))) (v_ 1))))
def yB:aL zc zc (aD lz):=fN
def yx(F:eV K "with_part" "with_part" lz f fd)(B:Bl mg):bF P w K mg base eE 1 f fd zc (eT ⟨K,mg⟩ 3 dW):=by
 refine bx F yB fun cdv A outer s H E hr=> ?_
 exact(aE (aM (cC (cC (cX (v_ 0) dY (dX (v_ 1))) (aS (ai (v_ 2) ar))) (cX (v_ 0) (dX (cC (v_ 1) ao)) dY))))
def xD:aL yS yS (aD lU):=fN
def xt(F:eV K "with_hand" "with_hand" lU f fd)(B:Bl mg)(bL:hU P w K mg base):bF P w K mg base eE 2 f fd yS (eT ⟨K,mg⟩ 4 gk):=by
 refine bx F xD fun cdv A outer s H E hr=> ?_
 exact(aE (aM (cC (cX (v_ 0) dY (dX ao)) (aS (ai (aN bL hr (ai (az (v_ 0) ao) (ai (v_ 1) (ai (aS (ai (v_ 2) (ai (v_ 3) ar))) ar)))) ar)))))
def w9:aL zg zg (aD lA):=fN
def yH(F:eV K "with_room" "with_room" lA f fd)(B:Bl mg)(bL:hU P w K mg base):bF P w K mg base eE 2 f fd zg (eT ⟨K,mg⟩ 3 dz):=by
 refine bx F w9 fun cdv A outer s H E hr=> ?_
 exact(aE (aM (cC (aS (ai (aN bL hr (ai (az (v_ 0) ao) (ai (v_ 1) (ai (v_ 2) ar)))) ar)) (cX (v_ 0) (dX ao) dY))))
def pe:aL ["world","scene","hand","word","value","room","place","values","shared","frames"] yf (aD lN):=fN
def xP(F:eV K "put_thing" "put_thing" lN f fd)(B:Bl mg)(aZ:dM P w K mg base)(bU:iV P w K mg base)(bL:hU P w K mg base)(bI:hV P w K mg base)(dj:nN P w K mg base)(cR:jz P w K mg base){iS:Tok}(fH:mg "OWN"=some (.int (-1) iS)):bF P w K mg base eE 3 f fd yf (eT ⟨K,mg⟩ 5 f_):=by
 have nd:=pe.nd
 refine bx F pe fun cdv A outer s H E hr=> ?_
 exact(aw (bB 5 nd (az (aN aZ hr (ai (v_ 1) (ai (v_ 2) ar))) ao))
  (aw (cv (bG wC vZ (v_ 5) (dI (fq (v:=.int (-1)) rfl fH ⟨_,rfl⟩) fun _ _=>.int (-1)) (aR _)) (aw (bB 6 nd (aN bU hr (ai (az (az (az (v_ 0) ao) (v_ 5)) ao) (ai (v_ 3) ar))))
  (aw (bB 7 nd (aN bL hr (ai (az (az (az (v_ 1) ao) (v_ 5)) ao) (ai (v_ 6) (ai (v_ 4) ar)))))
  (aE (aM (aN bI hr (ai (v_ 1) (ai (v_ 5) (ai (cC (aS (ai (v_ 7) ar)) (cX (az (az (v_ 1) ao) (v_ 5)) (dX ao) dY)) ar)))))))) bJ)
  (aw (cv (Ds (v_ 3) (iu (jD dj hr (ai (az (v_ 0) ao) ar)))) (aw (bB 8 nd (aN bL hr (ai (az (v_ 1) ao) (ai (aN bU hr (ai (az (v_ 0) ao) (ai (v_ 3) ar))) (ai (v_ 4) ar)))))
  (aE (aM (aS (ai (az (v_ 1) ao) (ai (az (v_ 1) ao) (ai (v_ 8) (ai (az (v_ 1) ao) ar)))))))) bJ)
  (aw (fM (az (az (v_ 1) ao) (v_ 2)) (cN rfl (aA (bz 7 nd) (aA (bz 9 nd) bO))))
  (aw (bB 6 nd (aN bU hr (ai (az (az (az (v_ 0) ao) (v_ 2)) ao) (ai (v_ 3) ar))))
  (aE (aM (aN cR hr (ai (v_ 1) (ai (v_ 2) (ai (aN bL hr (ai (v_ 7) (ai (v_ 6) (ai (v_ 4) ar)))) (ai (v_ 9) ar))))))))))))
def rQ:aL zu zu (aD iT):=fN
def rK(F:eV K "value_of_two" "value_of_two" iT f fd)(B:Bl mg){j0:Tok}(iJ:mg "HIGHEST"=some (.int (9) j0)):bF P w K mg base eE 1 f fd zu (eT ⟨K,mg⟩ 3 g9):=by
 refine bx F rQ fun cdv A outer s H E hr=> ?_
 exact(aw (cv (bG cI cJ (v_ 0) bf (aR _)) (aE (aM (rT AZ (dJ (pZ rfl) rfl B.min (by rfl) (ai (cC (v_ 1) (v_ 2)) (ai (dI (fq (v:=.int (9)) rfl iJ ⟨_,rfl⟩) fun _ _=>.int (9)) ar)))))) bJ)
  (aw (cv (bG cI cJ (v_ 0) bf (aR _)) (aE (aM (rT Fj (dJ (wL rfl) rfl B.max (by rfl) (ai (sP (v_ 1) (v_ 2)) (ai ao ar)))))) bJ)
  (aw (cv (bG cI cJ (v_ 0) bf (aR _)) (aE (aM (sW (bG mf l_ (v_ 1) (v_ 2) (aR _)) ao ao))) bJ)
  (aw (cv (bG cI cJ (v_ 0) bf (aR _)) (aE (aM (sW (bG cI cJ (v_ 1) (v_ 2) (aR _)) ao ao))) bJ)
  (aE (aM (sW (PW.pt (w_and (bG wC vZ (v_ 1) ao (aR _)) (eS (bG wC vZ (v_ 2) ao (aR _))))) ao ao)))))))
def qB:aL ["tree","things","waiting","first"] wG (aD nU):=fN
theorem qS(F:eV K "value_of" "value_of" nU f fd)(B:Bl mg)(gI:uF P w K mg base)(b:Binds K fd wG [])(kp:PySem.W.keepIn K (.ref f)=true)(m:mg "value_of"=some (.ref f)):∀n,bF P w K mg base eE (2+n) f fd wG (eT ⟨K,mg⟩ 3 (gY n))
 |0=>Cc
 | n+1=>by
   have gh:fI P w K mg base (2+n) "value_of" wG (gY n):=⟨f,fd,qS F B gI b kp m n,b,kp,m⟩
   have nd:=qB.nd
   refine bx (k:=2+n) F qB fun cdv A outer s H E hr=> ?_
   have hu1:=IV hr
   exact(aw (cv (jM (IK (T:="int") ⟨rfl,rfl,rfl,rfl,rfl,rfl,rfl⟩ rfl B.isi (v_ 0) (CF (v:=.ty "int") rfl B.int PyProof.Rows.boot_int rfl))) (aE (aM (v_ 0))) bJ)
   (aw (cv (jM (IK (T:="str") ⟨rfl,rfl,rfl,rfl,rfl,rfl,rfl⟩ rfl B.isi (v_ 0) (CF (v:=.ty "str") rfl B.str PyProof.Rows.boot_str rfl))) (aE (aM (Gp hu1 (v_ 1) (v_ 0) (fun _ _=>rfl)))) bJ)
   (aw (cv (bG cI cJ (az (v_ 0) ao) bf (aR _)) (aE (aM (sW (bG wV vX (Gp hu1 (v_ 2) (az (v_ 0) ao) (fun _ _=>rfl)) ao (aR _)) ao ao))) bJ)
   (aw (bB 3 nd (aN gh hr (ai (az (v_ 0) ao) (ai (v_ 1) (ai (v_ 2) ar)))))
   (aw (cv (bG cI cJ (az (v_ 0) ao) bf (aR _)) (aE (aM (sW (bG cI cJ (v_ 3) ao (aR _)) ao ao))) bJ)
   (aE (aM (aN gI hr (ai (az (v_ 0) ao) (ai (v_ 3) (ai (aN gh hr (ai (az (v_ 0) ao) (ai (v_ 1) (ai (v_ 2) ar)))) ar)))))))))))
def rj:aL ["world","scene","hand","tree","frame","room","things","waiting"] xp (aD nH):=fN
def zN(F:eV K "reckoned" "reckoned" nH f fd)(B:Bl mg)(aZ:dM P w K mg base)(dj:nN P w K mg base)(gh:BL P w K mg base){iS:Tok}(fH:mg "OWN"=some (.int (-1) iS)):bF P w K mg base eE 9 f fd xp (eT ⟨K,mg⟩ 4 eg):=by
 have nd:=rj.nd
 refine bx F rj fun cdv A outer s H E hr=> ?_
 have hu1:=IV hr
 exact(aw (bB 4 nd (aN aZ hr (ai (v_ 1) (ai (v_ 2) ar))))
  (aw (bB 5 nd (az (v_ 4) ao))
  (aw (cv (bG cI cJ (v_ 5) (dI (fq (v:=.int (-1)) rfl fH ⟨_,rfl⟩) fun _ _=>.int (-1)) (aR _)) (aw (bB 6 nd (pL rfl rfl B.dict rfl B.zip (iu (jD dj hr (ai (az (v_ 0) ao) ar))) (dk (az (v_ 1) ao))))
  (aw (cW (Gq (v_ 6) (pL rfl rfl B.dict rfl B.zip (iu (jD dj hr (ai (az (az (az (v_ 0) ao) (v_ 2)) ao) ar))) (dk (az (az (az (v_ 1) ao) (v_ 2)) ao)))))
  (aE (aM (aN gh hr (ai (v_ 3) (ai (v_ 6) (ai Jb ar)))))))) bJ)
  (aw (bB 6 nd (pL rfl rfl B.dict rfl B.zip (iu (jD dj hr (ai (az (az (az (v_ 0) ao) (v_ 5)) ao) ar))) (dk (az (az (az (v_ 1) ao) (v_ 5)) ao))))
  (aw (Ku hu1 (v_ 6) bf (az (v_ 4) ao))
  (aw (G0 (n:=7) (N:= ["bell","line"]) (js:= [none,none]) (aU.gen rfl rfl rfl rfl rfl rfl) rfl (rp rfl B.zip (iu (jD dj hr (ai (az (az (az (v_ 0) ao) (v_ 5)) ao) ar))) (dk (az (az (az (v_ 1) ao) (v_ 5)) ao))) (fun _ _ _ _=>(cN rfl (aA (eR 0) (aA (eR 1) bO)))) (fun _ _ _ _=>eA) (fun _ _ _ _=>(v_ 0)) (fun _ _ _ _=>(fD rfl B.len (dk (v_ 1)))) (Ka 7 nd))
  (aE (aM (aN gh hr (ai (v_ 3) (ai (v_ 6) (ai (v_ 7) ar))))))))))))
def Dt:aL bW bW (aD tW):=fN
def DZ(F:eV K "by_put" "by_put" tW f fd)(B:Bl mg)(gq:qV P w K mg base)(bT:g8 P w K mg base):bF P w K mg base eE 10 f fd bW (eT ⟨K,mg⟩ 4 r8):=by
 refine bx F Dt fun cdv A outer s H E hr=> ?_
 exact(aE (aM (aN gq hr (ai (v_ 0) (ai (v_ 1) (ai (v_ 2) (ai (az (v_ 3) ao) (ai (aN bT hr (ai (v_ 0) (ai (v_ 1) (ai (v_ 2) (ai (az (v_ 3) ao) ar))))) ar))))))))
def iZ:aL ["scene","hand","frame","values","frames"] Cr (aD gD):=fN
def nY(F:eV K "with_last_frame" "with_last_frame" gD f fd)(B:Bl mg)(cR:jz P w K mg base):bF P w K mg base eE 3 f fd Cr (eT ⟨K,mg⟩ 3 eD):=by
 have nd:=iZ.nd
 refine bx F iZ fun cdv A outer s H E hr=> ?_
 exact(aw (fM (az (az (v_ 0) ao) (v_ 1)) (cN rfl (aA (bz 3 nd) (aA (bz 4 nd) bO))))
  (aE (aM (aN cR hr (ai (v_ 0) (ai (v_ 1) (ai (v_ 3) (ai (cC (cX (v_ 4) dY (dX (lj ao))) (aS (ai (v_ 2) ar))) ar))))))))
end
section
variable{P:Program}{w:World}{K:PySem.W.Frag}{mg:Str->Option Value}{base:Heap}{f:Addr}{fd:FuncData}
def wm:aL ["scene","hand","row","frame"] B6 (aD uR):=fN
def Dj(F:eV K "at_row" "at_row" uR f fd)(B:Bl mg)(aZ:dM P w K mg base)(df:jl P w K mg base):bF P w K mg base eE 4 f fd B6 (eT ⟨K,mg⟩ 3 kE):=by
 have nd:=wm.nd
 refine bx F wm fun cdv A outer s H E hr=> ?_
 exact(aw (bB 3 nd (aN aZ hr (ai (v_ 0) (ai (v_ 1) ar))))
  (aE (aM (aN df hr (ai (v_ 0) (ai (v_ 1) (ai (cC (cC (cX (v_ 3) dY (dX ao)) (aS (ai (v_ 2) ar))) (cX (v_ 3) (dX ao) dY)) ar)))))))
def xi:aL bW bW (aD lM):=fN
def yF(F:eV K "by_unless" "by_unless" lM f fd)(B:Bl mg)(bT:g8 P w K mg base)(gG:tZ P w K mg base):bF P w K mg base eE 10 f fd bW (eT ⟨K,mg⟩ 4 kq):=by
 refine bx F xi fun cdv A outer s H E hr=> ?_
 exact(aw (cv (bG cI cJ (aN bT hr (ai (v_ 0) (ai (v_ 1) (ai (v_ 2) (ai (az (v_ 3) ao) ar))))) ao (aR _)) (aE (aM (aN gG hr (ai (v_ 1) (ai (v_ 2) (ai (az (v_ 3) ao) ar)))))) bJ)
  (aE (aM (v_ 1))))
def Fe:aL bW bW (aD yk):=fN
def GC(F:eV K "by_go" "by_go" yk f fd)(B:Bl mg)(gG:tZ P w K mg base):bF P w K mg base eE 5 f fd bW (eT ⟨K,mg⟩ 4 yt):=by
 refine bx F Fe fun cdv A outer s H E hr=> ?_
 exact(aE (aM (aN gG hr (ai (v_ 1) (ai (v_ 2) (ai (az (v_ 3) ao) ar))))))
def sU:aL ["scene","room","hand","values","within","row","late","bells"] CG (aD pO):=fN
def BA(F:eV K "come_in" "come_in" pO f fd)(B:Bl mg)(bI:hV P w K mg base){i3:Tok}(gF:mg "NOBODY"=some (.int (-1) i3)):bF P w K mg base eE 3 f fd CG (eT ⟨K,mg⟩ 3 lH):=by
 have nd:=sU.nd
 refine bx F sU fun cdv A outer s H E hr=> ?_
 exact(aw (fM (az (az (v_ 0) ao) (v_ 1)) (cN rfl (aA (bz 3 nd) (aA (bz 4 nd) (aA (bz 5 nd) (aA (bz 6 nd) (aA (bz 7 nd) bO)))))))
  (aw (cv (bG cI cJ (v_ 4) (dI (fq (v:=.int (-1)) rfl gF ⟨_,rfl⟩) fun _ _=>.int (-1)) (aR _)) (aE (aM (aN bI hr (ai (v_ 0) (ai (v_ 1) (ai (aS (ai (v_ 3) (ai (v_ 2) (ai (v_ 5) (ai (v_ 6) (ai (v_ 7) ar)))))) ar)))))) bJ)
  (aE (aM (aN bI hr (ai (v_ 0) (ai (v_ 1) (ai (aS (ai (v_ 3) (ai (v_ 4) (ai (cC (v_ 5) (aS (ai (v_ 2) ar))) (ai (v_ 6) (ai (v_ 7) ar)))))) ar))))))))
def y0:aL ["world","scene","hand","row","room","deed","frame","values","frames"] bW (aD xY):=fN
def FS(F:eV K "by_do" "by_do" xY f fd)(B:Bl mg)(bU:iV P w K mg base)(bT:g8 P w K mg base)(iG:vF P w K mg base)(cR:jz P w K mg base):bF P w K mg base eE 10 f fd bW (eT ⟨K,mg⟩ 4 xk):=by
 have nd:=y0.nd
 refine bx F y0 fun cdv A outer s H E hr=> ?_
 exact(aw (bB 4 nd (aN bU hr (ai (az (v_ 0) ao) (ai (az (v_ 3) ao) ar))))
  (aw (bB 5 nd (aN bU hr (ai (az (az (az (v_ 0) ao) (v_ 4)) ao) (ai (az (v_ 3) ao) ar))))
  (aw (bB 6 nd (aS (ai (v_ 4) (ai (v_ 5) (ai ao (ai (aN bT hr (ai (v_ 0) (ai (v_ 1) (ai (v_ 2) (ai (az (v_ 3) ao) ar))))) (ai ao ar)))))))
  (aw (fM (az (az (v_ 1) ao) (v_ 2)) (cN rfl (aA (bz 7 nd) (aA (bz 8 nd) bO))))
  (aE (aM (aN iG hr (ai (aN cR hr (ai (v_ 1) (ai (v_ 2) (ai (v_ 7) (ai (cC (v_ 8) (aS (ai (v_ 6) ar))) ar))))) (ai (v_ 4) (ai (v_ 2) ar))))))))))
def t6:aL ["world","scene","hand","word","room"] x8 (aD qk):=fN
def AV(F:eV K "bell_of" "bell_of" qk f fd)(B:Bl mg)(aZ:dM P w K mg base)(bU:iV P w K mg base):bF P w K mg base eE 3 f fd x8 (eT ⟨K,mg⟩ 4 j7):=by
 have nd:=t6.nd
 refine bx F t6 fun cdv A outer s H E hr=> ?_
 exact(aw (bB 4 nd (az (aN aZ hr (ai (v_ 1) (ai (v_ 2) ar))) ao))
  (aE (aM (aS (ai (v_ 4) (ai (aN bU hr (ai (az (az (az (v_ 0) ao) (v_ 4)) ao) (ai (v_ 3) ar))) ar))))))
def oO:aL ["scene","room","bell","line","state"] Ci (aD me):=fN
def xb(F:eV K "with_line" "with_line" me f fd)(B:Bl mg)(bI:hV P w K mg base)(bL:hU P w K mg base):bF P w K mg base eE 3 f fd Ci (eT ⟨K,mg⟩ 4 fY):=by
 have nd:=oO.nd
 refine bx F oO fun cdv A outer s H E hr=> ?_
 exact(aw (bB 4 nd (az (az (v_ 0) ao) (v_ 1)))
  (aE (aM (aN bI hr (ai (v_ 0) (ai (v_ 1) (ai (cC (cX (v_ 4) dY (dX ao)) (aS (ai (aN bL hr (ai (az (v_ 4) ao) (ai (v_ 2) (ai (v_ 3) ar)))) ar))) ar)))))))
def zG:aL ["scene","room","values","within","row","late","bells"] Cy (aD yw):=fN
def EY(F:eV K "leave" "leave" yw f fd)(B:Bl mg)(bI:hV P w K mg base){i3:Tok}(gF:mg "NOBODY"=some (.int (-1) i3)):bF P w K mg base eE 3 f fd Cy (eT ⟨K,mg⟩ 2 p9):=by
 have nd:=zG.nd
 refine bx F zG fun cdv A outer s H E hr=> ?_
 exact(aw (fM (az (az (v_ 0) ao) (v_ 1)) (cN rfl (aA (bz 2 nd) (aA (bz 3 nd) (aA (bz 4 nd) (aA (bz 5 nd) (aA (bz 6 nd) bO)))))))
  (aw (cv (jM (v_ 5)) (aE (aM (aN bI hr (ai (v_ 0) (ai (v_ 1) (ai (aS (ai (v_ 2) (ai (az (v_ 5) ao) (ai (v_ 4) (ai (cX (v_ 5) (dX ao) dY) (ai (v_ 6) ar)))))) ar)))))) bJ)
  (aw (cv (jM (v_ 4)) (aE (aM (aN bI hr (ai (v_ 0) (ai (v_ 1) (ai (aS (ai (v_ 2) (ai (az (v_ 4) ao) (ai (cX (v_ 4) (dX ao) dY) (ai (v_ 5) (ai (v_ 6) ar)))))) ar)))))) bJ)
  (aE (aM (aN bI hr (ai (v_ 0) (ai (v_ 1) (ai (aS (ai (v_ 2) (ai (dI (fq (v:=.int (-1)) rfl gF ⟨_,rfl⟩) fun _ _=>.int (-1)) (ai (v_ 4) (ai (v_ 5) (ai (v_ 6) ar)))))) ar)))))))))
def tw:aL ["world","scene","hand","row","room","bell","turn","line","ahead","waiting"] bW (aD qe):=fN
def Bw(F:eV K "by_wait" "by_wait" qe f fd)(B:Bl mg)(fu:pR P w K mg base)(bT:g8 P w K mg base)(dS:lq P w K mg base)(mG:CO P w K mg base):bF P w K mg base eE 10 f fd bW (eT ⟨K,mg⟩ 4 oS):=by
 have nd:=tw.nd
 refine bx F tw fun cdv A outer s H E hr=> ?_
 exact(aw (fM (aN fu hr (ai (v_ 0) (ai (v_ 1) (ai (v_ 2) (ai (az (v_ 3) ao) ar))))) (cN rfl (aA (bz 4 nd) (aA (bz 5 nd) bO))))
  (aw (bB 6 nd ao)
  (aw (cv (bG cI cJ (az (az (az (az (az (v_ 0) ao) (v_ 4)) ao) (v_ 5)) ao) bf (aR _)) (aE (bB 6 nd (aN bT hr (ai (v_ 0) (ai (v_ 1) (ai (v_ 2) (ai (az (v_ 3) ao) ar))))))) bJ)
  (aw (bB 7 nd (az (az (az (az (v_ 1) ao) (v_ 4)) ao) (v_ 5)))
  (aw (bB 8 nd (fD rfl B.len (iu (cV (N:= ["other","waiter","turn"]) (js:= [none,none,some 6]) (aU.gen rfl rfl rfl rfl rfl rfl) rfl (du (dk (v_ 7))) (fun _ _ _ _=>(cN rfl (aA (eR 0) (aA (eR 1) bO)))) (fun _ _ _ _=>(E4 (bG Ax zk (v_ 0) (v_ 2) (aR _)))) (fun _ _ _ _=>(v_ 0))))))
  (aw (bB 9 nd (aN dS hr (ai (v_ 1) (ai (v_ 4) (ai (v_ 5) (ai (cC (cC (cX (v_ 7) dY (dX (v_ 8))) (aS (ai (aS (ai (v_ 6) (ai (v_ 2) ar))) ar))) (cX (v_ 7) (dX (v_ 8)) dY)) ar))))))
  (aE (aM (aN mG hr (ai (v_ 9) (ai (v_ 4) ar)))))))))))
def uk:aL ["world","scene","hand","row","room","bell","line","called","values","within","queue","late","bells"] bW (aD p8):=fN
def A_(F:eV K "by_call" "by_call" p8 f fd)(B:Bl mg)(fu:pR P w K mg base)(dS:lq P w K mg base)(bI:hV P w K mg base):bF P w K mg base eE 4 f fd bW (eT ⟨K,mg⟩ 4 oZ):=by
 have nd:=uk.nd
 refine bx F uk fun cdv A outer s H E hr=> ?_
 exact(aw (fM (aN fu hr (ai (v_ 0) (ai (v_ 1) (ai (v_ 2) (ai (az (v_ 3) ao) ar))))) (cN rfl (aA (bz 4 nd) (aA (bz 5 nd) bO))))
  (aw (bB 6 nd (az (az (az (az (v_ 1) ao) (v_ 4)) ao) (v_ 5)))
  (aw (cv (vR (jM (v_ 6))) (aE (aM (v_ 1))) bJ)
  (aw (bB 7 nd (aN dS hr (ai (v_ 1) (ai (v_ 4) (ai (v_ 5) (ai (cX (v_ 6) (dX ao) dY) ar))))))
  (aw (cv (bG cI cJ (az (az (az (v_ 0) ao) (v_ 4)) ao) bf (aR _)) (aE (aM (v_ 7))) bJ)
  (aw (fM (az (az (v_ 7) ao) (v_ 4)) (cN rfl (aA (bz 8 nd) (aA (bz 9 nd) (aA (bz 10 nd) (aA (bz 11 nd) (aA (bz 12 nd) bO)))))))
  (aE (aM (aN bI hr (ai (v_ 7) (ai (v_ 4) (ai (aS (ai (v_ 8) (ai (az (az (v_ 6) ao) ao) (ai (v_ 10) (ai (cC (v_ 11) (aS (ai (v_ 2) ar))) (ai (v_ 12) ar)))))) ar))))))))))))
def wK:aL ["world","scene","hand","row","room","bell"] bW (aD sS):=fN
def DE(F:eV K "by_all" "by_all" sS f fd)(B:Bl mg)(fu:pR P w K mg base)(dS:lq P w K mg base):bF P w K mg base eE 4 f fd bW (eT ⟨K,mg⟩ 4 rY):=by
 have nd:=wK.nd
 refine bx F wK fun cdv A outer s H E hr=> ?_
 exact(aw (fM (aN fu hr (ai (v_ 0) (ai (v_ 1) (ai (v_ 2) (ai (az (v_ 3) ao) ar))))) (cN rfl (aA (bz 4 nd) (aA (bz 5 nd) bO))))
  (aE (aM (aN dS hr (ai (v_ 1) (ai (v_ 4) (ai (v_ 5) (ai (aS ar) ar))))))))
def ua:aL ["world","scene","hand","row","told"] bW (aD pI):=fN
def Bn(F:eV K "by_tell" "by_tell" pI f fd)(B:Bl mg)(bT:g8 P w K mg base)(df:jl P w K mg base)(aZ:dM P w K mg base):bF P w K mg base eE 10 f fd bW (eT ⟨K,mg⟩ 4 oG):=by
 have nd:=ua.nd
 refine bx F ua fun cdv A outer s H E hr=> ?_
 exact(aw (bB 4 nd (aN bT hr (ai (v_ 0) (ai (v_ 1) (ai (v_ 2) (ai (az (v_ 3) ao) ar))))))
  (aE (aM (aN df hr (ai (v_ 1) (ai (v_ 2) (ai (cC (cX (aN aZ hr (ai (v_ 1) (ai (v_ 2) ar))) dY (dX ao)) (aS (ai (v_ 4) ar))) ar)))))))
def xu:aL y7 y7 (aD lV):=fN
def yC(F:eV K "with_pass" "with_pass" lV f fd)(B:Bl mg)(bL:hU P w K mg base):bF P w K mg base eE 2 f fd y7 (eT ⟨K,mg⟩ 3 gc):=by
 refine bx F xu fun cdv A outer s H E hr=> ?_
 exact(aE (aM (cC (aS (ai (az (v_ 0) ao) (ai (aN bL hr (ai (az (v_ 0) ao) (ai (v_ 1) (ai (v_ 2) ar)))) ar))) (cX (v_ 0) (dX ao) dY))))
def AH:aL ["world","scene","hand","name","place","value","row"] B7 (aD xh):=fN
def Gj(F:eV K "taken" "taken" xh f fd)(B:Bl mg)(bU:iV P w K mg base)(eG:qU P w K mg base):bF P w K mg base eE 3 f fd B7 (eT ⟨K,mg⟩ 4 t7):=by
 have nd:=AH.nd
 refine bx F AH fun cdv A outer s H E hr=> ?_
 exact(aw (bB 4 nd (aN bU hr (ai (az (v_ 0) ao) (ai (v_ 3) ar))))
  (aw (fM (az (az (v_ 1) ao) (v_ 4)) (cN rfl (aA (bz 5 nd) (aA (bz 6 nd) bO))))
  (aw (cv (bG wV vX (v_ 5) ao (aR _)) (aE (aM (aN eG hr (ai (v_ 1) (ai (v_ 4) (ai (aS (ai (sP (v_ 5) ao) (ai (v_ 6) ar))) ar)))))) bJ)
  (aE (aM (aN eG hr (ai (v_ 1) (ai (v_ 4) (ai (aS (ai (v_ 5) (ai (cC (v_ 6) (aS (ai (v_ 2) ar))) ar))) ar)))))))))
end
section
variable{P:Program}{w:World}{K:PySem.W.Frag}{mg:Str->Option Value}{base:Heap}{f:Addr}{fd:FuncData}
def Bf:aL bW bW (aD pF):=fN
def A4(F:eV K "by_take" "by_take" pF f fd)(B:Bl mg)(mF:CW P w K mg base):bF P w K mg base eE 4 f fd bW (eT ⟨K,mg⟩ 4 pj):=by
 refine bx F Bf fun cdv A outer s H E hr=> ?_
 exact(aE (aM (aN mF hr (ai (v_ 0) (ai (v_ 1) (ai (v_ 2) (ai (az (v_ 3) ao) ar)))))))
def mX:aL ["world","scene","name","place","value","row"] yJ (aD kN):=fN
def ve(F:eV K "given_back" "given_back" kN f fd)(B:Bl mg)(bU:iV P w K mg base)(eG:qU P w K mg base){j0:Tok}(iJ:mg "HIGHEST"=some (.int (9) j0)):bF P w K mg base eE 3 f fd yJ (eT ⟨K,mg⟩ 3 g_):=by
 have nd:=mX.nd
 refine bx F mX fun cdv A outer s H E hr=> ?_
 exact(aw (bB 3 nd (aN bU hr (ai (az (v_ 0) ao) (ai (v_ 2) ar))))
  (aw (fM (az (az (v_ 1) ao) (v_ 3)) (cN rfl (aA (bz 4 nd) (aA (bz 5 nd) bO))))
  (aw (cv (jM (v_ 5)) (aE (aM (aN eG hr (ai (v_ 1) (ai (v_ 3) (ai (aS (ai (v_ 4) (ai (cX (v_ 5) (dX ao) dY) ar))) ar)))))) bJ)
  (aE (aM (aN eG hr (ai (v_ 1) (ai (v_ 3) (ai (aS (ai (rT AZ (dJ (pZ rfl) rfl B.min (by rfl) (ai (cC (v_ 4) ao) (ai (dI (fq (v:=.int (9)) rfl iJ ⟨_,rfl⟩) fun _ _=>.int (9)) ar)))) (ai (v_ 5) ar))) ar)))))))))
def BH:aL bW bW (aD pQ):=fN
def Bo(F:eV K "by_give" "by_give" pQ f fd)(B:Bl mg)(fw:oY P w K mg base):bF P w K mg base eE 4 f fd bW (eT ⟨K,mg⟩ 4 oE):=by
 refine bx F BH fun cdv A outer s H E hr=> ?_
 exact(aE (aM (aN fw hr (ai (v_ 0) (ai (v_ 1) (ai (az (v_ 3) ao) ar))))))
def A2:aL bW bW (aD p_):=fN
def A1(F:eV K "by_pass" "by_pass" p_ f fd)(B:Bl mg)(mF:CW P w K mg base)(fw:oY P w K mg base):bF P w K mg base eE 4 f fd bW (eT ⟨K,mg⟩ 4 oW):=by
 refine bx F A2 fun cdv A outer s H E hr=> ?_
 exact(aE (aM (aN mF hr (ai (v_ 0) (ai (aN fw hr (ai (v_ 0) (ai (v_ 1) (ai (az (v_ 3) ao) ar)))) (ai (v_ 2) (ai (az (v_ 3) ao) ar)))))))
def DY:aL bW bW (aD uP):=fN
def DF(F:eV K "by_say" "by_say" uP f fd)(B:Bl mg):bF P w K mg base eE 1 f fd bW (eT ⟨K,mg⟩ 4 sA):=by
 refine bx F DY fun cdv A outer s H E hr=> ?_
 exact(aE (aM (v_ 1)))
def qI:aL ["world","scene","hand","row","deed"] bW (aD m_):=fN
def y3(F:eV K "row_done" "row_done" m_ f fd)(B:Bl mg)(uz:∀x F,ui.lookup x=some F->fI P w K mg base 10 x bW F)(pH:Cg P w K mg "DONE_BY" mE):bF P w K mg base eE 11 f fd bW (eT ⟨K,mg⟩ 4 j_):=by
 have nd:=qI.nd
 refine bx F qI fun cdv A outer s H E hr=> ?_
 exact(aw (bB 4 nd (H_ pH rfl (az (v_ 3) ao) (fun _ _=>rfl)))
  (aE (aM (HM uz (hr.mono (by decide)) rfl (by first|exact Or.inl rfl|exact Or.inr (Or.inl rfl)) (ai (v_ 0) (ai (v_ 1) (ai (v_ 2) (ai (v_ 3) ar)))) (mC (mC (mC (mC Bk))))))))
def qH:aL ["world","scene","hand","values","frames","room","deed","row","given","told","outside","came_by"] dh (aD og):=fN
def y6(F:eV K "end_deed" "end_deed" og f fd)(B:Bl mg)(cR:jz P w K mg base)(mG:CO P w K mg base)(cB:iD P w K mg base)(gq:qV P w K mg base):bF P w K mg base eE 4 f fd dh (eT ⟨K,mg⟩ 3 jY):=by
 have nd:=qH.nd
 refine bx F qH fun cdv A outer s H E hr=> ?_
 exact(aw (fM (az (az (v_ 1) ao) (v_ 2)) (cN rfl (aA (bz 3 nd) (aA (bz 4 nd) bO))))
  (aw (fM (az (v_ 4) (lj ao)) (cN rfl (aA (bz 5 nd) (aA (bz 6 nd) (aA (bz 7 nd) (aA (bz 8 nd) (aA (bz 9 nd) bO)))))))
  (aw (bB 10 nd (aN cR hr (ai (aN mG hr (ai (v_ 1) (ai (v_ 5) ar))) (ai (v_ 2) (ai (v_ 3) (ai (cX (v_ 4) dY (dX (lj ao))) ar))))))
  (aw (bB 11 nd (az (aN cB hr (ai (v_ 0) (ai (v_ 2) (ai (az (v_ 4) (lj ao)) ar)))) (sP (az (az (v_ 4) (lj ao)) ao) ao)))
  (aw (cv (bG Jv Kn (az (v_ 11) ao) uD (aR _)) (aE (aM (v_ 10))) bJ)
  (aE (aM (aN gq hr (ai (v_ 0) (ai (v_ 10) (ai (v_ 2) (ai (az (v_ 11) ao) (ai (v_ 9) ar)))))))))))))
def tj:aL ["world","scene","hand","frame","room","program","row","event"] dh (aD p7):=fN
def A7(F:eV K "step_of" "step_of" p7 f fd)(B:Bl mg)(aZ:dM P w K mg base)(iG:vF P w K mg base)(cB:iD P w K mg base)(nO:Bp P w K mg base)(bT:g8 P w K mg base)(nV:A6 P w K mg base)(gG:tZ P w K mg base){iS:Tok}(fH:mg "OWN"=some (.int (-1) iS)):bF P w K mg base eE 12 f fd dh (eT ⟨K,mg⟩ 3 oF):=by
 have nd:=tj.nd
 refine bx F tj fun cdv A outer s H E hr=> ?_
 exact(aw (bB 3 nd (aN aZ hr (ai (v_ 1) (ai (v_ 2) ar))))
  (aw (bB 4 nd (az (v_ 3) ao))
  (aw (cv (PW.pt (w_and (bG wC vZ (v_ 4) (dI (fq (v:=.int (-1)) rfl fH ⟨_,rfl⟩) fun _ _=>.int (-1)) (aR _)) (eS (bG wC vZ (az (az (az (v_ 1) ao) (v_ 4)) ao) (v_ 2) (aR _))))) (aE (aM (aS (ai (aN iG hr (ai (v_ 1) (ai (v_ 4) (ai (v_ 2) ar)))) (ai uD ar))))) bJ)
  (aw (bB 5 nd (aN cB hr (ai (v_ 0) (ai (v_ 2) (ai (v_ 3) ar)))))
  (aw (cv (bG cI cJ (az (v_ 3) ao) (fD rfl B.len (dk (v_ 5))) (aR _)) (aE (aM (aS (ai (aN nO hr (ai (v_ 0) (ai (v_ 1) (ai (v_ 2) ar)))) (ai uD ar))))) bJ)
  (aw (bB 6 nd (az (v_ 5) (az (v_ 3) ao)))
  (aw (bB 7 nd uD)
  (aw (cv (bG cI cJ (az (v_ 6) ao) bf (aR _)) (aE (bB 7 nd (aS (ai (v_ 2) (ai (aN bT hr (ai (v_ 0) (ai (v_ 1) (ai (v_ 2) (ai (az (v_ 6) ao) ar))))) ar))))) bJ)
  (aE (aM (aS (ai (aN nV hr (ai (v_ 0) (ai (aN gG hr (ai (v_ 1) (ai (v_ 2) (ai (cC (az (v_ 3) ao) ao) ar)))) (ai (v_ 2) (ai (v_ 6) ar))))) (ai (v_ 7) ar)))))))))))))
def AW:aL dh dh (aD pJ):=fN
def Bz(F:eV K "stepped" "stepped" pJ f fd)(B:Bl mg)(gV:sV P w K mg base)(qm:DM P w K mg base):bF P w K mg base eE 13 f fd dh (eT ⟨K,mg⟩ 3 oQ):=by
 refine bx F AW fun cdv A outer s H E hr=> ?_
 exact(aw (cv (xo (v_ 2) (iu (jD gV hr (ai (v_ 0) (ai (v_ 1) ar))))) (aE Ho) bJ)
  (aE (aM (aN qm hr (ai (v_ 0) (ai (v_ 1) (ai (v_ 2) ar)))))))
def EL:aL ["_law_script","_law_k","_law_pot_here","_law_world_here","_law_scene","_law_last","_law_turn","_law_some"] FD (aD pw):=fN
def J9(F:eV K "law" "law" pw f fd)(B:Bl mg)(nX:BW P w K mg base)(gW:pW P w K mg base)(yE:Hc P w K mg base)(kO:yj P w K mg base)(gV:sV P w K mg base)(lE:Ay P w K mg base)(p0:Et P w K mg base):bF P w K mg base eE 14 f fd FD (eT ⟨K,mg⟩ 1 G1):=by
 have nd:=EL.nd
 refine bx F EL fun cdv A outer s H E hr=> ?_
 have hu:=hr.units0
 exact(aw (gR PassesOwn.never rfl (kP rfl B.range (rT Fj (dJ (wL rfl) rfl B.max (by rfl) (ai ao (ai (rT AZ (dJ (pZ rfl) rfl B.min (by rfl) (ai (fD rfl B.len (dk (v_ 0))) (ai ao ar)))) ar))))) (bz 1 nd) (aw (bB 2 nd (cx (jD nX hr (ai (v_ 0) (ai (v_ 1) ar)))))
  (aw (bB 3 nd (aN gW hr (ai (v_ 2) ar)))
  (aw (bB 4 nd (aN yE hr (ai (v_ 3) ar)))
  (aw (bB 5 nd (lj ao))
  (aE (gR PassesOwn.never rfl (kP rfl B.range ao) (bz 6 nd) (aw (cv (vR (jM (aN kO hr (ai (v_ 3) (ai (v_ 4) ar))))) (aE (aM rL)) bJ)
  (aw (bB 7 nd (cx (jD gV hr (ai (v_ 3) (ai (v_ 4) ar)))))
  (aE (cv (fV hu (dk (v_ 7))) (aw (bB 5 nd (aN lE hr (ai (v_ 2) (ai (v_ 7) (ai (v_ 5) ar)))))
  (aE (bB 4 nd (az (aN p0 hr (ai (v_ 3) (ai (v_ 4) (ai (v_ 5) ar)))) ao)))) bJ)))))))))))
  (aE (aM rL)))
end
def all_mk{l:PySem.W.OpenLaw}{w:World}{K:PySem.W.Frag}{h:Heap}{mg:Str->Option Value}{fa f1 f2 f3 f4 f5 f6 f7 f8 f9 f10 f11 f12 f13 f14 f15 f16 f17 f18 f19 f20 f21 f22 f23 f24 f25 f26 f27 f28 f29 f30 f31 f32 f33 f34 f35 f36 f37 f38 f39 f40 f41 f42 f43 f44 f45 f46 f47 f48 f49 f50 f51 f52 f53 f54 f55 f56 f57 f58 f59 f60 f61 f62 f63 f64 f65:Addr}(X:K.In h)(G:h.Ns mainGlobals mg)(hfa:mg "law"=some (.ref fa))
  (d1:bq K "_law_pot" nI f1)
  (d2:bq K "_law_take" lW f2)
  (d3:bq K "_law_words" kQ f3)
  (d4:bq K "_law_pick" lS f4)
  (d5:bq K "_law_sum" nT f5)
  (d6:bq K "_law_waits" kL f6)
  (d7:bq K "_law_do" pN f7)
  (d8:bq K "_law_deed" lZ f8)
  (d9:bq K "_law_room" lX f9)
  (d10:bq K "_law_rooms" ki f10)
  (d11:bq K "_law_own" oa f11)
  (d12:bq K "_law_world" kC f12)
  (d13:bq K "_law_any_world" gZ f13)
  (d14:bq K "values_of" lG f14)
  (d15:bq K "begun_room" kM f15)
  (d16:bq K "begun" xB f16)
  (d17:bq K "hands_at" nZ f17)
  (d18:bq K "hands_in_rows" ia f18)
  (d19:bq K "last_frame" kS f19)
  (d20:bq K "program_of" kT f20)
  (d21:bq K "is_behind_all" ig f21)
  (d22:bq K "may_step" nk f22)
  (d23:bq K "_law_room_right" gL f23)
  (d24:bq K "_law_bound" kn f24)
  (d25:bq K "place_in_a_row" gU f25)
  (d26:bq K "stands" uu f26)
  (d27:bq K "_law_free" lF f27)
  (d28:bq K "_law_hand_right" gH f28)
  (d29:bq K "_law_right" kU f29)
  (d30:bq K "_law_next" lL f30)
  (d31:bq K "names_of" nL f31)
  (d32:bq K "place_of" nj f32)
  (d33:bq K "with_part" lz f33)
  (d34:bq K "with_hand" lU f34)
  (d35:bq K "with_room" lA f35)
  (d36:bq K "put_thing" lN f36)
  (d37:bq K "value_of_two" iT f37)
  (d38:bq K "value_of" nU f38)
  (d39:bq K "reckoned" nH f39)
  (d40:bq K "by_put" tW f40)
  (d41:bq K "with_last_frame" gD f41)
  (d42:bq K "at_row" uR f42)
  (d43:bq K "by_unless" lM f43)
  (d44:bq K "by_go" yk f44)
  (d45:bq K "come_in" pO f45)
  (d46:bq K "by_do" xY f46)
  (d47:bq K "bell_of" qk f47)
  (d48:bq K "with_line" me f48)
  (d49:bq K "leave" yw f49)
  (d50:bq K "by_wait" qe f50)
  (d51:bq K "by_call" p8 f51)
  (d52:bq K "by_all" sS f52)
  (d53:bq K "by_tell" pI f53)
  (d54:bq K "with_pass" lV f54)
  (d55:bq K "taken" xh f55)
  (d56:bq K "by_take" pF f56)
  (d57:bq K "given_back" kN f57)
  (d58:bq K "by_give" pQ f58)
  (d59:bq K "by_pass" p_ f59)
  (d60:bq K "by_say" uP f60)
  (d61:bq K "row_done" m_ f61)
  (d62:bq K "end_deed" og f62)
  (d63:bq K "step_of" p7 f63)
  (d64:bq K "stepped" pJ f64)
  {oc kV dc pm cd ct:Value} {od an:Option Addr} {sl:Array (Option Value)} (a65:PySem.W.nsIn K mainGlobals "law"=some (some (.ref f65))) (l65:K.lookup f65=some ⟨oc,od,.func (PySem.W.fnOf "law" "law" (iz pw) (gN pw) (aD pw) .none kV dc pm an cd ct),sl⟩) (c65:PySem.W.codeIn K cd "law"=true) (k65:PySem.W.keepIn K (.ref f65)=true)
  {i3:Tok} (E2:PySem.W.nsIn K mainGlobals "NOBODY"=some (some (.int (-1) i3)))
  {iS:Tok} (Li:PySem.W.nsIn K mainGlobals "OWN"=some (some (.int (-1) iS)))
  {j0:Tok} (Ej:PySem.W.nsIn K mainGlobals "HIGHEST"=some (some (.int (9) j0)))
  {vT AU:Nat} {yb xR ym xT yM yK xU yy yA xC vh vi:Tok} (Dy:PySem.W.nsIn K mainGlobals "DONE_BY"=some (some (.ref vT))) (Bx:K.lookup vT=some ⟨.type "dict",none,.dict (List.toArray [⟨PyData.keyHash w.params "put",.str "put" yb,.ref f40⟩,⟨PyData.keyHash w.params "unless",.str "unless" xR,.ref f43⟩,⟨PyData.keyHash w.params "go",.str "go" ym,.ref f44⟩,⟨PyData.keyHash w.params "do",.str "do" xT,.ref f46⟩,⟨PyData.keyHash w.params "wait",.str "wait" yM,.ref f50⟩,⟨PyData.keyHash w.params "call",.str "call" yK,.ref f51⟩,⟨PyData.keyHash w.params "all",.str "all" xU,.ref f52⟩,⟨PyData.keyHash w.params "tell",.str "tell" yy,.ref f53⟩,⟨PyData.keyHash w.params "take",.str "take" yA,.ref f56⟩,⟨PyData.keyHash w.params "give",.str "give" xC,.ref f58⟩,⟨PyData.keyHash w.params "pass",.str "pass" vh,.ref f59⟩,⟨PyData.keyHash w.params "say",.str "say" vi,.ref f60⟩]) AU,#[]⟩)
  (Ls:PySem.W.nsIn K mainGlobals "len"=some none) (GZ:PySem.W.nsIn K mainGlobals "tuple"=some none) (Kt:PySem.W.nsIn K mainGlobals "list"=some none) (Jq:PySem.W.nsIn K mainGlobals "dict"=some none) (L5:PySem.W.nsIn K mainGlobals "set"=some none) (Lu:PySem.W.nsIn K mainGlobals "int"=some none) (K_:PySem.W.nsIn K mainGlobals "str"=some none) (J5:PySem.W.nsIn K mainGlobals "bool"=some none) (Lo:PySem.W.nsIn K mainGlobals "all"=some none) (Lf:PySem.W.nsIn K mainGlobals "any"=some none) (GU:PySem.W.nsIn K mainGlobals "range"=some none) (Mb:PySem.W.nsIn K mainGlobals "zip"=some none) (FL:PySem.W.nsIn K mainGlobals "sorted"=some none) (yq:PySem.W.nsIn K mainGlobals "isinstance"=some none) (Me:PySem.W.nsIn K mainGlobals "min"=some none) (K6:PySem.W.nsIn K mainGlobals "max"=some none) (LX:PySem.W.nsIn K mainGlobals "abs"=some none) (z_:PySem.W.nsIn K mainGlobals "enumerate"=some none)
  (T:∀ns:List Int,ns.length<=63->∃S',G1 [.ref 0] [.frz (ns.map D.int)]=some (.d (.bl true),S')):
  ∃fd:FuncData,(∀(s:Shared) (v:Value),BindsTo s fd ⟨[v],[]⟩ [("_law_script",v)])/\∀base:Heap,K.In base->base.Ns mainGlobals mg->bF l.prog w K mg base eE 14 fa fd FD z9:=by
 have e:=hfa.symm.trans (PySem.W.mg_of X G a65)
 cases e
 have F65:=Bg (st:=pw) l65 c65 k65
 have O1:=d1.ok1 (ps:=CV) X G
 have O2:=d2.ok1 (ps:=CK) X G
 have O3:=d3.ok1 (ps:=Ct) X G
 have O4:=d4.ok1 (ps:=yX) X G
 have O5:=d5.ok1 (ps:=wy) X G
 have O6:=d6.ok1 (ps:=Cb) X G
 have O7:=d7.ok1 (ps:=B5) X G
 have O8:=d8.ok1 (ps:=CU) X G
 have O9:=d9.ok1 (ps:=C5) X G
 have O10:=d10.ok1 (ps:=CQ) X G
 have O11:=d11.ok1 (ps:=Cs) X G
 have O12:=d12.ok1 (ps:=CC) X G
 have O13:=d13.ok1 (ps:=CM) X G
 have O14:=d14.ok1 (ps:=Ar) X G
 have O15:=d15.ok1 (ps:=zW) X G
 have O16:=d16.ok1 (ps:=yh) X G
 have O17:=d17.ok1 (ps:=zM) X G
 have O18:=d18.ok1 (ps:=Cv) X G
 have O19:=d19.ok1 (ps:=zF) X G
 have O20:=d20.ok1 (ps:=CI) X G
 have O21:=d21.ok1 (ps:=dh) X G
 have O22:=d22.ok1 (ps:=wX) X G
 have O23:=d23.ok1 (ps:=Cd) X G
 have O24:=d24.ok1 (ps:=kZ) X G
 have O25:=d25.ok1 (ps:=dh) X G
 have O26:=d26.ok1 (ps:=dh) X G
 have O27:=d27.ok1 (ps:=kZ) X G
 have O28:=d28.ok1 (ps:=kZ) X G
 have O29:=d29.ok1 (ps:=Ao) X G
 have O30:=d30.ok1 (ps:=zm) X G
 have O31:=d31.ok1 (ps:=Az) X G
 have O32:=d32.ok1 (ps:=z3) X G
 have O33:=d33.ok1 (ps:=zc) X G
 have O34:=d34.ok1 (ps:=yS) X G
 have O35:=d35.ok1 (ps:=zg) X G
 have O36:=d36.ok1 (ps:=yf) X G
 have O37:=d37.ok1 (ps:=zu) X G
 have O38:=d38.ok1 (ps:=wG) X G
 have O39:=d39.ok1 (ps:=xp) X G
 have O40:=d40.ok1 (ps:=bW) X G
 have O41:=d41.ok1 (ps:=Cr) X G
 have O42:=d42.ok1 (ps:=B6) X G
 have O43:=d43.ok1 (ps:=bW) X G
 have O44:=d44.ok1 (ps:=bW) X G
 have O45:=d45.ok1 (ps:=CG) X G
 have O46:=d46.ok1 (ps:=bW) X G
 have O47:=d47.ok1 (ps:=x8) X G
 have O48:=d48.ok1 (ps:=Ci) X G
 have O49:=d49.ok1 (ps:=Cy) X G
 have O50:=d50.ok1 (ps:=bW) X G
 have O51:=d51.ok1 (ps:=bW) X G
 have O52:=d52.ok1 (ps:=bW) X G
 have O53:=d53.ok1 (ps:=bW) X G
 have O54:=d54.ok1 (ps:=y7) X G
 have O55:=d55.ok1 (ps:=B7) X G
 have O56:=d56.ok1 (ps:=bW) X G
 have O57:=d57.ok1 (ps:=yJ) X G
 have O58:=d58.ok1 (ps:=bW) X G
 have O59:=d59.ok1 (ps:=bW) X G
 have O60:=d60.ok1 (ps:=bW) X G
 have O61:=d61.ok1 (ps:=bW) X G
 have O62:=d62.ok1 (ps:=dh) X G
 have O63:=d63.ok1 (ps:=dh) X G
 have O64:=d64.ok1 (ps:=dh) X G
 have gF:=PySem.W.mg_of X G E2
 have fH:=PySem.W.mg_of X G Li
 have iJ:=PySem.W.mg_of X G Ej
 have pH:Cg l.prog w K mg "DONE_BY" mE:=EX (PySem.W.mg_of X G Dy) Bx (.cons O40.m (.cons O43.m (.cons O44.m (.cons O46.m (.cons O50.m (.cons O51.m (.cons O52.m (.cons O53.m (.cons O56.m (.cons O58.m (.cons O59.m (.cons O60.m .nil)))))))))))) (by decide +kernel)
 have B:Bl mg:=⟨QFq X G Ls,QFq X G GZ,QFq X G Kt,QFq X G Jq,QFq X G L5,QFq X G Lu,QFq X G K_,QFq X G J5,QFq X G Lo,QFq X G Lf,QFq X G GU,QFq X G Mb,QFq X G FL,QFq X G yq,QFq X G Me,QFq X G K6,QFq X G LX,QFq X G z_⟩
 refine⟨PySem.W.fnOf "law" "law" (iz pw) (gN pw) (aD pw) .none kV dc pm an cd ct,fun s v=>.of_eq rfl,fun base _ _=> ?_⟩
 have Z:Pk l.prog w base:=⟨⟩
 have nX:=O1.cal Z fun _ F _ _ _=>zX F B
 have aB:=O2.cal Z fun _ F _ _ _=>xq F B
 have cf:=O3.cal Z fun _ F _ _ _=>vf F B aB
 have aW:=O4.cal Z fun _ F _ _ _=>x_ F B aB
 have bC:=O5.cal Z fun _ F b k m=>qP F B aB aW b k m 4
 have kz:=O6.cal Z fun _ F _ _ _=>u3 F B bC aB aW
 have iH:=O7.cal Z fun _ F _ _ _=>Bh F B aW bC
 have mq:=O8.cal Z fun _ F _ _ _=>ya F B aB kz aW iH bC
 have mr:=O9.cal Z fun _ F _ _ _=>xJ F B aW cf aB mq
 have kI:=O10.cal Z fun _ F _ _ _=>u4 F B cf aB mr
 have nJ:=O11.cal Z fun _ F _ _ _=>zt F B aB iH aW bC
 have kj:=O12.cal Z fun _ F _ _ _=>u6 F B cf aB nJ
 have gW:=O13.cal Z fun _ F _ _ _=>oH F B kI aB kj
 have fe:=O14.cal Z fun _ F _ _ _=>yg F B
 have kh:=O15.cal Z fun _ F _ _ _=>vj F B fe gF
 have yE:=O16.cal Z fun _ F _ _ _=>ET F B fe kh fH
 have gX:=O17.cal Z fun _ F _ _ _=>AQ F B
 have ik:=O18.cal Z fun _ F _ _ _=>pG F B gX
 have aZ:=O19.cal Z fun _ F _ _ _=>vm F B
 have cB:=O20.cal Z fun _ F _ _ _=>vc F B fH
 have ij:=O21.cal Z fun _ F _ _ _=>qc F B aZ cB fH
 have gV:=O22.cal Z fun _ F _ _ _=>Aa F B ik ij
 have gP:=O23.cal Z fun _ F _ _ _=>ni F B
 have ke:=O24.cal Z fun _ F _ _ _=>uW F B
 have gS:=O25.cal Z fun _ F _ _ _=>oP F B gX
 have uJ:=O26.cal Z fun _ F _ _ _=>Ei F B gS aZ cB fH
 have lI:=O27.cal Z fun _ F _ _ _=>yD F B
 have gM:=O28.cal Z fun _ F _ _ _=>nu F B ke uJ lI
 have kO:=O29.cal Z fun _ F _ _ _=>u9 F B gM gP
 have lE:=O30.cal Z fun _ F _ _ _=>yl F B aB aW
 have dj:=O31.cal Z fun _ F _ _ _=>Ab F B
 have bU:=O32.cal Z fun _ F _ _ _=>zQ F B dj
 have bL:=O33.cal Z fun _ F _ _ _=>yx F B
 have cR:=O34.cal Z fun _ F _ _ _=>xt F B bL
 have bI:=O35.cal Z fun _ F _ _ _=>yH F B bL
 have gq:=O36.cal Z fun _ F _ _ _=>xP F B aZ bU bL bI dj cR fH
 have gI:=O37.cal Z fun _ F _ _ _=>rK F B iJ
 have gh:=O38.cal Z fun _ F b k m=>qS F B gI b k m 6
 have bT:=O39.cal Z fun _ F _ _ _=>zN F B aZ dj gh fH
 have Fp:=O40.cal Z fun _ F _ _ _=>DZ F B gq bT
 have df:=O41.cal Z fun _ F _ _ _=>nY F B cR
 have gG:=O42.cal Z fun _ F _ _ _=>Dj F B aZ df
 have yU:=O43.cal Z fun _ F _ _ _=>yF F B bT gG
 have Hl:=O44.cal Z fun _ F _ _ _=>GC F B gG
 have iG:=O45.cal Z fun _ F _ _ _=>BA F B bI gF
 have G3:=O46.cal Z fun _ F _ _ _=>FS F B bU bT iG cR
 have fu:=O47.cal Z fun _ F _ _ _=>AV F B aZ bU
 have dS:=O48.cal Z fun _ F _ _ _=>xb F B bI bL
 have mG:=O49.cal Z fun _ F _ _ _=>EY F B bI gF
 have Ep:=O50.cal Z fun _ F _ _ _=>Bw F B fu bT dS mG
 have Er:=O51.cal Z fun _ F _ _ _=>A_ F B fu dS bI
 have FO:=O52.cal Z fun _ F _ _ _=>DE F B fu dS
 have C9:=O53.cal Z fun _ F _ _ _=>Bn F B bT df aZ
 have eG:=O54.cal Z fun _ F _ _ _=>yC F B bL
 have mF:=O55.cal Z fun _ F _ _ _=>Gj F B bU eG
 have Dh:=O56.cal Z fun _ F _ _ _=>A4 F B mF
 have fw:=O57.cal Z fun _ F _ _ _=>ve F B bU eG iJ
 have Eh:=O58.cal Z fun _ F _ _ _=>Bo F B fw
 have C_:=O59.cal Z fun _ F _ _ _=>A1 F B mF fw
 have EH:=O60.cal Z fun _ F _ _ _=>DF F B
 have uz:∀x F,ui.lookup x=some F->fI l.prog w K mg base 10 x bW F:=by
  refine FX fun p hp=> ?_
  simp only[ui,Qsq,QXq,or_false] at hp
  rcases hp with rfl|rfl|rfl|rfl|rfl|rfl|rfl|rfl|rfl|rfl|rfl|rfl
  ·exact Fp.mono (by decide)
  ·exact yU.mono (by decide)
  ·exact Hl.mono (by decide)
  ·exact G3.mono (by decide)
  ·exact Ep.mono (by decide)
  ·exact Er.mono (by decide)
  ·exact FO.mono (by decide)
  ·exact C9.mono (by decide)
  ·exact Dh.mono (by decide)
  ·exact Eh.mono (by decide)
  ·exact C_.mono (by decide)
  ·exact EH.mono (by decide)
 have nV:=O61.cal Z fun _ F _ _ _=>y3 F B uz pH
 have nO:=O62.cal Z fun _ F _ _ _=>y6 F B cR mG cB gq
 have qm:=O63.cal Z fun _ F _ _ _=>A7 F B aZ iG cB nO bT nV gG fH
 have p0:=O64.cal Z fun _ F _ _ _=>Bz F B gV qm
 exact Hw (J9 F65 B nX gW yE kO gV lE p0) T
end W28
namespace DL
open PySem PySem.Spec L2
def t8{Γ:de}{S:aH}{Q:Bool->aH->Prop}(q:Q true S):E cz Γ S Q:=⟨_,_,rfl,q⟩
section
variable{S:aH}
def Nl{i j:Int}{Q:D->Prop}(q:Q (.int (i+j))):Op (cM S (.int i) (.int j)) Q:=⟨_,rfl,q⟩
def Jt{i j:Str}{Q:D->Prop}(h:i.length+j.length<=sizeLine)(q:Q (.str (i++j))):Op (cM S (.str i) (.str j)) Q:=⟨_,by simp only[cM];rw[Qhq h],q⟩
def et{i j:List D}{Q:D->Prop}(h:i.length+j.length<=sizeLine)(q:Q (.tup (i++j))):Op (cM S (.tup i) (.tup j)) Q:=⟨_,by simp only[cM];rw[Qhq h],q⟩
def JI{k:Int->Int->D}{i j:Int}{Q:D->Prop}(q:Q (k i j)):Op (intD (fun _ _=>True) k S (.int i) (.int j)) Q:=⟨_,by simp only[intD,if_true],q⟩
def t9{i j:Int}{Q:D->Prop}(h:0<j)(q:Q (.int (i%j))):Op (rF S (.int i) (.int j)) Q:=⟨_,by simp only[rF,intD];rw[Qhq h],q⟩
def ES{i j:Int}{Q:D->Prop}(h:Gm i j)(q:Q (.int (i/j))):Op (AC S (.int i) (.int j)) Q:=⟨_,by simp only[AC,intD];rw[Qhq h],q⟩
def vW{i j:Int}{Q:D->Prop}(h:Ig i j)(q:Q (.int (i*j))):Op (nW S (.int i) (.int j)) Q:=⟨_,by simp only[nW,intD];rw[Qhq h.ok],q⟩
def av{ds:List D}{i:Int}{d:D}{Q:D->Prop}(h:k8 ds i=some d)(q:Q d):Op (aQ S (.tup ds) (.int i)) Q:=⟨_,h,q⟩
def eU{k:Nat}{ds:List D}{i:Int}{d:D}{Q:D->Prop}(hS:S[k]?=some (.lst ds))(h:k8 ds i=some d)(q:Q d):Op (aQ S (.ref k) (.int i)) Q:=⟨_,by simp only[aQ,hS];exact h,q⟩
def bS{ds:List D}{Q:List D×Tag->Prop}(q:Q (ds,.tu)):Op (uf S (.tup ds)) Q:=⟨_,rfl,q⟩
def b9{k:Nat}{ds:List D}{Q:List D×Tag->Prop}(hS:S[k]?=some (.lst ds))(q:Q (ds,.st k)):Op (uf S (.ref k)) Q:=⟨_,by simp only[uf,hS],q⟩
def LP{α:Type}{o:Option α}{d:α}{Q:α->Prop}(h:o=some d)(q:Q d):Op o Q:=⟨d,h,q⟩
end
def aV{b:Bool}{p q:Prop}(h1:b=true->p)(h2:b=false->q):if b=true then p else q:=by
 cases b with
 |true=>exact h1 rfl
 |false=>exact h2 rfl
end DL
local macro_rules|`(tactic|symm)=>`(tactic|repeat(first|(with_reducible first|refine DL.bV ?_|refine DL.eY ?_|refine DL.qE ?_|refine DL.MA ?_|refine DL.Cu ?_|refine DL.ND ?_|refine DL.jb ?_|refine DL.cu ?_|refine DL.Nz ?_|refine DL.Br ?_|refine DL.KI ?_|refine DL.Jm ?_|refine DL.Mf ?_|refine DL.Nk ?_|refine DL.Mo ?_|refine DL.LV ?_|refine DL.M0 ?_|refine DL.qT ?_|refine DL.oU ?_|refine DL.Mh ?_|refine DL.Ki ?_|refine DL.KD ?_|refine DL.C6 ?_|refine DL.ML ?_|refine DL.Mx ?_|refine DL.fJ ?_|refine DL.vM ?_|refine DL.BD ?_|refine DL.uI ?_|refine DL.KS ?_|refine DL.Nv ?_|refine DL.t8 ?_|refine DL.a_ ?_|refine DL.NG ?_|refine DL.II ?_|refine DL.u5 ?_|refine DL.Nl ?_|refine DL.JI ?_|refine DL.bS ?_)|((with_reducible refine DL.fG (d := ?_) ?_ ?_); rotate_left; rfl)|dsimp only))
local macro_rules|`(tactic|apply $e)=>`(tactic|(refine $e;symm))
namespace W28
open PySem PySem.Spec L2 DL
def pA(a b c:Int):O:=.lst [.int a,.int b,.int c]
def C8{S:aH}{k:Nat}{a b c0 m:Int}{Q:Res->aH->Prop}(hS:S[k]?=some (pA a b c0))(m0:0<m)(m1:m<1000000)
  (h:∀(d a' b' c':Int),0<=d->d<m->Q (.d (.int d)) (S.set k (pA a' b' c'))):Fn aI [.ref k,.int m] S Q:=by
 have hk:k<S.length:=(gQs.mp hS).1
 have tk:∀(o:O),(S.set k o).take S.length=S.set k o:=fun o=>by rw[List.take_of_length_le];simp
 refine cg ?_
 unfold uE
 symm
 refine eU hS rfl ?_
 symm
 refine aV (fun c=> ?_) (fun c=> ?_)
 ·symm
  refine eU hS rfl ?_
  symm
  refine t9 m0 ?_
  symm
  refine eU hS rfl ?_
  symm
  refine ES ⟨m0,by omega⟩ ?_
  symm
  refine⟨_,_,_,_,rfl,rfl,hS,rfl,?_⟩
  symm
  refine iO (vJ (by rfl)) (tk _) (fun _ z=>by cases z) rfl ?_
  exact h _ _ _ _ (Int.emod_nonneg _ (by omega)) (Int.emod_lt_of_pos _ m0)
 ·symm
  refine⟨_,_,_,_,rfl,rfl,hS,by decide,rfl,?_⟩
  symm
  refine⟨_,_,_,rfl,hS,rfl,?_⟩
  have s1:∀o:O,(S.set k o)[k]?=some o:=fun o=>by rw[Qyq hk]
  symm
  refine eU (s1 _) rfl ?_
  symm
  refine vW (.inr ⟨by decide,by decide⟩) ?_
  symm
  refine eU (s1 _) rfl ?_
  refine vW (.inl ⟨by decide,by decide⟩) ?_
  symm
  refine t9 (by decide) ?_
  generalize hmx:(b*69069+9973*_+5)%2305843009213693921=mx
  have b0:0<=mx:=by rw[←hmx];exact Int.emod_nonneg _ (by decide)
  have b1:mx<2305843009213693921:=by rw[←hmx];exact Int.emod_lt_of_pos _ (by decide)
  symm
  refine t9 (by decide) ?_
  symm
  refine eU (s1 _) rfl ?_
  refine vW (.inl ⟨by decide,by decide⟩) ?_
  symm
  refine vW (.inl ⟨by omega,by omega⟩) ?_
  symm
  refine t9 (by decide) ?_
  symm
  refine⟨_,_,_,_,rfl,rfl,s1 _,rfl,?_⟩
  symm
  refine eU (by rw[List.set_set];exact s1 _) rfl ?_
  symm
  refine ES ⟨by decide,by decide⟩ ?_
  symm
  refine t9 m0 ?_
  symm
  rw[List.set_set]
  refine iO (vJ (by rfl)) (tk _) (fun _ z=>by cases z) rfl ?_
  exact h _ _ _ _ (Int.emod_nonneg _ (by omega)) (Int.emod_lt_of_pos _ m0)
structure Ex(k:Nat)(S S':aH):Prop where
 len:S.length<=S'.length
 keep:∀(j:Nat) (o:O),j≠k->S[j]?=some o->S'[j]?=some o
 pot:∃a b c,S'[k]?=some (pA a b c)
def Ex.refl{k:Nat}{S:aH}{a b c:Int}(h:S[k]?=some (pA a b c)):Ex k S S:=⟨Qmq _,fun _ _ _ h=>h,_,_,_,h⟩
def Ex.trans{k:Nat}{S S1 S2:aH}(x:Ex k S S1)(y:Ex k S1 S2):Ex k S S2:=⟨QAq x.len y.len,fun j o n h=>y.keep j o n (x.keep j o n h),y.pot⟩
def Ex.set{k:Nat}{S S1:aH}{a b c:Int}(x:Ex k S S1):Ex k S (S1.set k (pA a b c)):=by
 obtain⟨_,_,_,h⟩:=x.pot
 refine⟨by simpa using x.len,fun j o n h=> ?_,a,b,c,Qyq (gQs.mp h).1⟩
 rw[QKq (Ne.symm n)]
 exact x.keep j o n h
def Ex.app{k:Nat}{S S1 G:aH}(x:Ex k S S1):Ex k S (S1++G):=by
 obtain⟨a,b,c,h⟩:=x.pot
 refine⟨by rw[lQa];have:=x.len;omega,fun j o n h=> ?_,a,b,c,?_⟩
 ·have:=x.keep j o n h
  rw[QHq (gQs.mp this).1]
  exact this
 ·rw[QHq (gQs.mp h).1]
  exact h
def Ex.put{k r:Nat}{S S1:aH}{o:O}(x:Ex k S S1)(hr:S.length<=r)(hk:k<S.length):Ex k S (S1.set r o):=by
 obtain⟨a,b,c,h⟩:=x.pot
 refine⟨by simpa using x.len,fun j o' n h=> ?_,a,b,c,?_⟩
 ·have hj:=(gQs.mp h).1
  rw[QKq (by omega)]
  exact x.keep j o' n h
 ·rw[QKq (by omega)]
  exact h
def Ex.lt{k:Nat}{S S1:aH}(x:Ex k S S1):k<S1.length:=by
 obtain⟨a,b,c,h⟩:=x.pot
 exact(gQs.mp h).1
def bh{S G:aH}{j:Nat}{o:O}(h:S[j]?=some o):(S++G)[j]?=some o:=by
 rw[QHq (gQs.mp h).1]
 exact h
def aP{S:aH}{o:O}:(S++ [o])[S.length]?=some o:=by simp
def fL{S:aH}{k j:Nat}{o o':O}(n:j≠k)(h:S[j]?=some o):(S.set k o')[j]?=some o:=by
 rw[QKq (Ne.symm n)]
 exact h
def da{S:aH}{j:Nat}{o o':O}(h:S[j]?=some o):(S.set j o')[j]?=some o':=Qyq (gQs.mp h).1
def Ex.clean{k:Nat}{S S':aH}(x:Ex k S S')(hk:k<S.length):ou S S'/\∃a b c,S'.take S.length=S.set k (pA a b c):=by
 obtain⟨a,b,c,h⟩:=x.pot
 have key:∀j,j<S.length->S'[j]?=(S.set k (pA a b c))[j]? :=fun j hj=>by
  by_cases e:j=k
  ·subst e
   rw[h,Qyq hj]
  ·rw[QKq (Ne.symm e),x.keep j _ e (gQe hj),gQe hj]
 refine⟨⟨x.len,fun j o hj e=> ?_⟩,a,b,c,?_⟩
 ·by_cases e':j=k
  ·subst e'
   rw[h] at e
   cases e
   exact .inr rfl
  ·rw[x.keep j _ e' (gQe hj)] at e
   rw[gQe hj]
   exact .inl e
 ·apply List.ext_getElem?
  intro j
  by_cases hj:j<S.length
  ·rw[List.getElem?_take_of_lt hj]
   exact key j hj
  ·rw[List.getElem?_eq_none (by rw[Qxq];omega),List.getElem?_eq_none (by simp;omega)]
def lT{k:Nat}{S S':aH}{d:D}{Q:Res->aH->Prop}(x:Ex k S S')(hk:k<S.length)(hd:∀k,d≠.ref k)(hl:cp S.length d=true)(q:∀a b c,Q (.d d) (S.set k (pA a b c))):Op (settle S d S') fun p=>Q p.1 p.2:=by
 obtain⟨hc,a,b,c,ht⟩:=x.clean hk
 exact iO hc ht hd hl (q a b c)
def IU{k:Nat}{S S':aH}{ds:List D}{Q:Res->aH->Prop}(x:Ex k S S')(hk:k<S.length)(hl:cc S.length ds=true)(q:∀a b c,Q (.l ds) (S.set k (pA a b c))):Op (dF S ds S') fun p=>Q p.1 p.2:=by
 obtain⟨hc,a,b,c,ht⟩:=x.clean hk
 exact n_ hc ht hl (q a b c)
def bR{S S0:aH}{k:Nat}{m:Int}{Q:Res->aH->Prop}(x:Ex k S0 S)(m0:0<m)(m1:m<1000000)
  (h:∀(d:Nat) (S':aH),(d:Int)<m->Ex k S0 S'->Ex k S S'->S'.length=S.length->Q (.d (.int d)) S'):Fn aI [.ref k,.int m] S Q:=by
 obtain⟨a,b,c,hS⟩:=x.pot
 refine C8 hS m0 m1 fun d a' b' c' h0 h1=> ?_
 obtain⟨n,rfl⟩:∃n:Nat,d=n:=⟨d.toNat,by omega⟩
 exact h n _ h1 x.set (Ex.refl hS).set (by simp)
def a8{α:Type}{xs:List α}{j:Nat}{x:α}(h:xs[j]?=some x):k8 xs (j:Int)=some x:=by
 have hj:=(gQs.mp h).1
 unfold k8 Ek
 rw[Qhq (by omega),Qhq (by omega)]
 simpa using h
def fB{S S0:aH}{k i:Nat}{xs:List D}{Q:Res->aH->Prop}(x:Ex k S0 S)(hi:i≠k)(hS:S[i]?=some (.lst xs))(h0:0<xs.length)(h1:xs.length<1000)(hl:∀d∈xs,(∀k,d≠.ref k)/\cp 0 d=true)
  (hlow:∀d∈xs,cp S.length d=true)
  (h:∀(d:D) (S':aH),d∈xs->Ex k S0 S'->Ex k S S'->S'.length=S.length->Q (.d d) S'):Fn bN [.ref k,.ref i] S Q:=by
 have y:Ex k S S:=by obtain⟨a,b,c,hh⟩:=x.pot;exact Ex.refl hh
 refine cg ?_
 unfold tN
 symm
 apply b9 hS ?_
 refine bR y (by show(0:Int)<xs.length;omega) (by show(xs.length:Int)<1000000;omega) fun d S' hd e1 e2 hl2=> ?_
 dsimp only
 have hd':d<xs.length:=by have:(d:Int)<(xs.length:Int):=hd;omega
 refine eU (e1.keep _ _ hi hS) (a8 (gQe hd')) ?_
 have hm:=List.getElem_mem hd'
 refine lT e1 x.lt (hl _ hm).1 (hlow _ hm) fun a b c=> ?_
 exact h _ _ hm x.set y.set (by simp)
end W28
namespace DL
open PySem PySem.Spec L2
mutual
theorem dH{m:Nat}:∀{d:D},cp 0 d=true->cp m d=true
 |.non,_=>rfl
 |.bl _,_=>rfl
 |.int _,_=>rfl
 |.str _,_=>rfl
 |.tup ds,h=>by simp only[cp] at h⊢;exact j9 h
 |.ref k,h=>by simp[cp] at h
 |.fn _,_=>rfl
theorem j9{m:Nat}:∀{ds:List D},cc 0 ds=true->cc m ds=true
 | [],_=>rfl
 | d::ds,h=>by
   simp only[cc,QCq] at h⊢
   exact⟨dH h.1,j9 h.2⟩
end
theorem sf{m:Nat}:∀{ds:List D},(∀d∈ds,cp m d=true)->cc m ds=true
 | [],_=>rfl
 | d::ds,h=>by
   simp only[cc,QCq]
   exact⟨h d (QBq ..),sf fun e he=>h e (Qpq _ he)⟩
def bp{α:Type}{m:Nat}{f:α->D}{l:List α}(h:∀a∈l,cp m (f a)=true):cc m (l.map f)=true:=sf fun d hd=>by
 obtain⟨a,ha,rfl⟩:=Qkq.mp hd
 exact h a ha
theorem wF:∀ss:List Str,wR (ss.map D.str)=some ss
 | []=>rfl
 |s::ss=>by simp only[QDq,wR];rw[wF ss];rfl
def Je{Γ:de}{S:aH}{f:eF}{Q:List D->aH->Prop}(h:E f Γ S fun p S1=>p.2.isL=true/\∃ss:List Str,p.1=ss.map D.str/\ss.length<64/\Q ((qj ss).map D.str) S1):E (B3 f) Γ S Q:=by
 obtain⟨p,S1,e1,l,ss,h1,h2,q⟩:=h
 exact⟨_,S1,by unfold B3;rw[e1];simp only[Qbq];rw[Qhq l,h1,wF];simp only[Qbq];rw[Qhq h2],q⟩
end DL
namespace W28
open PySem PySem.Spec L2 DL
def six:List Str:= ["a","b","c","d","e","zz"]
theorem pM{α β:Type}(g:α->β):∀(l:List α) (k:Nat),(l.map g).eraseIdx k=(l.eraseIdx k).map g
 | [],_=>rfl
 |_::_,0=>rfl
 |x::l,k+1=>congrArg (g x::·) (pM g l k)
def zR{α:Type}{acc left all:List α}{j:Nat}(hj:j<left.length)(h:(acc++left).Perm all):((acc++ [left[j]])++left.eraseIdx j).Perm all:=by
 refine List.Perm.trans ?_ h
 rw[Qvq]
 refine List.Perm.append_left acc ?_
 show(left[j]::left.eraseIdx j).Perm left
 rw[List.eraseIdx_eq_take_drop_succ]
 have e:left=left.take j++left[j]::left.drop (j+1):=by rw[←QWq hj,List.take_append_drop]
 refine List.Perm.trans ?_ (List.Perm.of_eq e.symm)
 exact List.perm_middle.symm
def IC{n j:Nat}(h:j<n)(h2:n<1000):seqIndex? (j:Int) n=some j:=(xW (by unfold Ek;rw[Qhq (by omega),Qhq (by omega)];simp)).1
def iU{S S0:aH}{k:Nat}{stem:Str}{many:Int}{Q:Res->aH->Prop}(x:Ex k S0 S)(hm:0<=many)(hm6:many<=6)(hst:stem.length<=1)
  (h:∀(ws:List Str) (S':aH),(∃l,(ws++l).Perm (six.map (stem++·)))->(ws.length:Int)=many->Ex k S0 S'->Ex k S S'->S'.length=S.length->Q (.l (ws.map D.str)) S'):Fn dq [.ref k,.str stem,.int many] S Q:=by
 have y:Ex k S S:=by obtain⟨a,b,c,hh⟩:=x.pot;exact Ex.refl hh
 refine cg ?_
 unfold qY
 symm
 apply lP ?_
 refine⟨by decide,⟨fun n Γ' S' acc=>Γ'= [Γ'.getD 0 none,some (.str stem)]/\S'=S/\acc=((six.take n).map (stem++·)).map D.str,⟨rfl,rfl,rfl⟩,fun n Γ' S' acc h=>trivial,fun n d Γ' S' acc hd ⟨hΓ,hS,hacc⟩=> ?_,fun Γ' S' acc ⟨_,hS,hacc⟩=> ?_⟩⟩
 ·have hS:=hS.symm
  subst hS hacc
  obtain⟨o,rfl⟩:∃o,Γ'= [o,some (.str stem)]:=⟨_,hΓ⟩
  have hd':∃z,six[n]?=some z/\d=.str z:=by
   rcases n with _|_|_|_|_|_|n <;>first|(cases hd;exact⟨_,rfl,rfl⟩)|(simp at hd)
  obtain⟨z,hz,rfl⟩:=hd'
  have hzl:z.length<=2:=by
   have:=mQg hz
   simp only[six,Qsq,QXq,or_false] at this
   rcases this with rfl|rfl|rfl|rfl|rfl|rfl <;>decide
  symm
  rw[Qhq rfl]
  symm
  refine Jt (QAq (show stem.length+z.length<=3 by omega) (by decide)) ?_
  have hn:n<6:=(gQs.mp hz).1
  refine⟨?_,rfl,rfl,?_⟩
  ·simp only[lQm,Qxq]
   exact Nat.lt_of_le_of_lt (Nat.min_le_left _ _) (Nat.lt_trans hn (by decide))
  ·rw[QYq,hz]
   simp
 ·have hS:=hS.symm
  subst hS hacc
  symm
  apply Je ?_
  apply lP ?_
  refine⟨many,rfl,⟨by omega,by omega⟩,fun n Γ' S2 acc=>∃(ac lf:List Str),Γ'= [Γ'.getD 0 none,some (.ref k),some (.ref S.length)]/\Ex k S S2/\S2.length=S.length+1/\S2[S.length]?=some (.lst (lf.map D.str))/\acc=ac.map D.str/\ac.length=n/\(ac++lf).Perm (six.map (stem++·)),?_,fun _ _ _ _ _=>trivial,?_,?_⟩
  ·refine⟨[],six.map (stem++·),rfl,y.app,by simp,?_,rfl,rfl,List.Perm.refl _⟩
   exact aP
  ·rintro n d Γ' S2 acc hd ⟨ac,lf,hΓ,e2,hl2,hr,rfl,hn,hp⟩
   obtain⟨o,rfl⟩:∃o,Γ'= [o,some (.ref k),some (.ref S.length)]:=⟨_,hΓ⟩
   have hlen:=hp.length_eq
   simp only[lQa,lQm] at hlen
   have h6:six.length=6:=rfl
   have hn6:n<6:=by
    have:=(gQs.mp hd).1
    simp only[jR,lQm,QVq] at this
    omega
   have hlf:0<lf.length:=by omega
   symm
   rw[Qhq rfl]
   apply k_ ?_
   apply⟨_,_,rfl,hr,?_⟩
   apply b9 hr ?_
   refine bR e2 (by simp only[lQm];omega) (by simp only[lQm];omega) fun j S3 hj e3 e3' hl3=> ?_
   dsimp only
   symm
   have hj':j<lf.length:=by simpa using hj
   have hne:S.length≠k:=by have:=x.lt;omega
   have hr3:=e3'.keep _ _ hne hr
   refine⟨_,hr3,?_⟩
   refine LP (d:=((lf.map D.str).eraseIdx j,D.str lf[j])) ?_ ?_
   ·simp only[nz]
    rw[Qhq ⟨by omega,by omega⟩,lQm,IC hj' (by omega)]
    simp[gQe hj']
   ·refine⟨?_,ac++ [lf[j]],lf.eraseIdx j,rfl,e3.put (Qmq _) x.lt,by simp[hl3,hl2],?_,by simp,by simp[hn],zR hj' hp⟩
    ·simp only[lQm]
     exact Nat.lt_trans (show ac.length<6 by omega) (by decide)
    ·rw[da hr3,pM]
  ·rintro Γ' S2 acc ⟨ac,lf,hΓ,e2,hl2,hr,rfl,hn,hp⟩
   have hlen:=hp.length_eq
   simp only[lQa,lQm] at hlen
   have h6:six.length=6:=rfl
   refine⟨rfl,ac,rfl,by omega,?_⟩
   refine IU e2 x.lt (bp fun _ _=>rfl) fun a b c=> ?_
   refine h _ _ ⟨lf,(QJq lf (jy ac)).trans hp⟩ ?_ x.set y.set (by simp)
   rw[(jy ac).length_eq,hn]
   simp only[jR,lQm,QVq]
   omega
end W28
namespace DL
open PySem PySem.Spec L2
def zK{Γ:de}{S:aH}{f g:eF}{Q:List D->aH->Prop}(h:E f Γ S fun p S1=>E g Γ S1 fun r S2=>(p.2.isM=true/\r.2.isM=true/\p.2.stays S2 p.1/\p.1.length+r.1.length<=sizeLine)/\Q (p.1++r.1) S2):E (AO f g) Γ S Q:=by
 obtain⟨p,S1,e1,r,S2,e2,l,q⟩:=h
 exact⟨_,S2,by unfold AO;rw[e1];simp only[Qbq];rw[e2];simp only[Qbq];rw[Qhq l],q⟩
def er{S:aH}{i j:Int}{Q:D->Prop}(q:Q (.bl (decide (i=j)))):Op (fm false S (.int i) (.int j)) Q:=⟨_,by simp[fm,sL,yL],q⟩
def jq{S:aH}{i j:Str}{Q:D->Prop}(q:Q (.bl (decide (i=j)))):Op (fm false S (.str i) (.str j)) Q:=⟨_,by simp[fm,sL,yL],q⟩
def eK{Γ:de}{S:aH}{n:Nat}{g:rE}{ds:List D}{Q:de->aH->Prop}(hn:ds.length=n)(h:Ms g ds Γ S Q):Tg (iA (nG n g)) (.tup ds) Γ S Q:=by
 obtain⟨Γ',S',e,q⟩:=h
 exact⟨Γ',S',by show nG n g ds Γ S=_;unfold nG;rw[Qhq hn];exact e,q⟩
def bu{Γ:de}{S:aH}{Q:de->aH->Prop}(q:Q Γ S):Ms dr [] Γ S Q:=⟨_,_,rfl,q⟩
def ax{Γ:de}{S:aH}{f:om}{g:rE}{d:D}{ds:List D}{Q:de->aH->Prop}(h:Tg f d Γ S fun Γ1 S1=>Ms g ds Γ1 S1 Q):Ms (aJ f g) (d::ds) Γ S Q:=by
 obtain⟨Γ1,S1,e1,Γ2,S2,e2,q⟩:=h
 exact⟨Γ2,S2,by show(f d Γ S).bind _=_;rw[e1];exact e2,q⟩
end DL
namespace W28
open PySem PySem.Spec L2 DL
def ops:List Str:= ["plus","minus","less","same","both"]
inductive Tr where
 |num (n:Nat)|word (x:Str)|waits (b:Str)|no (t:Tr)|two (o:Str) (a b:Tr)
noncomputable def Tr.d:Tr->D
 |.num n=>.int n
 |.word x=>.str x
 |.waits b=>.tup [.str "waits",.str b]
 |.no t=>.tup [.str "not",t.d]
 |.two o a b=>.tup [.str o,a.d,b.d]
def Tr.Ok(ws bs:List Str):Tr->Prop
 |.num n=>n<=9
 |.word x=>x∈ws
 |.waits b=>b∈bs
 |.no t=>t.Ok ws bs
 |.two o a b=>o∈ops/\a.Ok ws bs/\b.Ok ws bs
def Tr.dep:Tr->Nat
 |.num _=>1
 |.word _=>1
 |.waits _=>1
 |.no t=>t.dep+1
 |.two _ a b=>max a.dep b.dep+1
theorem Tr.low:∀t:Tr,cp 0 t.d=true
 |.num _=>rfl
 |.word _=>rfl
 |.waits _=>rfl
 |.no t=>by simp only[Tr.d,cp,cc];rw[t.low];rfl
 |.two _ a b=>by simp only[Tr.d,cp,cc];rw[a.low,b.low];rfl
def Tr.noref(t:Tr):∀k,t.d≠.ref k:=by
 intro k
 cases t <;>simp[Tr.d]
def eI{ws:List Str}:∀d∈ws.map D.str,(∀k,d≠.ref k)/\cp 0 d=true:=fun d hd=>by
 obtain⟨a,_,rfl⟩:=Qkq.mp hd
 exact⟨fun k z=>(nomatch z),rfl⟩
def gJ{ws:List Str}{m:Nat}:∀d∈ws.map D.str,cp m d=true:=fun d hd=>by
 obtain⟨a,_,rfl⟩:=Qkq.mp hd
 rfl
def J_{n:Nat}(h:(n:Int)<5):∃o,o∈ops/\k8 ([.str "plus",.str "minus",.str "less",.str "same",.str "both"]:List D) (n:Int)=some (.str o):=by
 rcases n with _|_|_|_|_|n
 ·exact⟨"plus",by simp[ops],rfl⟩
 ·exact⟨"minus",by simp[ops],rfl⟩
 ·exact⟨"less",by simp[ops],rfl⟩
 ·exact⟨"same",by simp[ops],rfl⟩
 ·exact⟨"both",by simp[ops],rfl⟩
 ·omega
theorem jK:∀(n:Nat) {S S0:aH} {k i j:Nat} {ws bs:List Str} {deep:Nat} {Q:Res->aH->Prop} (x:Ex k S0 S) (hi:i≠k) (hj:j≠k) (hw:S[i]?=some (.lst (ws.map D.str))) (hb:S[j]?=some (.lst (bs.map D.str))) (lw:ws.length<1000) (lb:bs.length<1000) (hn:deep<n)
  (h:∀(t:Tr) (S':aH),t.Ok ws bs->t.dep<=deep+1->Ex k S0 S'->Ex k S S'->S'.length=S.length->Q (.d t.d) S'),Fn (bE n) [.ref k,.ref i,.ref j,.int deep] S Q
 |0,_,_,_,_,_,_,_,_,_,_,_,_,_,_,_,_,hn,_=>absurd hn (Nat.not_lt_zero _)
 | n+1,S,S0,k,i,j,ws,bs,deep,Q,x,hi,hj,hw,hb,lw,lb,hn,h=>by
   have y:Ex k S S:=by obtain⟨a,b,c,hh⟩:=x.pot;exact Ex.refl hh
   have fin:∀(t:Tr) (S':aH),t.Ok ws bs->t.dep<=deep+1->Ex k S S'->Op (settle S t.d S') fun p=>Q p.1 p.2:=fun t S' h1 h2 e=>lT e x.lt t.noref (dH t.low) fun a b c=>h _ _ h1 h2 x.set y.set (by simp)
   refine cg ?_
   unfold wo
   symm
   apply bR y (by decide) (by decide) fun way S1 hway e1 _ l1=> ?_
   have hw1:=e1.keep _ _ hi hw
   have hb1:=e1.keep _ _ hj hb
   have bare:∀S2,Ex k S S2->T (aG (eL (gB (aK (eB (aX (ak 1)))) (aK (aC IT (ay aI (aj (ak 0) (aj (cF (.int 3)) au))) (cF (.int 0))))) (cA (ay bN (aj (ak 0) (aj (ak 1) au)))) fR)
     (cA (ay aI (aj (ak 0) (aj (aC aQ (cO (bP (aj (cF (.int 3)) (aj (cF (.int 10)) au)))) (yP intOfD (aj (aC (fm false) (ay aI (aj (ak 0) (aj (cF (.int 5)) au))) (cF (.int 0))) au))) au)))))
     [some (.ref k),some (.ref i),some (.ref j),some (.int deep),some (.int way),none] S2 fun o=>match o with|.rt d S'=>Op (settle S d S') fun p=>Q p.1 p.2|_=>False:=by
     intro S2 e2
     have hw2:=e2.keep _ _ hi hw
     have plain:∀S3,Ex k S S3->T (cA (ay aI (aj (ak 0) (aj (aC aQ (cO (bP (aj (cF (.int 3)) (aj (cF (.int 10)) au)))) (yP intOfD (aj (aC (fm false) (ay aI (aj (ak 0) (aj (cF (.int 5)) au))) (cF (.int 0))) au))) au))))
       [some (.ref k),some (.ref i),some (.ref j),some (.int deep),some (.int way),none] S3 fun o=>match o with|.rt d S'=>Op (settle S d S') fun p=>Q p.1 p.2|_=>False:=by
       intro S3 e3
       symm
       apply⟨by decide,?_⟩
       apply bR (e3.app (G:= [O.lst [D.int 3,D.int 10]])) (by decide) (by decide) fun d S4 hd e4 e4' l4=> ?_
       apply er ?_
       have hnew:S4[S3.length]?=some (.lst [.int 3,.int 10]):=e4'.keep _ _ (by have:=e3.lt;omega) aP
       have hm:∃m:Int,(m=3\/m=10)/\Op (intOfD [D.bl (decide ((d:Int)=0))]) (fun z=>∃r,z=.int r/\k8 ([.int 3,.int 10]:List D) r=some (.int m)):=by
         by_cases c:(d:Int)=0
         · exact⟨10,.inr rfl,_,rfl,1,by rw[Qeq c];rfl,rfl⟩
         · exact⟨3,.inl rfl,_,rfl,0,by rw[Qdq c];rfl,rfl⟩
       obtain⟨m,hm,z,e5,r,rfl,e6⟩:=hm
       refine⟨_,e5,?_⟩
       apply eU hnew e6 ?_
       refine bR e4 (by omega) (by omega) fun v S5 hv e5 _ l5=> ?_
       dsimp only
       exact fin (.num v) _ (by show v<=9;omega) (by show 1<=deep+1;omega) e5
     symm
     refine b9 hw2 ?_
     refine⟨⟨rfl,hw2⟩,?_⟩
     dsimp only
     refine aV (fun c=> ?_) (fun c=> ?_)
     · symm
       apply bR e2 (by decide) (by decide) fun d S3 hd e3 _ l3=> ?_
       refine aV (fun c2=> ?_) (fun c2=> ?_)
       · symm
         have hne:0<(ws.map D.str).length:=by
           cases ws with
           |nil=>simp at c
           |cons a b=>simp
         refine fB e3 hi (e3.keep _ _ hi hw) hne (by simpa using lw) eI gJ fun v S4 hv e4 _ l4=> ?_
         obtain⟨z,hz,rfl⟩:=Qkq.mp hv
         exact fin (.word z) _ hz (by show 1<=deep+1;omega) e4
       · exact cu (plain S3 e3)
     · rw[Quq (by decide)]
       exact cu (plain S2 e2)
   have go:∀{R:Res->aH->Prop} {S2:aH},Ex k S S2->1<=deep->(∀(t:Tr) (S':aH),t.Ok ws bs->t.dep<=deep->Ex k S S'->R (.d t.d) S')->Fn (bE n) [.ref k,.ref i,.ref j,.int ((deep:Int)-1)] S2 R:=by
     intro R S2 e2 hd hR
     have e:((deep:Int)-1)=((deep-1:Nat):Int):=by omega
     rw[e]
     exact jK n e2 hi hj (e2.keep _ _ hi hw) (e2.keep _ _ hj hb) lw lb (by omega) fun t S' h1 h2 h3 _ _=>hR t S' h1 (by omega) h3
   have rest:∀S2,Ex k S S2->1<=deep->T (aG (eL (gB (aK (aC (fm false) (ak 4) (cF (.int 3)))) (aK (eB (aX (ak 2))))) (cA (bg (aj (cF (.str "waits")) (aj (ay bN (aj (ak 0) (aj (ak 2) au))) au)))) fR)
     (aG (eL (aK (aC (fm false) (ak 4) (cF (.int 4)))) (cA (bg (aj (cF (.str "not")) (aj (ay (bE n) (aj (ak 0) (aj (ak 1) (aj (ak 2) (aj (aC mN (ak 3) (cF (.int 1))) au))))) au)))) fR)
     (aG (bj 5 (aC aQ (cO (bP (aj (cF (.str "plus")) (aj (cF (.str "minus")) (aj (cF (.str "less")) (aj (cF (.str "same")) (aj (cF (.str "both")) au))))))) (ay aI (aj (ak 0) (aj (cF (.int 5)) au)))))
     (cA (bg (aj (ak 5) (aj (ay (bE n) (aj (ak 0) (aj (ak 1) (aj (ak 2) (aj (aC mN (ak 3) (cF (.int 1))) au))))) (aj (ay (bE n) (aj (ak 0) (aj (ak 1) (aj (ak 2) (aj (aC mN (ak 3) (cF (.int 1))) au))))) au))))))))
     [some (.ref k),some (.ref i),some (.ref j),some (.int deep),some (.int way),none] S2 fun o=>match o with|.rt d S'=>Op (settle S d S') fun p=>Q p.1 p.2|_=>False:=by
     intro S2 e2 hd1
     have hb2:=e2.keep _ _ hj hb
     have third:T (aG (bj 5 (aC aQ (cO (bP (aj (cF (.str "plus")) (aj (cF (.str "minus")) (aj (cF (.str "less")) (aj (cF (.str "same")) (aj (cF (.str "both")) au))))))) (ay aI (aj (ak 0) (aj (cF (.int 5)) au)))))
       (cA (bg (aj (ak 5) (aj (ay (bE n) (aj (ak 0) (aj (ak 1) (aj (ak 2) (aj (aC mN (ak 3) (cF (.int 1))) au))))) (aj (ay (bE n) (aj (ak 0) (aj (ak 1) (aj (ak 2) (aj (aC mN (ak 3) (cF (.int 1))) au))))) au))))))
       [some (.ref k),some (.ref i),some (.ref j),some (.int deep),some (.int way),none] S2 fun o=>match o with|.rt d S'=>Op (settle S d S') fun p=>Q p.1 p.2|_=>False:=by
       symm
       apply⟨by decide,?_⟩
       refine bR (e2.app (G:= [O.lst [.str "plus",.str "minus",.str "less",.str "same",.str "both"]])) (by decide) (by decide) fun d S4 hd e4 e4' l4=> ?_
       dsimp only
       obtain⟨o,ho,e5⟩:=J_ hd
       refine eU (e4'.keep _ _ (by have:=e2.lt;omega) aP) e5 ?_
       symm
       apply go e4 hd1 fun t1 S5 h1 h2 e5=> ?_
       apply go e5 hd1 fun t2 S6 h3 h4 e6=> ?_
       refine⟨by show 3<=_;decide,?_⟩
       exact fin (.two o t1 t2) _ ⟨ho,h1,h3⟩ (by simp only[Tr.dep];omega) e6
     have second:T (aG (eL (aK (aC (fm false) (ak 4) (cF (.int 4)))) (cA (bg (aj (cF (.str "not")) (aj (ay (bE n) (aj (ak 0) (aj (ak 1) (aj (ak 2) (aj (aC mN (ak 3) (cF (.int 1))) au))))) au)))) fR)
       (aG (bj 5 (aC aQ (cO (bP (aj (cF (.str "plus")) (aj (cF (.str "minus")) (aj (cF (.str "less")) (aj (cF (.str "same")) (aj (cF (.str "both")) au))))))) (ay aI (aj (ak 0) (aj (cF (.int 5)) au)))))
       (cA (bg (aj (ak 5) (aj (ay (bE n) (aj (ak 0) (aj (ak 1) (aj (ak 2) (aj (aC mN (ak 3) (cF (.int 1))) au))))) (aj (ay (bE n) (aj (ak 0) (aj (ak 1) (aj (ak 2) (aj (aC mN (ak 3) (cF (.int 1))) au))))) au)))))))
       [some (.ref k),some (.ref i),some (.ref j),some (.int deep),some (.int way),none] S2 fun o=>match o with|.rt d S'=>Op (settle S d S') fun p=>Q p.1 p.2|_=>False:=by
       symm
       refine er ?_
       dsimp only
       refine aV (fun c=> ?_) (fun c=> ?_)
       · symm
         apply go e2 hd1 fun t S5 h1 h2 e5=> ?_
         refine⟨by show 2<=_;decide,?_⟩
         exact fin (.no t) _ h1 (by simp only[Tr.dep];omega) e5
       · exact cu third
     symm
     refine er ?_
     dsimp only
     refine aV (fun c=> ?_) (fun c=> ?_)
     · symm
       refine b9 hb2 ?_
       refine⟨⟨rfl,hb2⟩,?_⟩
       dsimp only
       refine aV (fun c=> ?_) (fun c=> ?_)
       · symm
         have hne:0<(bs.map D.str).length:=by
           cases bs with
           |nil=>simp at c
           |cons a b=>simp
         refine fB e2 hj hb2 hne (by simpa using lb) eI gJ fun v S4 hv e4 _ l4=> ?_
         obtain⟨z,hz,rfl⟩:=Qkq.mp hv
         symm
         refine⟨by show 2<=_;decide,?_⟩
         exact fin (.waits z) _ hz (by show 1<=deep+1;omega) e4
       · exact cu second
     · rw[Quq (by decide)]
       exact cu second
   refine aV (fun c=> ?_) (fun c=> ?_)
   · rw[Qhq rfl]
     exact(bare S1 e1).mono fun o ho=>by
       cases o with
       |rt d S'=>exact ho
       |_=>exact ho.elim
   · symm
     refine aV (fun c2=> ?_) (fun c2=> ?_)
     · exact(bare S1 e1).mono fun o ho=>by
         cases o with
         |rt d S'=>exact ho
         |_=>exact ho.elim
     · have hd1:1<=deep:=by
         have:=of_decide_eq_false c
         omega
       refine cu ?_
       exact(rest S1 e1 hd1).mono fun o ho=>by
         cases o with
         |rt d S'=>exact ho
         |_=>exact ho.elim
inductive Rw where
 |put (x:Str) (t:Tr)|unl (t:Tr) (n:Nat)|go (n:Nat)|do_ (g:Option Str) (r d:Str) (t:Tr)|wait (b:Str) (t:Tr)|call (b:Str)|all (b:Str)|tell (t:Tr)
 |take (p:Str)|give (p:Str)|pass (p q:Str)|say (t:Tr)
def He:Option Str->D
 |none=>.non
 |some x=>.str x
noncomputable def Rw.d:Rw->D
 |.put x t=>.tup [.str "put",.str x,t.d]
 |.unl t n=>.tup [.str "unless",t.d,.int n]
 |.go n=>.tup [.str "go",.int n]
 |.do_ g r d t=>.tup [.str "do",He g,.str r,.str d,t.d]
 |.wait b t=>.tup [.str "wait",.str b,t.d]
 |.call b=>.tup [.str "call",.str b]
 |.all b=>.tup [.str "all",.str b]
 |.tell t=>.tup [.str "tell",t.d]
 |.take p=>.tup [.str "take",.str p]
 |.give p=>.tup [.str "give",.str p]
 |.pass p q=>.tup [.str "pass",.str p,.str q]
 |.say t=>.tup [.str "say",t.d]
structure Sc where
 own:Bool
 ws:List Str
 ps:List Str
 bs:List Str
 gs:List (Str×Str)
 ts:List Str
def F9(sc:Sc)(t:Tr):Prop:=t.Ok sc.ws sc.bs/\t.dep<=4
def Rw.Ok(sc:Sc)(n:Nat):Rw->Prop
 |.put x t=>x∈sc.ps/\F9 sc t
 |.unl t m=>F9 sc t/\m<=n
 |.go m=>m<=n
 |.do_ g r d t=>(∀x,g=some x->x∈sc.ps)/\(r,d)∈sc.gs/\F9 sc t
 |.wait b t=>sc.own=false/\b∈sc.bs/\F9 sc t
 |.call b=>sc.own=false/\b∈sc.bs
 |.all b=>sc.own=false/\b∈sc.bs
 |.tell t=>sc.own=false/\F9 sc t
 |.take p=>sc.own=true/\p∈sc.ts
 |.give p=>sc.own=true/\p∈sc.ts
 |.pass p q=>sc.own=true/\p∈sc.ts/\q∈sc.ts
 |.say t=>sc.own=true/\F9 sc t
def Rw.Ok.mono{sc:Sc}{n m:Nat}{r:Rw}(h:r.Ok sc n)(l:n<=m):r.Ok sc m:=by
 cases r with
 |unl t k=>exact⟨h.1,QAq h.2 l⟩
 |go k=>exact QAq h l
 |_=>exact h
theorem Rw.low(r:Rw):cp 0 r.d=true:=by
 cases r with
 |do_ g r d t=>cases g <;>simp only[Rw.d,cp,cc,He,t.low,Bool.and_true,Bool.true_and]
 |_=>simp only[Rw.d,cp,cc,Tr.low,Bool.and_true,Bool.true_and]
def uK(sc:Sc)(rs:List Rw):Prop:=∀r∈rs,r.Ok sc rs.length
def F7{S S0:aH}{k i j:Nat}{at_:Nat}{sc:Sc}{Q:Res->aH->Prop}(x:Ex k S0 S)(hi:i≠k)(hj:j≠k)(hw:S[i]?=some (.lst (sc.ws.map D.str)))(hb:S[j]?=some (.lst (sc.bs.map D.str)))(lw:sc.ws.length<1000)(lb:sc.bs.length<1000)(b0:0<sc.bs.length)(hg:(("given":Str))∈sc.ws)(ho:sc.own=false)
  (h:∀(rs:List Rw) (S':aH),(∀r∈rs,r.Ok sc (at_+rs.length))->1<=rs.length->rs.length<=3->Ex k S0 S'->Ex k S S'->S'.length=S.length->Q (.l (rs.map Rw.d)) S'):Fn ju [.ref k,.ref i,.ref j,.int at_] S Q:=by
 have y:Ex k S S:=by obtain⟨a,b,c,hh⟩:=x.pot;exact Ex.refl hh
 have fin:∀(rs:List Rw) (S':aH),(∀r∈rs,r.Ok sc (at_+rs.length))->1<=rs.length->rs.length<=3->Ex k S S'->Op (dF S (rs.map Rw.d) S') fun p=>Q p.1 p.2:=fun rs S' h1 h2 h2' e=>IU e x.lt (bp fun r _=>dH r.low) fun a b c=>h _ _ h1 h2 h2' x.set y.set (by simp)
 refine cg ?_
 unfold qQ
 symm
 apply jK 4 (deep:=1) y hi hj hw hb lw lb (by decide) fun t S1 h1 h2 e1 _ l1=> ?_
 refine⟨by show 3<=_;decide,?_⟩
 symm
 refine bR (e1.app (G:= [O.lst [.int 0,.str "given",t.d]])) (by decide) (by decide) fun d S2 hd e2 e2' l2=> ?_
 dsimp only
 have ht:∃t2:Tr,F9 sc t2/\k8 ([.int 0,.str "given",t.d]:List D) (d:Int)=some t2.d:=by
  rcases d with _|_|_|d
  ·exact⟨.num 0,⟨by show 0<=9;omega,by show 1<=4;omega⟩,rfl⟩
  ·exact⟨.word "given",⟨hg,by show 1<=4;omega⟩,rfl⟩
  ·exact⟨t,⟨h1,by omega⟩,rfl⟩
  ·omega
 obtain⟨t2,ht2,ha⟩:=ht
 refine eU (e2'.keep _ _ (by have:=e1.lt;omega) aP) ha ?_
 symm
 refine fB e2 hj (e2.keep _ _ hj hb) (by simpa using b0) (by simpa using lb) eI gJ fun v S3 hv e3 _ l3=> ?_
 obtain⟨z,hz,rfl⟩:=Qkq.mp hv
 symm
 refine⟨by show 3<=_;decide,?_⟩
 symm
 apply bR e3 (by decide) (by decide) fun way S4 hway e4 _ l4=> ?_
 refine er ?_
 dsimp only
 refine aV (fun c=> ?_) (fun c=> ?_)
 ·symm
  refine⟨by show 1<=_;decide,?_⟩
  refine fin [.wait z t2] _ (fun r hr=> ?_) (by simp) (by simp) e4
  rw[Qfq.mp hr]
  exact⟨ho,hz,ht2⟩
 ·symm
  apply jK 4 (deep:=2) e4 hi hj (e4.keep _ _ hi hw) (e4.keep _ _ hj hb) lw lb (by decide) fun t3 S5 h3 h4 e5 _ l5=> ?_
  refine⟨by show 2<=_;decide,?_⟩
  symm
  refine⟨by show 3<=_;decide,?_⟩
  symm
  refine⟨by show 2<=_;decide,?_⟩
  symm
  have hw3:∃g:Nat,(g=at_\/g=at_+3)/\k8 ([.int at_,.int ((at_:Int)+3)]:List D) ((way:Int)-1)=some (.int (g:Nat)):=by
   have:=of_decide_eq_false c
   rcases way with _|_|_|way
   ·exact absurd rfl this
   ·exact⟨at_,.inl rfl,rfl⟩
   ·exact⟨at_+3,.inr rfl,rfl⟩
   ·omega
  obtain⟨g,hg',hga⟩:=hw3
  apply eU aP hga ?_
  refine⟨by show 2<=_;decide,?_⟩
  symm
  refine⟨by show 3<=_;decide,?_⟩
  refine fin [.unl (.no t3) (at_+3),.wait z t2,.go g] _ (fun r hr=> ?_) (by simp) (by simp) e5.app
  simp only[Qsq,QXq,or_false] at hr
  have hl:([.unl (.no t3) (at_+3),.wait z t2,.go g]:List Rw).length=3:=rfl
  rcases hr with rfl|rfl|rfl
  ·exact⟨⟨h3,by show t3.dep+1<=4;omega⟩,by rw[hl];exact Qmq _⟩
  ·exact⟨ho,hz,ht2⟩
  ·show g<=at_+3
   omega
def dQ(g:Str×Str):D:=.tup [.str g.1,.str g.2]
def zU{gs:List (Str×Str)}:∀d∈gs.map dQ,(∀k,d≠.ref k)/\cp 0 d=true:=fun d hd=>by
 obtain⟨a,_,rfl⟩:=Qkq.mp hd
 exact⟨fun k z=>(nomatch z),rfl⟩
def D8{gs:List (Str×Str)}{m:Nat}:∀d∈gs.map dQ,cp m d=true:=fun d hd=>by
 obtain⟨a,_,rfl⟩:=Qkq.mp hd
 rfl
def IM{S S0:aH}{k g t i:Nat}{sc:Sc}{Q:Res->aH->Prop}{n:Nat}(x:Ex k S0 S)(hg:g≠k)(ht:t≠k)(hi:i≠k)(gg:S[g]?=some (.lst (sc.gs.map dQ)))(gt:S[t]?=some (.lst (sc.ps.map D.str)))(gw:S[i]?=some (.lst (sc.ws.map D.str)))
  (g0:0<sc.gs.length) (lg:sc.gs.length<1000) (lt:sc.ps.length<900) (lw:sc.ws.length<1000)
  (h:∀(r:Rw) (S':aH),r.Ok sc n->Ex k S0 S'->Ex k S S'->S'.length=S.length->Q (.d r.d) S'):Fn lJ [.ref k,.ref g,.ref t,.ref i] S Q:=by
 have y:Ex k S S:=by obtain⟨a,b,c,hh⟩:=x.pot;exact Ex.refl hh
 refine cg ?_
 unfold zw
 symm
 refine fB y hg gg (by simpa using g0) (by simpa using lg) zU D8 fun v S1 hv e1 _ l1=> ?_
 obtain⟨⟨rm,dd⟩,hm,rfl⟩:=Qkq.mp hv
 dsimp only
 apply eK rfl (ax (a_ (ax (a_ (bu ?_)))))
 apply zK ?_
 apply⟨by decide,?_⟩
 refine b9 (e1.keep _ _ ht gt) ?_
 refine⟨⟨rfl,rfl,trivial,by simp only[lQm,Qnq,QGq];exact QAq (show 0+1+sc.ps.length<=1000 by omega) (by decide)⟩,?_⟩
 symm
 have hnr:∀d∈([.non]++sc.ps.map D.str:List D),(∃o:Option Str,d=He o/\∀z,o=some z->z∈sc.ps):=fun d hd=>by
  rcases mQa.mp hd with hd|hd
  ·rw[Qfq.mp hd]
   exact⟨none,rfl,fun z hz=>by cases hz⟩
  ·obtain⟨a,ha,rfl⟩:=Qkq.mp hd
   exact⟨some a,rfl,fun z hz=>by cases hz;exact ha⟩
 have hnr2:∀(m:Nat),∀d∈([.non]++sc.ps.map D.str:List D),(∀k,d≠.ref k)/\cp m d=true:=fun m d hd=>by
  obtain⟨o,rfl,_⟩:=hnr d hd
  cases o <;>exact⟨fun k z=>(nomatch z),rfl⟩
 refine fB (i:=S1.length) (e1.app (G:= [O.lst ([.non]++sc.ps.map D.str)])) (by have:=e1.lt;omega) aP (by simp) (by simp;omega) (hnr2 0) (fun d hd=>(hnr2 _ d hd).2) fun v2 S2 hv2 e2 _ l2=> ?_
 obtain⟨o,rfl,ho⟩:=hnr v2 hv2
 symm
 apply⟨by decide,?_⟩
 refine jK 4 (deep:=1) (bs:= []) (e2.app (G:= [O.lst []])) hi (j:=S2.length) (by have:=e2.lt;omega) (bh (e2.keep _ _ hi gw)) aP lw (by decide) (by decide) fun t3 S3 h3 h4 e3 _ l3=> ?_
 symm
 refine⟨by show 5<=_;decide,?_⟩
 have hsub:t3.Ok sc.ws sc.bs:=by
  have gen:∀t:Tr,t.Ok sc.ws []->t.Ok sc.ws sc.bs:=by
   intro t
   induction t with
   |num n=>exact id
   |word x=>exact id
   |waits b=>intro z;exact absurd z (by simp[Tr.Ok])
   |no t ih=>exact ih
   |two o a b iha ihb=>exact fun z=>⟨z.1,iha z.2.1,ihb z.2.2⟩
  exact gen t3 h3
 refine lT (d:=(Rw.do_ o rm dd t3).d) e3 x.lt (fun k z=>(nomatch z)) (dH (Rw.low _)) fun a b c=> ?_
 exact h (.do_ o rm dd t3) _ ⟨ho,hm,hsub,by omega⟩ x.set y.set (by simp)
end W28
namespace DL
open PySem PySem.Spec L2
def wz{Γ:de}{S:aH}{f:bH}{g:eF}{Q:D->aH->Prop}(h:E f Γ S fun x S1=>∃k ds0,x=.ref k/\S1[k]?=some (.lst ds0)/\E g Γ S1 fun p S2=>∃ds,S2[k]?=some (.lst ds)/\(p.2.isM=true/\ds.length+p.1.length<=sizeLine)/\Q .non (S2.set k (.lst (ds++p.1)))):E (rR f g) Γ S Q:=by
 obtain⟨x,S1,e1,k,ds0,rfl,h1,p,S2,e2,ds,h2,h3,q⟩:=h
 exact⟨_,_,by unfold rR;rw[e1];simp only[Qbq,e2,h1,h2];rw[Qhq h3],q⟩
def Bd{Γ:de}{S:aH}{f g:bH}{Q:D->aH->Prop}(h:E f Γ S fun d S1=>∃k,d=.bl k/\if k=true then E g Γ S1 Q else Q (.bl false) S1):E (Ap f g) Γ S Q:=by
 obtain⟨d,S1,e1,k,rfl,q⟩:=h
 cases k with
 |true=>obtain⟨j,S2,e2,q⟩:=(q:E g Γ S1 Q);exact⟨j,S2,by unfold Ap;rw[e1];exact e2,q⟩
 |false=>exact⟨_,S1,by unfold Ap;rw[e1];rfl,q⟩
def fK{ds:List D}{y:D}{Q:List D×D->Prop}(h:ds.length<sizeLine)(q:Q (ds++ [y],.non)):Op (i8 ds [y]) Q:=⟨_,by simp only[i8];rw[Qhq h],q⟩
end DL
namespace W28
open PySem PySem.Spec L2 DL
def gE:List Str:= ["given"]
def sm{Γ:de}{S:aH}{i j l:Nat}{w m:Int}{ds:List D}{Q:Bool->aH->Prop}(hi:Γ[i]?=some (some (.int w)))(hj:Γ[j]?=some (some (.ref l)))(hS:S[l]?=some (.lst ds))(q:∀c,(c=true->0<ds.length)->Q c S):
  E (gB (aK (aC Dq (ak i) (cF (.int m)))) (aK (eB (aX (ak j))))) Γ S Q:=by
 refine uI (fJ (Br (fG hi (KI (JI ?_)))))
 refine aV (fun c=> ?_) fun c=>q false fun z=>(nomatch z)
 refine fJ (C6 (qT (fG hj (b9 hS ⟨⟨rfl,hS⟩,q _ fun z=> ?_⟩))))
 cases ds with
 |nil=>cases z
 |cons a b=>simp
def sy{Γ:de}{S:aH}{i j l:Nat}{w m:Int}{ds:List D}{Q:Bool->aH->Prop}(hi:Γ[i]?=some (some (.int w)))(hj:Γ[j]?=some (some (.ref l)))(hS:S[l]?=some (.lst ds))(q:∀c,(c=true->0<ds.length)->Q c S):
  E (gB (aK (aC (fm false) (ak i) (cF (.int m)))) (aK (eB (aX (ak j))))) Γ S Q:=by
 refine uI (fJ (Br (fG hi (KI (er ?_)))))
 refine aV (fun c=> ?_) fun c=>q false fun z=>(nomatch z)
 refine fJ (C6 (qT (fG hj (b9 hS ⟨⟨rfl,hS⟩,q _ fun z=> ?_⟩))))
 cases ds with
 |nil=>cases z
 |cons a b=>simp
def IQ{Γ:de}{S:aH}{i:Nat}{w m:Int}{Q:Bool->aH->Prop}(hi:Γ[i]?=some (some (.int w)))(q:∀c,Q c S):E (aK (aC (fm false) (ak i) (cF (.int m)))) Γ S Q:=fJ (Br (fG hi (KI (er (q _)))))
def GW{Γ:de}{S:aH}{i j:Nat}{m s:Str}{w n:Int}{Q:D->aH->Prop}(hi:Γ[i]?=some (some (.str m)))(hj:Γ[j]?=some (some (.int w)))(q:∀b:Nat,b<=1->Q (.int b) S):
  E (yP intOfD (aj (Ap (aC (fm false) (ak i) (cF (.str s))) (aC (fm false) (ak j) (cF (.int n)))) au)) Γ S Q:=by
 refine M0 (Jm (Bd (Br (fG hi (KI (jq ⟨_,rfl,?_⟩))))))
 have fin:∀b:Bool,E au Γ S fun ds S2=>Op (intOfD (.bl b::ds)) fun d=>Q d S2:=fun b=>Mf (by
  cases b with
  |true=>exact⟨_,rfl,q 1 (by omega)⟩
  |false=>exact⟨_,rfl,q 0 (by omega)⟩)
 refine aV (fun c=> ?_) (fun c=> ?_)
 ·exact Br (fG hj (KI (er (fin _))))
 ·exact fin false
def Hb{S S0:aH}{k t b g:Nat}{ah:Str}{things aa:List Str}{goals:List (Str×Str)}{Q:Res->aH->Prop}(x:Ex k S0 S)(nt:t≠k)(nb:b≠k)(ng:g≠k)(gt:S[t]?=some (.lst (things.map D.str)))(gb:S[b]?=some (.lst (aa.map D.str)))(gg:S[g]?=some (.lst (goals.map dQ)))
  (lt:things.length<500) (lb:aa.length<500) (lg:goals.length<500)
  (h:∀(rs:List Rw) (S':aH),uK ⟨false,things++gE,things,aa,goals,[]⟩ rs->0<rs.length->rs.length<=12->Ex k S0 S'->Ex k S S'->S'.length=S.length->Q (.d (.tup (rs.map Rw.d))) S'):
  Fn kJ [.ref k,.tup [.str ah,.ref t,.ref b],.ref g,.int 4] S Q:=by
 have y:Ex k S S:=by obtain⟨a,b,c,hh⟩:=x.pot;exact Ex.refl hh
 have kl:=x.lt
 have tl:=(gQs.mp gt).1
 have bl:=(gQs.mp gb).1
 have gl:=(gQs.mp gg).1
 generalize hsc:(⟨false,things++gE,things,aa,goals,[]⟩:Sc)=sc at h
 have so:sc.own=false:=by rw[←hsc]
 have sw:sc.ws=things++gE:=by rw[←hsc]
 have sp:sc.ps=things:=by rw[←hsc]
 have sb:sc.bs=aa:=by rw[←hsc]
 have sg:sc.gs=goals:=by rw[←hsc]
 refine cg ?_
 unfold uL
 symm
 apply eK rfl (ax (a_ (ax (a_ (ax (a_ (bu ?_)))))))
 apply zK ?_
 apply b9 gt ?_
 refine⟨by decide,?_⟩
 refine⟨⟨rfl,rfl,gt,by simp only[lQm,Qnq,QGq];exact QAq (show things.length+(0+1)<=1000 by omega) (by decide)⟩,?_⟩
 symm
 refine⟨by decide,?_⟩
 have ew:things.map D.str++ [D.str "given"]=sc.ws.map D.str:=by rw[sw];simp[gE]
 rw[ew]
 have e0:Ex k S (S++ [O.lst (sc.ws.map D.str)]++ [O.lst []]):=y.app.app
 generalize hr:S.length+1=r
 have hlen0:(S++ [O.lst (sc.ws.map D.str)]).length=r:=by simp[hr]
 rw[hlen0]
 have iw:(S++ [O.lst (sc.ws.map D.str)]++ [O.lst []])[S.length]?=some (.lst (sc.ws.map D.str)):=bh aP
 have ir:(S++ [O.lst (sc.ws.map D.str)]++ [O.lst []])[r]?=some (.lst []):=by rw[←hlen0];exact aP
 have il:(S++ [O.lst (sc.ws.map D.str)]++ [O.lst []]).length=r+1:=by simp[←hr]
 generalize (S++ [O.lst (sc.ws.map D.str)]++ [O.lst []])=S1 at e0 iw ir il⊢
 apply bV (hX ?_)
 apply bR e0 (by decide) (by decide) fun many S2 hmany e2 e2' l2=> ?_
 refine⟨_,rfl,⟨by omega,by omega⟩,?_⟩
 have nr:r≠k:=by omega
 have nw:S.length≠k:=by omega
 let Inv:Nat->de->aH->Prop:=fun n Γ' S'=>∃(o9 o10 o11:Option D) (rs:List Rw),Γ'= [some (.ref k),some (.tup [.str ah,.ref t,.ref b]),some (.ref g),some (.int 4),some (.str ah),some (.ref t),some (.ref b),some (.ref S.length),some (.ref r),o9,o10,o11]∧
  Ex k S S'/\S'[S.length]?=some (.lst (sc.ws.map D.str))/\S'[r]?=some (.lst (rs.map Rw.d))/\rs.length<=3*n/\n<=rs.length/\n<=4/\∀q∈rs,q.Ok sc rs.length
 refine⟨Inv,⟨_,_,_,[],rfl,e2,e2'.keep _ _ nw iw,e2'.keep _ _ nr ir,by simp,by simp,by omega,by simp⟩,fun _ _ _ _=>trivial,?_,?_⟩
 ·rintro n d Γ' S3 hd ⟨o9,o10,o11,rs,rfl,e3,hw3,hr3,hl1,hl2,hn4,hok⟩
  have hn4':n<4:=by
   have:=(gQs.mp hd).1
   simp only[jR,lQm,QVq] at this
   omega
  apply a_ ?_
  refine bR e3 (by decide) (by decide) fun way S4 hway e4 e4' l4=> ?_
  dsimp only
  have hw4:=e4'.keep _ _ nw hw3
  have hr4:=e4'.keep _ _ nr hr3
  have gt4:=e4.keep _ _ nt gt
  have gb4:=e4.keep _ _ nb gb
  have gg4:=e4.keep _ _ ng gg
  rw[←sp] at gt4
  rw[←sb] at gb4
  rw[←sg] at gg4
  have more:∀(ms:List Rw) (o11':Option D) (S5:aH),Ex k S S5->S5[S.length]?=some (.lst (sc.ws.map D.str))->S5[r]?=some (.lst (rs.map Rw.d++ms.map Rw.d))->1<=ms.length->ms.length<=3->(∀q∈ms,q.Ok sc (rs.length+ms.length))→
    Inv (n+1) [some (.ref k),some (.tup [.str ah,.ref t,.ref b]),some (.ref g),some (.int 4),some (.str ah),some (.ref t),some (.ref b),some (.ref S.length),some (.ref r),some d,some (.int way),o11'] S5:=by
   intro ms o11' S5 e5 h1 h2 h3 h4 h5
   refine⟨_,_,_,rs++ms,rfl,e5,h1,by rw[h2,Qzq],by rw[lQa];omega,by rw[lQa];omega,by omega,fun q hq=> ?_⟩
   rw[lQa]
   rcases mQa.mp hq with hq|hq
   ·exact(hok q hq).mono (by omega)
   ·exact h5 q hq
  have small:∀m:Nat,m<=100->m<sizeLine:=fun m hm=>Nat.lt_of_le_of_lt hm (by decide)
  have l9:rs.length<=9:=by omega
  have lr:(rs.map Rw.d).length=rs.length:=by simp
  have sok:∀{t':Tr},t'.Ok sc.ws sc.bs->t'.dep<=3->F9 sc t':=fun h1 h2=>⟨h1,by omega⟩
  have lw':sc.ws.length<1000:=by rw[sw];simp[gE];omega
  have lb':sc.bs.length<1000:=by rw[sb];omega
  have lp':sc.ps.length<900:=by rw[sp];omega
  have lg':sc.gs.length<1000:=by rw[sg];omega
  refine eY (sm rfl rfl gb4 fun c hc=>aV (fun c1=> ?_) (fun c1=> ?_))
  ·
   apply jb (wz ?_)
   apply⟨_,_,rfl,hr4,?_⟩
   apply b9 hr4 ?_
   rw[lr]
   refine F7 (sc:=sc) e4 nw nb hw4 gb4 lw' lb' (by simpa using hc c1) (by rw[sw];simp[gE]) so fun ms S5 h1 h1' h2 e5 e5' l5=> ?_
   dsimp only
   have hr5:=e5'.keep _ _ nr hr4
   have hlen:=ms.length
   refine⟨_,hr5,⟨rfl,?_⟩,?_⟩
   ·simp only[lQm]
    exact nQl (small _ (by omega))
   ·exact more ms _ _ (e5.put (by omega) kl) (fL (by omega) (e5'.keep _ _ nw hw4)) (da hr5) h1' h2 h1
  refine eY (sm rfl rfl gb4 fun c hc=>aV (fun c1=> ?_) (fun c1=> ?_))
  ·apply bV (Cu ?_)
   refine⟨by decide,?_⟩
   refine GW rfl rfl fun v hv=> ?_
   have hc2:∃(f:Str->Rw) (s:Str),(∀z,(f z).d=.tup [.str s,.str z])/\(∀z n,z∈sc.bs->(f z).Ok sc n)/\k8 ([.str "call",.str "all"]:List D) (v:Int)=some (.str s):=by
    rcases v with _|_|v
    ·exact⟨.call,"call",fun _=>rfl,fun z n hz=>⟨so,hz⟩,rfl⟩
    ·exact⟨.all,"all",fun _=>rfl,fun z n hz=>⟨so,hz⟩,rfl⟩
    ·omega
   obtain⟨f,s,hf,hfo,hs⟩:=hc2
   refine eU aP hs ?_
   apply jb (k_ ?_)
   apply⟨_,_,rfl,bh hr4,?_⟩
   refine fB (e4.app (G:= [O.lst [.str "call",.str "all"]])) nb (bh gb4) (hc c1) (by simp;omega) eI gJ fun v2 S5 hv2 e5 e5' l5=> ?_
   obtain⟨z,hz,rfl⟩:=Qkq.mp hv2
   symm
   refine⟨by show 2<=_;decide,?_⟩
   symm
   have hr5:=e5'.keep _ _ nr (bh hr4)
   refine⟨_,hr5,fK (small _ (by rw[lr];omega)) ?_⟩
   refine more [f z] _ _ (e5.put (by omega) kl) (fL (by omega) (e5'.keep _ _ nw (bh hw4))) ?_ (by simp) (by simp) fun q' hq'=>by rw[Qfq.mp hq'];exact hfo _ _ hz
   rw[da hr5]
   simp[hf]
  refine eY (sy rfl rfl gg4 fun c hc=>aV (fun c1=> ?_) (fun c1=> ?_))
  ·apply jb (k_ ?_)
   apply⟨_,_,rfl,hr4,?_⟩
   apply IM (n:=rs.length+1) (sc:=sc) e4 ng nt nw gg4 gt4 hw4 (by simpa using hc c1) lg' lp' lw' fun q S5 h1 e5 e5' l5=> ?_
   have hr5:=e5'.keep _ _ nr hr4
   refine⟨_,hr5,fK (small _ (by rw[lr];omega)) ?_⟩
   exact more [q] _ _ (e5.put (by omega) kl) (fL (by omega) (e5'.keep _ _ nw hw4)) (da hr5) (by simp) (by simp) fun q' hq'=>by rw[Qfq.mp hq'];exact h1
  refine eY (IQ rfl fun c=>aV (fun c1=> ?_) (fun c1=> ?_))
  ·apply bV (jb (k_ ?_))
   apply⟨_,_,rfl,hr4,?_⟩
   apply jK 4 (deep:=2) e4 nw nb hw4 gb4 lw' lb' (by decide) fun t3 S5 h3 h4 e5 e5' l5=> ?_
   have hr5:=e5'.keep _ _ nr hr4
   apply b9 hr5 ?_
   refine⟨by show 3<=_;decide,?_⟩
   symm
   refine⟨_,hr5,fK (small _ (by rw[lr];omega)) ?_⟩
   dsimp only
   apply jb (k_ ?_)
   apply⟨_,_,rfl,da hr5,?_⟩
   apply bR (e5.put (r:=r) (by omega) kl) (by decide) (by decide) fun v S6 hv e6 e6' l6=> ?_
   refine⟨by show 2<=_;decide,?_⟩
   symm
   have hr6:=e6'.keep _ _ nr (da hr5)
   refine⟨_,hr6,fK (small _ (by simp;omega)) ?_⟩
   refine more [.unl t3 (rs.length+2),.tell (.num v)] _ _ (e6.put (by omega) kl) (fL (by omega) (e6'.keep _ _ nw (fL (by omega) (e5'.keep _ _ nw hw4)))) ?_ (by simp) (by simp) fun q hq=> ?_
   ·rw[da hr6]
    simp[Rw.d,Tr.d]
   ·simp only[Qsq,QXq,or_false] at hq
    rcases hq with rfl|rfl
    ·exact⟨sok h3 (by omega),by show rs.length+2<=rs.length+2;omega⟩
    ·exact⟨so,by show v<=9;omega,by show 1<=4;omega⟩
  refine eY (sm rfl rfl gt4 fun c hc=>aV (fun c1=> ?_) (fun c1=> ?_))
  ·apply jb (k_ ?_)
   apply⟨_,_,rfl,hr4,?_⟩
   refine fB e4 nt gt4 (hc c1) (by simp;omega) eI gJ fun v S5 hv e5 e5' l5=> ?_
   obtain⟨z,hz,rfl⟩:=Qkq.mp hv
   symm
   apply jK 4 (deep:=2) e5 nw nb (e5'.keep _ _ nw hw4) (e5'.keep _ _ nb gb4) lw' lb' (by decide) fun t3 S6 h3 h4 e6 e6' l6=> ?_
   refine⟨by show 3<=_;decide,?_⟩
   symm
   have hr6:=e6'.keep _ _ nr (e5'.keep _ _ nr hr4)
   refine⟨_,hr6,fK (small _ (by rw[lr];omega)) ?_⟩
   exact more [.put z t3] _ _ (e6.put (by omega) kl) (fL (by omega) (e6'.keep _ _ nw (e5'.keep _ _ nw hw4))) (da hr6) (by simp) (by simp) fun q' hq'=>by rw[Qfq.mp hq'];exact⟨hz,sok h3 (by omega)⟩
  ·apply jb (k_ ?_)
   apply⟨_,_,rfl,hr4,?_⟩
   apply jK 4 (deep:=1) e4 nw nb hw4 gb4 lw' lb' (by decide) fun t3 S6 h3 h4 e6 e6' l6=> ?_
   refine⟨by show 2<=_;decide,?_⟩
   symm
   have hr6:=e6'.keep _ _ nr hr4
   refine⟨_,hr6,fK (small _ (by rw[lr];omega)) ?_⟩
   exact more [.tell t3] _ _ (e6.put (by omega) kl) (fL (by omega) (e6'.keep _ _ nw hw4)) (da hr6) (by simp) (by simp) fun q' hq'=>by rw[Qfq.mp hq'];exact⟨so,sok h3 (by omega)⟩
 ·rintro Γ' S3 ⟨o9,o10,o11,rs,rfl,e3,hw3,hr3,hl1,hl2,hn4,hok⟩
  have hlen:(jR 0 (1+(many:Int))).length=many+1:=by simp only[jR,lQm,QVq];omega
  rw[hlen] at hl1 hl2 hn4
  symm
  refine b9 hr3 ?_
  refine⟨rfl,?_⟩
  dsimp only
  refine lT e3 x.lt (fun k z=>(nomatch z)) (by simp only[cp];exact bp fun q _=>dH q.low) fun a b c=> ?_
  exact h rs _ hok (by omega) (by omega) x.set y.set (by simp)
end W28
namespace DL
open PySem PySem.Spec L2
def M4{Γ' Γ0:de}{d:D}(h:Γ'.set 0 none=Γ0.set 0 none):Γ'.set 0 (some d)=Γ0.set 0 (some d):=by
 have:=congrArg (fun Γ:de=>Γ.set 0 (some d)) h
 simpa using this
def BX{Γ:de}{S:aH}{js:List (Option Nat)}{f:eF}{elt:bH}{Q:List D->aH->Prop}(F:D->D)(h:E f Γ S fun p S1=>p.2.stays S1 p.1/\p.1.length<=1000/\(∀d∈p.1,E elt ((nQ js Γ).set 0 (some d)) S1 fun y S2=>y=F d/\S2=S1)/\Q (p.1.map F) S1):
  E (bX js (i0 f) (bQ 0) cz elt) Γ S Q:=by
 refine lP (u5 (h.mono fun p S1 hp=> ?_))
 obtain⟨hs,hl,he,q⟩:=hp
 refine⟨fun n Γ' S' acc=>S'=S1/\acc=(p.1.take n).map F/\Γ'.set 0 none=(nQ js Γ).set 0 none,⟨rfl,rfl,rfl⟩,fun n Γ' S' acc h=>by rw[h.1];exact hs,fun n d Γ' S' acc hd h=> ?_,fun Γ' S' acc h=> ?_⟩
 ·obtain⟨rfl,rfl,h3⟩:=h
  refine a_ (t8 ?_)
  rw[Qhq rfl,M4 h3]
  refine(he d (mQg hd)).mono fun y S2 qr=> ?_
  obtain⟨e1,e2⟩:=qr
  subst e1 e2
  have hn:=(gQs.mp hd).1
  refine⟨?_,rfl,?_,by simp⟩
  ·rw[lQm,Qxq]
   exact bD (by omega)
  ·rw[QYq,hd]
   simp
 ·obtain⟨rfl,rfl,_⟩:=h
  rw[QEq]
  exact q
end DL
namespace W28
open PySem PySem.Spec L2 DL
def uV(p:Str×Nat):D:=.tup [.str p.1,.int p.2]
def Ey(p:Str×Str):D:=.tup [.str p.1,.str p.2]
def j3(p:Str×List Rw):D:=.tup [.str p.1,.tup (p.2.map Rw.d)]
def CS{Γ:de}{S S0:aH}{k j l:Nat}{m:Nat}{ws:List Str}{Q:List D->aH->Prop}(x:Ex k S0 S)(h0:Γ.getD 0 none=some (.ref k))(hj:Γ[j]?=some (some (.ref l)))(hl:S[l]?=some (.lst (ws.map D.str)))(nl:l≠k)(m0:0<m)(m1:m<1000)(lw:ws.length<=1000)
  (h:∀(ps:List (Str×Nat)) (S':aH),ps.map (·.1)=ws->(∀p∈ps,p.2<m)->Ex k S0 S'->Ex k S S'->S'.length=S.length->Q (ps.map uV) S'):
  E (bX [none,some 0] (i0 (aX (ak j))) (bQ 0) cz (bg (aj (ak 0) (aj (ay aI (aj (ak 1) (aj (cF (.int m)) au))) au)))) Γ S Q:=by
 have y:Ex k S S:=by obtain⟨a,b,c,hh⟩:=x.pot;exact Ex.refl hh
 refine lP (u5 (qT (fG hj (b9 hl ?_))))
 refine⟨fun n Γ' S' acc=>∃(o:Option D) (ps:List (Str×Nat)),Γ'= [o,some (.ref k)]/\Ex k S0 S'/\Ex k S S'/\S'.length=S.length/\ps.map (·.1)=ws.take n/\(∀p∈ps,p.2<m)/\acc=ps.map uV,⟨none,[],by show [none,Γ.getD 0 none]=_;rw[h0],x,y,rfl,rfl,by simp,rfl⟩,?_,?_,?_⟩
 ·rintro n Γ' S' acc ⟨o,ps,_,_,e,_⟩
  exact e.keep _ _ nl hl
 ·rintro n d Γ' S' acc hd ⟨o,ps,rfl,e0,e1,el,h1,h2,rfl⟩
  obtain⟨z,hz,rfl⟩:∃z,ws[n]?=some z/\d=.str z:=by
   rw[gQm] at hd
   obtain⟨z,hz,e⟩:=oQm.mp hd
   exact⟨z,hz,e.symm⟩
  symm
  rw[Qhq rfl]
  symm
  apply bR e0 (by omega) (by omega) fun v S2 hv e2 e2' l2=> ?_
  refine⟨by show 2<=_;decide,?_⟩
  have hn:=(gQs.mp hz).1
  have hlen:ps.length=n:=by
   have:=congrArg List.length h1
   rw[lQm,Qxq] at this
   omega
  refine⟨?_,_,ps++ [(z,v)],rfl,e2,e1.trans e2',by omega,?_,fun p hp=> ?_,by simp[uV]⟩
  ·rw[lQm]
   exact bD (by omega)
  ·rw[Qzq,h1,QYq,hz]
   rfl
  ·rcases mQa.mp hp with hp|hp
   ·exact h2 p hp
   ·rw[Qfq.mp hp]
    show v<m
    omega
 ·rintro Γ' S' acc ⟨o,ps,rfl,e0,e1,el,h1,h2,rfl⟩
  exact h ps S' (by rw[h1];simp) h2 e0 e1 el
def JL{Γ:de}{S S0:aH}{k j l:Nat}{ws:List Str}{Q:List D->aH->Prop}(x:Ex k S0 S)(h0:Γ.getD 0 none=some (.ref k))(hj:Γ[j]?=some (some (.ref l)))(hl:S[l]?=some (.lst (ws.map D.str)))(nl:l≠k)(lw:ws.length<=1000)
  (h:∀(ps:List (Str×Str)) (S':aH),ps.map (·.1)=ws->(∀p∈ps,p.2="row" \/p.2="turns")->Ex k S0 S'->Ex k S S'->Q (ps.map Ey) S'):
  E (bX [none,some 0] (i0 (aX (ak j))) (bQ 0) cz (bg (aj (ak 0) (aj (aC aQ (cO (bP (aj (cF (.str "row")) (aj (cF (.str "turns")) au)))) (ay aI (aj (ak 1) (aj (cF (.int 2)) au)))) au)))) Γ S Q:=by
 have y:Ex k S S:=by obtain⟨a,b,c,hh⟩:=x.pot;exact Ex.refl hh
 refine lP (u5 (qT (fG hj (b9 hl ?_))))
 refine⟨fun n Γ' S' acc=>∃(o:Option D) (ps:List (Str×Str)),Γ'= [o,some (.ref k)]/\Ex k S0 S'/\Ex k S S'/\ps.map (·.1)=ws.take n/\(∀p∈ps,p.2="row" \/p.2="turns")/\acc=ps.map Ey,⟨none,[],by show [none,Γ.getD 0 none]=_;rw[h0],x,y,rfl,by simp,rfl⟩,?_,?_,?_⟩
 ·rintro n Γ' S' acc ⟨o,ps,_,_,e,_⟩
  exact e.keep _ _ nl hl
 ·rintro n d Γ' S' acc hd ⟨o,ps,rfl,e0,e1,h1,h2,rfl⟩
  obtain⟨z,hz,rfl⟩:∃z,ws[n]?=some z/\d=.str z:=by
   rw[gQm] at hd
   obtain⟨z,hz,e⟩:=oQm.mp hd
   exact⟨z,hz,e.symm⟩
  symm
  rw[Qhq rfl]
  symm
  apply⟨by decide,?_⟩
  refine bR (e0.app (G:= [O.lst [.str "row",.str "turns"]])) (by decide) (by decide) fun v S2 hv e2 e2' l2=> ?_
  dsimp only
  have hs:∃s:Str,(s="row" \/s="turns")/\k8 ([.str "row",.str "turns"]:List D) (v:Int)=some (.str s):=by
   rcases v with _|_|v
   ·exact⟨"row",.inl rfl,rfl⟩
   ·exact⟨"turns",.inr rfl,rfl⟩
   ·omega
  obtain⟨s,hs,ha⟩:=hs
  refine eU (e2'.keep _ _ (by have:=e0.lt;omega) aP) ha ?_
  symm
  refine⟨by show 2<=_;decide,?_⟩
  have hn:=(gQs.mp hz).1
  have hlen:ps.length=n:=by
   have:=congrArg List.length h1
   rw[lQm,Qxq] at this
   omega
  refine⟨?_,_,ps++ [(z,s)],rfl,e2,(e1.app).trans e2',?_,fun p hp=> ?_,by simp[Ey]⟩
  ·rw[lQm]
   exact bD (by omega)
  ·rw[Qzq,h1,QYq,hz]
   rfl
  ·rcases mQa.mp hp with hp|hp
   ·exact h2 p hp
   ·rw[Qfq.mp hp]
    exact hs
 ·rintro Γ' S' acc ⟨o,ps,rfl,e0,e1,h1,h2,rfl⟩
  exact h ps S' (by rw[h1];simp) h2 e0 e1
def Rw.Ok.sub{a:Bool}{ws ps bs ts:List Str}{gs gs':List (Str×Str)}{n:Nat}{r:Rw}(h:r.Ok ⟨a,ws,ps,bs,gs,ts⟩ n)(hs:∀g∈gs,g∈gs'):r.Ok ⟨a,ws,ps,bs,gs',ts⟩ n:=by
 cases r with
 |do_ g r d t=>exact⟨h.1,hs _ h.2.1,h.2.2⟩
 |_=>exact h
def uK.sub{a:Bool}{ws ps bs ts:List Str}{gs gs':List (Str×Str)}{rs:List Rw}(h:uK ⟨a,ws,ps,bs,gs,ts⟩ rs)(hs:∀g∈gs,g∈gs'):uK ⟨a,ws,ps,bs,gs',ts⟩ rs:=fun r hr=>(h r hr).sub hs
structure Rm where
 name:Str
 ah:Str
 things:List (Str×Nat)
 aa:List (Str×Str)
 ae:List (Str×List Rw)
def Rm.d(r:Rm):D:=.tup [.str r.name,.str r.ah,.tup (r.things.map uV),.tup (r.aa.map Ey),.tup (r.ae.map j3)]
structure yu(gs:List (Str×Str))(r:Rm):Prop where
 mn:r.ah="at once" \/r.ah="when free"
 tv:∀p∈r.things,p.2<=9
 l1:r.things.length<=6
 l2:r.aa.length<=6
 l3:r.ae.length<=6
 bv:∀p∈r.aa,p.2="row" \/p.2="turns"
 pr:∀p∈r.ae,uK ⟨false,r.things.map (·.1)++gE,r.things.map (·.1),r.aa.map (·.1),gs,[]⟩ p.2/\p.2.length<=12
def GJ(p:Str×List Rw):cp 0 (j3 p)=true:=by
 simp only[j3,cp,cc,Bool.and_true,Bool.true_and]
 exact bp fun r _=>r.low
def Rm.low(r:Rm):cp 0 r.d=true:=by
 simp only[Rm.d,cp,cc,Bool.and_true,Bool.true_and,QCq]
 exact⟨bp fun _ _=>rfl,bp fun _ _=>rfl,bp fun p _=>GJ p⟩
end W28
namespace DL
open PySem PySem.Spec L2
def K3{Γ:de}{S:aH}{f:eF}{g:bH}{Q:List D->aH->Prop}(h:E f Γ S fun p S1=>E g Γ S1 fun r S2=>∃n:Nat,r=.int n/\(p.2.isM=true/\p.2.stays S2 p.1/\p.1.length*n<=1000/\n<=1)/\Q ((List.replicate n p.1).flatten) S2):E (uX f g) Γ S Q:=by
 obtain⟨p,S1,e1,r,S2,e2,n,rfl,⟨h1,h2,h3,h4⟩,q⟩:=h
 refine⟨_,S2,?_,q⟩
 unfold uX
 rw[e1]
 simp only[Qbq]
 rw[e2]
 simp only[Qbq]
 rw[Qhq ⟨h1,h2,by omega,by omega,by simpa using QAq h3 (by decide)⟩]
 simp
end DL
namespace W28
open PySem PySem.Spec L2 DL
def Ij{S S0:aH}{k g m:Nat}{name:Str}{goals:List (Str×Str)}{Q:Res->aH->Prop}(x:Ex k S0 S)(ng:g≠k)(nm:m≠k)(gg:S[g]?=some (.lst (goals.map dQ)))(gm:S[m]?=some (.lst [.str "at once",.str "when free"]))(lg:goals.length<=100)
  (h:∀(r:Rm) (S':aH),r.name=name->yu (goals++r.ae.map fun p=>(name,p.1)) r->Ex k S0 S'->Ex k S S'->S'.length=S.length->Q (.d r.d) S'):
  Fn kg [.ref k,.str name,.ref g,.ref m,.int 2] S Q:=by
 have y:Ex k S S:=by obtain⟨a,b,c,hh⟩:=x.pot;exact Ex.refl hh
 have kl:=x.lt
 refine cg ?_
 unfold uO
 symm
 refine fB y nm gm (by decide) (by decide) (fun d hd=> ?_) (fun d hd=> ?_) fun mn S1 hmn e1 _ l1=> ?_
 ·simp only[Qsq,QXq,or_false] at hd
  rcases hd with rfl|rfl <;>exact⟨fun k z=>(nomatch z),rfl⟩
 ·simp only[Qsq,QXq,or_false] at hd
  rcases hd with rfl|rfl <;>rfl
 obtain⟨ah,hman,rfl⟩:∃s:Str,(s="at once" \/s="when free")/\mn=.str s:=by
  simp only[Qsq,QXq,or_false] at hmn
  rcases hmn with rfl|rfl
  ·exact⟨_,.inl rfl,rfl⟩
  ·exact⟨_,.inr rfl,rfl⟩
 symm
 apply⟨by decide,?_⟩
 refine bR (e1.app (G:= [O.lst [.int 1,.int 1,.int 2,.int 0]])) (by decide) (by decide) fun v S2 hv e2 e2' l2=> ?_
 dsimp only
 obtain⟨nt,hnt,ha⟩:∃n:Nat,n<=2/\k8 ([.int 1,.int 1,.int 2,.int 0]:List D) (v:Int)=some (.int n):=by
  rcases v with _|_|_|_|v
  ·exact⟨1,by omega,rfl⟩
  ·exact⟨1,by omega,rfl⟩
  ·exact⟨2,by omega,rfl⟩
  ·exact⟨0,by omega,rfl⟩
  ·omega
 refine eU (e2'.keep _ _ (by have:=e1.lt;omega) aP) ha ?_
 symm
 apply iU e2 (by omega) (by omega) (by decide) fun things S3 _ hth e3 e3' l3=> ?_
 apply bR (e3.app (G:= [O.lst (things.map D.str)])) (by decide) (by decide) fun nb S4 hnb e4 e4' l4=> ?_
 apply iU e4 (by omega) (by omega) (by decide) fun aa S5 _ hbe e5 e5' l5=> ?_
 refine⟨by decide,?_⟩
 have k3:S3.length≠k:=by have:=e3.lt;omega
 have k5:S5.length≠k:=by have:=e5.lt;omega
 have gt:(S5++ [O.lst (aa.map D.str)]++ [O.lst []])[S3.length]?=some (.lst (things.map D.str)):=bh (bh (e5'.keep _ _ k3 (e4'.keep _ _ k3 aP)))
 have gb:(S5++ [O.lst (aa.map D.str)]++ [O.lst []])[S5.length]?=some (.lst (aa.map D.str)):=bh aP
 have hl3:S.length<=S3.length:=e3.len
 have hl5:S.length<=S5.length:=e5.len
 have h35:S3.length<S5.length:=by
  have:=e5'.len
  have:=e4'.len
  simp only[lQa,Qnq,QGq] at *
  omega
 have e6:Ex k S (S5++ [O.lst (aa.map D.str)]++ [O.lst []]):=e5.app.app
 generalize hr:S5.length+1=r
 have hlen0:(S5++ [O.lst (aa.map D.str)]).length=r:=by simp[hr]
 rw[hlen0]
 have gr:(S5++ [O.lst (aa.map D.str)]++ [O.lst []])[r]?=some (.lst []):=by rw[←hlen0];exact aP
 generalize (S5++ [O.lst (aa.map D.str)]++ [O.lst []])=S6 at e6 gt gb gr⊢
 have hth':things.length=nt:=by omega
 have hbe':aa.length=nb:=by omega
 apply bV (hX ?_)
 apply bR e6 (by decide) (by decide) fun nd S7 hnd e7 e7' l7=> ?_
 apply iU e7 (by omega) (by omega) (by decide) fun dws S8 _ hdw e8 e8' l8=> ?_
 have kr:r≠k:=by omega
 let Inv:Nat->de->aH->Prop:=fun n Γ' S'=>∃(o9 o10 o11:Option D) (ds:List (Str×List Rw)),Γ'= [some (.ref k),some (.str name),some (.ref g),some (.ref m),some (.int 2),some (.str ah),some (.ref S3.length),some (.ref S5.length),some (.ref r),o9,o10,o11,none]∧
  Ex k S S'/\S'[S3.length]?=some (.lst (things.map D.str))/\S'[S5.length]?=some (.lst (aa.map D.str))/\S'[r]?=some (.lst (ds.map j3))/\ds.length=n/\(∀p∈ds,uK ⟨false,things++gE,things,aa,goals++ds.map fun p=>(name,p.1),[]⟩ p.2/\p.2.length<=12)
 refine⟨Inv,⟨none,none,none,[],rfl,e8,e8'.keep _ _ k3 (e7'.keep _ _ k3 gt),e8'.keep _ _ k5 (e7'.keep _ _ k5 gb),e8'.keep _ _ kr (e7'.keep _ _ kr gr),rfl,by simp⟩,fun _ _ _ _=>trivial,?_,?_⟩
 ·rintro n d Γ' S9 hd ⟨o9,o10,o11,ds,rfl,e9,gt9,gb9,gr9,hn,hpr⟩
  obtain⟨w,hw,rfl⟩:∃z,dws[n]?=some z/\d=.str z:=by
   rw[gQm] at hd
   obtain⟨z,hz,e⟩:=oQm.mp hd
   exact⟨z,hz,e.symm⟩
  have hn6:n<3:=by
   have:=(gQs.mp hw).1
   omega
  apply a_ ?_
  apply BX (fun d=>match d with|.tup (a::_)=>.tup [.str name,a]|d=>d) ?_
  refine b9 gr9 ?_
  refine⟨gr9,by simp;omega,fun d hd=> ?_,?_⟩
  ·obtain⟨p,_,rfl⟩:=Qkq.mp hd
   symm
   apply av rfl ?_
   exact⟨by show 2<=_;decide,rfl,rfl⟩
  have eh:(ds.map j3).map (fun d=>match d with|.tup (a::_)=>.tup [.str name,a]|d=>d)=(ds.map fun p=>(name,p.1)).map dQ:=by
   rw[QPq,QPq]
   rfl
  rw[eh]
  generalize hh:(ds.map fun p=>(name,p.1))=here
  have lh:here.length=n:=by rw[←hh];simpa using hn
  symm
  apply zK ?_
  have gg9:=e9.keep _ _ ng gg
  apply b9 (bh gg9) ?_
  apply K3 ?_
  apply b9 aP ?_
  apply bR (e9.app (G:= [O.lst (here.map dQ)])) (by decide) (by decide) fun v2 S10 hv2 e10 e10' l10=> ?_
  apply er ?_
  have k9:S9.length≠k:=by have:=e9.lt;omega
  have g10:=e10'.keep _ _ k9 aP
  obtain⟨q,hq,hqe⟩:∃q:Nat,q<=1/\intOfD [D.bl (decide ((v2:Int)=0))]=some (.int q):=by
   by_cases c:(v2:Int)=0
   ·exact⟨1,by omega,by rw[Qeq c];rfl⟩
   ·exact⟨0,by omega,by rw[Qdq c];rfl⟩
  refine⟨_,hqe,?_⟩
  refine⟨q,rfl,⟨rfl,g10,?_,hq⟩,?_⟩
  ·simp only[lQm]
   have:here.length*q<=here.length*1:=Nat.mul_le_mul_left _ hq
   omega
  obtain⟨some_,hso,hsub,hsl⟩:∃l:List (Str×Str),goals.map dQ++(List.replicate q (here.map dQ)).flatten=l.map dQ/\(∀g∈l,g∈goals++here)/\l.length<=goals.length+10:=by
   rcases q with _|_|q
   ·exact⟨goals,by simp,fun g hg=>List.mem_append_left _ hg,by omega⟩
   ·exact⟨goals++here,by simp,fun g hg=>hg,by rw[lQa];omega⟩
   ·omega
  refine⟨⟨rfl,rfl,e10.keep _ _ ng gg,?_⟩,?_⟩
  ·have:=congrArg List.length hso
   rw[lQa] at this
   rw[this,lQm]
   exact nQl (bD (by omega))
  rw[hso]
  symm
  apply k_ ?_
  have gr11:(S10++ [O.lst (some_.map dQ)])[r]?=some (.lst (ds.map j3)):=bh (e10'.keep _ _ kr (bh gr9))
  apply⟨_,_,rfl,gr11,?_⟩
  refine⟨by show 3<=_;decide,?_⟩
  symm
  refine Hb (goals:=some_) (e10.app (G:= [O.lst (some_.map dQ)])) k3 k5 (by have:=e10.lt;omega) (bh (e10'.keep _ _ k3 (bh gt9))) (bh (e10'.keep _ _ k5 (bh gb9))) aP (by omega) (by omega) (by omega) fun rs S11 h1 h2 h3 e11 e11' l11=> ?_
  symm
  refine⟨by show 2<=_;decide,?_⟩
  symm
  have gr12:=e11'.keep _ _ kr gr11
  refine⟨_,gr12,fK (bD (by simp;omega)) ?_⟩
  refine⟨_,_,_,ds++ [(w,rs)],rfl,e11.put (by omega) kl,fL (by omega) (e11'.keep _ _ k3 (bh (e10'.keep _ _ k3 (bh gt9)))),fL (by omega) (e11'.keep _ _ k5 (bh (e10'.keep _ _ k5 (bh gb9)))),?_,by simp[hn],fun p hp=> ?_⟩
  ·rw[da gr12]
   simp[j3]
  ·rcases mQa.mp hp with hp|hp
   ·refine⟨(hpr p hp).1.sub fun g hg=> ?_,(hpr p hp).2⟩
    rw[Qzq,←Qvq]
    exact List.mem_append_left _ hg
   ·rw[Qfq.mp hp]
    refine⟨h1.sub fun g hg=> ?_,h3⟩
    rw[Qzq,←Qvq]
    refine List.mem_append_left _ ?_
    rw[hh]
    exact hsub g hg
 ·rintro Γ' S9 ⟨o9,o10,o11,ds,rfl,e9,gt9,gb9,gr9,hn,hpr⟩
  have hn4:ds.length<=3:=by
   rw[hn]
   simp only[lQm]
   omega
  symm
  apply JL e9 rfl rfl gb9 k5 (by omega) fun bs S10 hb1 hb2 e10 e10'=> ?_
  apply CS (m:=3) e10 rfl rfl (e10'.keep _ _ k3 gt9) k3 (by decide) (by decide) (by omega) fun ts S11 ht1 ht2 e11 e11' l11=> ?_
  refine b9 (e11'.keep _ _ kr (e10'.keep _ _ kr gr9)) ?_
  apply⟨rfl,?_⟩
  refine⟨by show 5<=_;decide,?_⟩
  have lt1:ts.length=things.length:=by rw[←ht1];simp
  have lb1:bs.length=aa.length:=by rw[←hb1];simp
  refine lT (d:=(Rm.mk name ah ts bs ds).d) e11 x.lt (fun k z=>(nomatch z)) (dH (Rm.low _)) fun a b c=> ?_
  refine h ⟨name,ah,ts,bs,ds⟩ _ rfl ⟨hman,fun p hp=>by have:=ht2 p hp;omega,by show ts.length<=6;omega,by show bs.length<=6;omega,by show ds.length<=6;omega,hb2,?_⟩ x.set y.set (by simp)
  intro p hp
  show uK ⟨false,ts.map (·.1)++gE,ts.map (·.1),bs.map (·.1),_,[]⟩ p.2/\_
  rw[ht1,hb1]
  exact hpr p hp
end W28
namespace DL
open PySem PySem.Spec L2
theorem KQ{c:ko}{b:dm}{Q:Out->Prop}(I:Nat->de->aH->Prop)(hc:∀m Γ S,I m Γ S->E c Γ S fun k S1=>if k=true then∃m',m=m'+1/\T b Γ S1 fun o=>match o with|.nx Γ2 S2=>I m' Γ2 S2|_=>False else Q (.nx Γ S1)):
  ∀(n m:Nat) (Γ:de) (S:aH),m<n->I m Γ S->T (GP c b n) Γ S Q
 |0,_,_,_,h,_=>absurd h (Nat.not_lt_zero _)
 | n+1,m,Γ,S,h,hi=>by
   obtain⟨k,S1,e1,q⟩:=hc m Γ S hi
   cases k with
   |false=>exact⟨_,by simp only[GP];rw[e1];rfl,q⟩
   | true=>
     obtain⟨m',rfl,o,e2,q⟩:=(q:∃m',m=m'+1/\T b Γ S1 _)
     cases o with
     | nx Γ2 S2=>
       obtain⟨o,e3,q⟩:=KQ I hc n m' Γ2 S2 (by omega) q
       exact⟨o,by simp only[GP];rw[e1];simp only[Qbq,if_true];rw[e2];exact e3,q⟩
     |_=>exact q.elim
def Ha{Γ:de}{S:aH}{f:eF}{Q:List D->aH->Prop}(h:E f Γ S fun p S1=>p.2.isL=true/\∃ss,qR p.1=some ss/\(p.1.length<=3/\ss.Nodup)/\Q (sN ss p.1) S1):E (xv f) Γ S Q:=by
 obtain⟨p,S1,e1,l,ss,h1,h2,q⟩:=h
 exact⟨_,S1,by unfold xv;rw[e1];simp only[Qbq];rw[Qhq l,h1];simp only[Qbq];rw[Qhq h2],q⟩
def Dv{α:Type}{f:α->D}{ss:List Str}{xs:List α}(a0:α)(h3:xs.length<=3):∃ys:List α,ys.Perm xs/\sN ss (xs.map f)=ys.map f:=by
 refine⟨Zp.sortBy ss a0 xs,Zp.eZ ss xs h3,?_⟩
 have hl:(sN ss (xs.map f)).length=((Zp.sortBy ss a0 xs).map f).length:=by
  unfold sN
  rw[(Zp.eZ ss (xs.map f) (by simpa using h3)).length_eq,lQm,lQm,(Zp.eZ ss xs h3).length_eq]
 apply List.ext_getElem?
 intro i
 cases e:(sN ss (xs.map f))[i]? with
 | none=>
   rw[List.getElem?_eq_none_iff] at e
   rw[eq_comm,List.getElem?_eq_none_iff]
   omega
 | some d=>
   obtain⟨y,hy,r⟩:=sE (R:=fun(d:D) (a:α)=>d=f a) (ss:=ss) (xs:=xs.map f) (ys:=xs) (d:=.non) (d':=a0) (by simp) (by simpa using h3) (fun i d hd=>by
     rw[gQm] at hd
     obtain⟨y,hy,e⟩:=oQm.mp hd
     exact⟨y,hy,e.symm⟩) i d e
   rw[gQm,hy,r]
   rfl
end DL
namespace W28
open PySem PySem.Spec L2 DL
def a9(rs:List Rm):List (Str×Str):=rs.flatMap fun r=>r.ae.map fun p=>(r.name,p.1)
def yu.sub{gs gs':List (Str×Str)}{r:Rm}(h:yu gs r)(hs:∀g∈gs,g∈gs'):yu gs' r:={h with pr:=fun p hp=>⟨(h.pr p hp).1.sub hs,(h.pr p hp).2⟩}
theorem C2:∀rs:List Rm,qR (rs.map Rm.d)=some (rs.map (·.name))
 | []=>rfl
 | r::rs=>by
   show qR (Rm.d r::rs.map Rm.d)=_
   simp only[Rm.d,qR]
   rw[C2 rs]
   rfl
def ze{S:aH}{Γ:de}{i j v:Nat}{rs:List Rm}{f:eF}{Q:Out->Prop}{tg:Tag}(hv:v<Γ.length)(hj:Γ[j]?=some (some (.ref i)))(hS:S[i]?=some (.lst []))
  (hf:∀(R:List D×Tag->aH->Prop),R (rs.map Rm.d,tg) S->E f Γ S R) (hs:∀o,tg.stays (S.set i o) (rs.map Rm.d)) (nvj:v≠j) (hd:∀r∈rs,r.ae.length<=6) (hl:rs.length<=3)
  (q:∀o,Q (.nx (Γ.set v o) (S.set i (.lst ((a9 rs).map dQ))))):
  T (iC (i0 f) (bQ v) (mY (rR (ak j) (gA (bX [none,some v] (i0 (aX (aC aQ (ak v) (cF (.int 4))))) (bQ 0) cz (bg (aj (aC aQ (ak 1) (cF (.int 0))) (aj (aC aQ (ak 0) (cF (.int 0))) au)))))))) Γ S Q:=by
 refine hX (u5 (hf _ ?_))
 have si:i<S.length:=(gQs.mp hS).1
 have vget:∀o:Option D,(Γ.set v o)[v]?=some o:=fun o=>Qyq hv
 have jget:∀o:Option D,(Γ.set v o)[j]?=some (some (.ref i)):=fun o=>by rw[QKq nvj];exact hj
 refine⟨fun n Γ' S'=>(n=0->Γ'=Γ)/\(∃o,Γ'=Γ.set v o)/\S'=S.set i (.lst ((a9 (rs.take n)).map dQ)),⟨fun _=>rfl,?_,?_⟩,fun n Γ' S' h=> ?_,fun n d Γ' S' hd' ⟨_,⟨o,hΓ⟩,hS'⟩=> ?_,fun Γ' S' ⟨h0,⟨o,hΓ⟩,hS'⟩=> ?_⟩
 ·exact⟨Γ[v],by rw[List.set_getElem_self]⟩
 ·apply List.ext_getElem?
  intro x
  rw[List.getElem?_set]
  split
  ·rename_i e
   subst e
   rw[hS]
   rfl
  ·rfl
 ·rw[h.2.2];exact hs _
 ·obtain⟨r,hr,rfl⟩:∃r,rs[n]?=some r/\d=r.d:=by
   rw[gQm] at hd'
   obtain⟨z,hz,e⟩:=oQm.mp hd'
   exact⟨z,hz,e.symm⟩
  subst hΓ hS'
  have hn:=(gQs.mp hr).1
  refine a_ (jb (wz ?_))
  rw[List.set_set]
  refine fG (jget _) ?_
  refine⟨_,_,rfl,da hS,oU (BX (fun d=>match d with|.tup (a::_)=>.tup [.str r.name,a]|d=>d) ?_)⟩
  refine qT (Br (fG (vget _) (KI (av rfl (bS ?_)))))
  have hdl:=hd r (mQg hr)
  refine⟨trivial,by simp;omega,fun d hd=> ?_,?_⟩
  ·obtain⟨p,_,rfl⟩:=Qkq.mp hd
   have sg:(nQ [none,some v] (Γ.set v (some r.d))).set 0 (some (j3 p))= [some (j3 p),some r.d]:=by
    show [some (j3 p),(Γ.set v (some r.d)).getD v none]=_
    rw[Qlq,vget]
    rfl
   rw[sg]
   symm
   apply av rfl ?_
   apply av rfl ?_
   exact⟨by show 2<=_;decide,rfl,rfl⟩
  ·have lg:∀l:List Rm,(∀r∈l,r.ae.length<=6)->(a9 l).length<=6*l.length:=by
    intro l
    induction l with
    |nil=>intro _;simp[a9]
    | cons a l ih=>
      intro h
      have:=ih fun r hr=>h r (Qpq _ hr)
      have:=h a (QBq ..)
      simp only[a9,QSq,lQa,lQm,Qnq] at *
      omega
   have lt:=lg (rs.take n) fun r hr=>hd r (List.mem_of_mem_take hr)
   rw[Qxq] at lt
   refine⟨_,da hS,⟨rfl,?_⟩,fun z=>absurd z (by omega),⟨_,rfl⟩,?_⟩
   ·simp only[lQm]
    exact nQl (bD (by omega))
   ·rw[List.set_set,QYq,hr]
    congr 2
    simp only[a9,List.flatMap_append,Qzq,Option.toList_some,QSq,List.flatMap_nil,List.append_nil,QPq]
    rfl
 ·subst hΓ hS'
  rw[lQm,QEq]
  exact q o
def Hn(stem:Str):∀a b:Str,stem++a=stem++b->a=b:=by
 intro a b h
 have h1:(stem++a).cps.toList=(stem++b).cps.toList:=by rw[h]
 have e:∀c:Str,(stem++c).cps.toList=stem.cps.toList++c.cps.toList:=fun c=>by
  show(stem.cps++c.cps).toList=_
  simp
 rw[e,e] at h1
 exact Str.ext' (Array.toList_inj.mp (List.append_cancel_left h1))
def Dc(stem:Str):(six.map (stem++·)).Nodup:=by
 have base:six.Nodup:=by decide +kernel
 exact List.Pairwise.map (R:=(·≠·)) (S:=(·≠·)) _ (fun a b n e=>n (Hn stem a b e)) base
def Fx{S S0:aH}{k m many:Nat}{Q:Res->aH->Prop}(x:Ex k S0 S)(nm:m≠k)(gm:S[m]?=some (.lst [.str "at once",.str "when free"]))(hm:many<=3)
  (h:∀(rs:List Rm) (S':aH),(rs.map (·.name)).Nodup->rs.length<=3->(∀r∈rs,yu (a9 rs) r)->Ex k S0 S'->Ex k S S'->S'.length=S.length->Q (.d (.tup (rs.map Rm.d))) S'):
  Fn jo [.ref k,.int many,.ref m,.int 2] S Q:=by
 have y:Ex k S S:=by obtain⟨a,b,c,hh⟩:=x.pot;exact Ex.refl hh
 have kl:=x.lt
 have ml:=(gQs.mp gm).1
 refine cg ?_
 unfold qx
 symm
 apply iU y (by omega) (by omega) (by decide) fun names S1 hp hnl e1 e1' l1=> ?_
 refine⟨by decide,?_⟩
 have nn:names.Nodup:=by
  obtain⟨l,hp⟩:=hp
  exact(List.nodup_append.mp (hp.nodup_iff.mpr (Dc _))).1
 generalize ha:S1.length=a
 generalize hr:a+1=r
 have hlen0:(S1++ [O.lst (names.map D.str)]).length=r:=by simp[ha,hr]
 rw[hlen0]
 have e2:Ex k S (S1++ [O.lst (names.map D.str)]++ [O.lst []]):=e1.app.app
 have ga:(S1++ [O.lst (names.map D.str)]++ [O.lst []])[a]?=some (.lst (names.map D.str)):=by rw[←ha];exact bh aP
 have gr:(S1++ [O.lst (names.map D.str)]++ [O.lst []])[r]?=some (.lst []):=by rw[←hlen0];exact aP
 have hk1:=e1.lt
 generalize (S1++ [O.lst (names.map D.str)]++ [O.lst []])=S2 at e2 ga gr⊢
 have sa:S.length<=a:=by rw[←ha];exact e1.len
 have ka:a≠k:=by omega
 have kr:r≠k:=by omega
 refine bV (KQ (fun q Γ' S'=>∃(o6 o7 o8:Option D) (lf:List Str) (rs:List Rm),Γ'= [some (.ref k),some (.int many),some (.ref m),some (.int 2),some (.ref a),some (.ref r),o6,o7,o8]/\Ex k S S'/\S'[a]?=some (.lst (lf.map D.str))/\S'[r]?=some (.lst (rs.map Rm.d))/\lf.length=q/\(rs.map (·.name)++lf).Perm names/\∀x∈rs,yu (a9 rs) x) ?_ 4 names.length _ _ (by omega) ?_)
 ·rintro q Γ' S3 ⟨o6,o7,o8,lf,rs,rfl,e3,ga3,gr3,hq,hpm,hok⟩
  have hlen:=hpm.length_eq
  rw[lQa,lQm] at hlen
  symm
  refine b9 ga3 ?_
  refine⟨⟨rfl,ga3⟩,?_⟩
  dsimp only
  refine aV (fun c=> ?_) (fun c=> ?_)
  ·have hl0:0<lf.length:=by
    cases lf with
    |nil=>simp at c
    |cons a b=>simp
   apply⟨lf.length-1,by omega,?_⟩
   refine⟨by decide,?_⟩
   refine bV ?_
   have k3:S3.length≠k:=by have:=e3.lt;omega
   have r3:=(gQs.mp gr3).1
   have a3:=(gQs.mp ga3).1
   have stay:∀o,Tag.stays ((S3++ [O.lst []]).set S3.length o) (rs.map Rm.d) (.st r):=fun o=>fL (by omega) (bh gr3)
   refine ze (i:=S3.length) (j:=6) (v:=7) (rs:=rs) (tg:=.st r) (by simp) rfl aP (fun R hR=>qT (fG rfl (b9 (bh gr3) hR))) stay (by decide) (fun r hr=>(hok r hr).l3) (by omega) (fun o=> ?_)
   have e4:Ex k S ((S3++ [O.lst []]).set S3.length (.lst ((a9 rs).map dQ))):=e3.app.put e3.len kl
   have ga4:((S3++ [O.lst []]).set S3.length (.lst ((a9 rs).map dQ)))[a]?=some (.lst (lf.map D.str)):=fL (by omega) (bh ga3)
   have gr4:((S3++ [O.lst []]).set S3.length (.lst ((a9 rs).map dQ)))[r]?=some (.lst (rs.map Rm.d)):=fL (by omega) (bh gr3)
   have gg4:((S3++ [O.lst []]).set S3.length (.lst ((a9 rs).map dQ)))[S3.length]?=some (.lst ((a9 rs).map dQ)):=da aP
   have lg:(a9 rs).length<=100:=by
    have gen:∀l:List Rm,(∀r∈l,r.ae.length<=6)->(a9 l).length<=6*l.length:=by
     intro l
     induction l with
     |nil=>intro _;simp[a9]
     | cons a l ih=>
       intro h
       have:=ih fun r hr=>h r (Qpq _ hr)
       have:=h a (QBq ..)
       simp only[a9,QSq,lQa,lQm,Qnq] at *
       omega
    have:=gen rs fun r hr=>(hok r hr).l3
    omega
   generalize ((S3++ [O.lst []]).set S3.length (.lst ((a9 rs).map dQ)))=S4 at e4 ga4 gr4 gg4⊢
   dsimp only
   apply bV (Cu (k_ ?_))
   apply⟨_,_,rfl,ga4,?_⟩
   apply b9 ga4 ?_
   refine bR e4 (by simp only[lQm];omega) (by simp only[lQm];omega) fun j S5 hj e5 e5' l5=> ?_
   dsimp only
   symm
   have hj':j<lf.length:=by simpa using hj
   have ga5:=e5'.keep _ _ ka ga4
   refine⟨_,ga5,?_⟩
   refine LP (d:=((lf.map D.str).eraseIdx j,D.str lf[j])) ?_ ?_
   ·simp only[nz]
    rw[Qhq ⟨by omega,by omega⟩,lQm,IC hj' (by omega)]
    simp[gQe hj']
   dsimp only
   refine jb (k_ ?_)
   have e6:Ex k S (S5.set a (.lst ((lf.map D.str).eraseIdx j))):=e5.put sa kl
   have ga6:(S5.set a (.lst ((lf.map D.str).eraseIdx j)))[a]?=some (.lst ((lf.eraseIdx j).map D.str)):=by rw[da ga5,pM]
   have gr6:(S5.set a (.lst ((lf.map D.str).eraseIdx j)))[r]?=some (.lst (rs.map Rm.d)):=fL (by omega) (e5'.keep _ _ kr gr4)
   have gg6:(S5.set a (.lst ((lf.map D.str).eraseIdx j)))[S3.length]?=some (.lst ((a9 rs).map dQ)):=fL (by omega) (e5'.keep _ _ k3 gg4)
   generalize (S5.set a (.lst ((lf.map D.str).eraseIdx j)))=S6 at e6 ga6 gr6 gg6⊢
   symm
   apply⟨_,_,rfl,gr6,?_⟩
   apply Ij (goals:=a9 rs) e6 k3 nm gg6 (e6.keep _ _ nm gm) lg fun rm S7 hrn hro e7 e7' l7=> ?_
   have gr7:=e7'.keep _ _ kr gr6
   refine⟨_,gr7,fK (bD (by simp only[lQm];omega)) ?_⟩
   have hgo:a9 (rs++ [rm])=a9 rs++rm.ae.map fun p=>(rm.name,p.1):=by simp[a9]
   refine⟨_,_,_,lf.eraseIdx j,rs++ [rm],rfl,e7.put (by omega) kl,fL (by omega) (e7'.keep _ _ ka ga6),?_,?_,?_,fun q hq=> ?_⟩
   ·rw[da gr7]
    simp
   ·rw[List.length_eraseIdx_of_lt hj']
   ·rw[Qzq]
    show((rs.map (·.name)++ [rm.name])++lf.eraseIdx j).Perm names
    rw[hrn]
    exact zR hj' hpm
   ·rw[hgo]
    rcases mQa.mp hq with hq|hq
    ·exact(hok q hq).sub fun g hg=>List.mem_append_left _ hg
    ·rw[Qfq.mp hq,hrn]
     exact hro
  ·have hl0:lf= []:=by
    cases lf with
    |nil=>rfl
    |cons a b=>simp at c
   subst hl0
   rw[List.append_nil] at hpm
   apply qE (Ki (oU (Ha ?_)))
   refine b9 gr3 ?_
   have l3:rs.length<=3:=by simp at hlen;omega
   refine⟨rfl,_,C2 rs,⟨by simpa using l3,hpm.nodup_iff.mpr nn⟩,?_⟩
   obtain⟨ys,hy,he⟩:=Dv (f:=Rm.d) (ss:=rs.map (·.name)) (xs:=rs) ⟨"","",[],[],[]⟩ l3
   rw[he]
   refine lT e3 x.lt (fun k z=>(nomatch z)) (by simp only[cp];exact bp fun q _=>dH q.low) fun a b c=> ?_
   refine h ys _ ((hy.map _).nodup_iff.mpr (hpm.nodup_iff.mpr nn)) (by rw[hy.length_eq];exact l3) (fun q hq=>(hok q (hy.mem_iff.mp hq)).sub fun g hg=> ?_) x.set y.set (by simp)
   simp only[a9,QOq] at hg⊢
   obtain⟨z,hz,hg⟩:=hg
   exact⟨z,hy.mem_iff.mpr hz,hg⟩
 ·exact⟨none,none,none,names,[],rfl,e2,ga,gr,rfl,by simp,by simp⟩
def Ju{S S0:aH}{k g w p:Nat}{words passes:List Str}{goals:List (Str×Str)}{Q:Res->aH->Prop}(x:Ex k S0 S)(ng:g≠k)(nw:w≠k)(np:p≠k)(gg:S[g]?=some (.lst (goals.map dQ)))(gw:S[w]?=some (.lst (words.map D.str)))(gp:S[p]?=some (.lst (passes.map D.str)))
  (lg:goals.length<500) (lw:words.length<500) (lp:passes.length<500)
  (h:∀(rs:List Rw) (S':aH),uK ⟨true,words,words,[],goals,passes⟩ rs->0<rs.length->rs.length<=9->Ex k S0 S'->Ex k S S'->S'.length=S.length->Q (.d (.tup (rs.map Rw.d))) S'):
  Fn mK [.ref k,.ref g,.ref w,.ref p,.int 4] S Q:=by
 have y:Ex k S S:=by obtain⟨a,b,c,hh⟩:=x.pot;exact Ex.refl hh
 have kl:=x.lt
 have gl:=(gQs.mp gg).1
 have wl:=(gQs.mp gw).1
 have pl:=(gQs.mp gp).1
 generalize hsc:(⟨true,words,words,[],goals,passes⟩:Sc)=sc at h
 have so:sc.own=true:=by rw[←hsc]
 have sw:sc.ws=words:=by rw[←hsc]
 have sp:sc.ps=words:=by rw[←hsc]
 have sb:sc.bs= []:=by rw[←hsc]
 have sg:sc.gs=goals:=by rw[←hsc]
 have st:sc.ts=passes:=by rw[←hsc]
 refine cg ?_
 unfold wu
 symm
 refine⟨by decide,?_⟩
 generalize hr:S.length=r
 have ir:(S++ [O.lst []])[r]?=some (.lst []):=by rw[←hr];exact aP
 have e0:Ex k S (S++ [O.lst []]):=y.app
 generalize (S++ [O.lst []])=S1 at e0 ir⊢
 have nr:r≠k:=by omega
 apply bV (hX ?_)
 apply bR e0 (by decide) (by decide) fun many S2 hmany e2 e2' l2=> ?_
 refine⟨_,rfl,⟨by omega,by omega⟩,?_⟩
 let Inv:Nat->de->aH->Prop:=fun n Γ' S'=>∃(o6 o7:Option D) (rs:List Rw),Γ'= [some (.ref k),some (.ref g),some (.ref w),some (.ref p),some (.int 4),some (.ref r),o6,o7]∧
  Ex k S S'/\S'[r]?=some (.lst (rs.map Rw.d))/\rs.length<=2*n/\n<=rs.length/\n<=4/\∀q∈rs,q.Ok sc rs.length
 have small:∀m:Nat,m<=100->m<sizeLine:=fun m hm=>Nat.lt_of_le_of_lt hm (by decide)
 have lw':sc.ws.length<1000:=by rw[sw];omega
 have lp':sc.ps.length<900:=by rw[sp];omega
 have lg':sc.gs.length<1000:=by rw[sg];omega
 have up:∀{t':Tr} {d:Nat},t'.Ok sc.ws []->t'.dep<=d+1->d<=3->F9 sc t':=fun h1 h2 h3=>⟨by rw[sb];exact h1,by omega⟩
 refine⟨Inv,⟨_,_,[],rfl,e2,e2'.keep _ _ nr ir,by simp,by simp,by omega,by simp⟩,fun _ _ _ _=>trivial,?_,?_⟩
 ·rintro n d Γ' S3 hd ⟨o6,o7,rs,rfl,e3,hr3,hl1,hl2,hn4,hok⟩
  have hn4':n<4:=by
   have:=(gQs.mp hd).1
   simp only[jR,lQm,QVq] at this
   omega
  apply a_ ?_
  refine bR e3 (by decide) (by decide) fun way S4 hway e4 e4' l4=> ?_
  dsimp only
  have hr4:=e4'.keep _ _ nr hr3
  have gw4:=e4.keep _ _ nw gw
  have gg4:=e4.keep _ _ ng gg
  have gp4:=e4.keep _ _ np gp
  rw[←sw] at gw4
  rw[←sg] at gg4
  rw[←st] at gp4
  have gw4':=gw4
  rw[sw,←sp] at gw4'
  have more:∀(ms:List Rw) (S5:aH),Ex k S S5->S5[r]?=some (.lst (rs.map Rw.d++ms.map Rw.d))->1<=ms.length->ms.length<=2->(∀q∈ms,q.Ok sc (rs.length+ms.length))→
    Inv (n+1) [some (.ref k),some (.ref g),some (.ref w),some (.ref p),some (.int 4),some (.ref r),some d,some (.int way)] S5:=by
   intro ms S5 e5 h2 h3 h4 h5
   refine⟨_,_,rs++ms,rfl,e5,by rw[h2,Qzq],by rw[lQa];omega,by rw[lQa];omega,by omega,fun q hq=> ?_⟩
   rw[lQa]
   rcases mQa.mp hq with hq|hq
   ·exact(hok q hq).mono (by omega)
   ·exact h5 q hq
  have lr:(rs.map Rw.d).length=rs.length:=by simp
  have said:∀S5 (q5:List Rw),Ex k S S5->S5[r]?=some (.lst (q5.map Rw.d))->q5.length<=50->∀(R:Out->Prop),(∀(t:Tr) (S6:aH),F9 sc t->Ex k S S6->S6[r]?=some (.lst ((q5++ [Rw.say t]).map Rw.d))->R (.nx [some (.ref k),some (.ref g),some (.ref w),some (.ref p),some (.int 4),some (.ref r),some d,some (.int way)] S6))→
    T (mY (rX i8 (ak 5) (aj (bg (aj (cF (.str "say")) (aj (ay (bE 4) (aj (ak 0) (aj (ak 2) (aj (cO (bP au)) (aj (cF (.int 1)) au))))) au))) au))) [some (.ref k),some (.ref g),some (.ref w),some (.ref p),some (.int 4),some (.ref r),some d,some (.int way)] S5 R:=by
   intro S5 q5 e5 hr5 hl5 R hR
   apply jb (k_ ?_)
   apply⟨_,_,rfl,hr5,?_⟩
   apply⟨by decide,?_⟩
   have w5:=e5.keep _ _ nw gw
   rw[←sw] at w5
   refine jK 4 (deep:=1) (bs:= []) (e5.app (G:= [O.lst []])) nw (j:=S5.length) (by have:=e5.lt;omega) (bh w5) aP lw' (by decide) (by decide) fun t3 S6 h3 h4 e6 e6' l6=> ?_
   symm
   refine⟨by show 2<=_;decide,?_⟩
   symm
   have hr6:=e6'.keep _ _ nr (bh hr5)
   refine⟨_,hr6,fK (small _ (by simp;omega)) ?_⟩
   refine hR t3 _ (up h3 h4 (by omega)) (e6.put (by omega) kl) ?_
   rw[da hr6]
   simp[Rw.d]
  refine eY (sm rfl rfl gg4 fun c hc=>aV (fun c1=> ?_) (fun c1=> ?_))
  ·apply jb (k_ ?_)
   apply⟨_,_,rfl,hr4,?_⟩
   apply IM (n:=rs.length+1) (sc:=sc) e4 ng nw nw gg4 gw4' gw4 (by simpa using hc c1) lg' lp' lw' fun q S5 h1 e5 e5' l5=> ?_
   have hr5:=e5'.keep _ _ nr hr4
   refine⟨_,hr5,fK (small _ (by rw[lr];omega)) ?_⟩
   exact more [q] _ (e5.put (by omega) kl) (da hr5) (by simp) (by simp) fun q' hq'=>by rw[Qfq.mp hq'];exact h1
  refine eY (sy rfl rfl gp4 fun c hc=>aV (fun c1=> ?_) (fun c1=> ?_))
  ·apply jb (k_ ?_)
   apply⟨_,_,rfl,hr4,?_⟩
   apply⟨by decide,?_⟩
   refine bR (e4.app (G:= [O.lst [.str "take",.str "give"]])) (by decide) (by decide) fun v S5 hv e5 e5' l5=> ?_
   dsimp only
   have hc2:∃(f:Str->Rw) (s:Str),(∀z,(f z).d=.tup [.str s,.str z])/\(∀z n,z∈sc.ts->(f z).Ok sc n)/\k8 ([.str "take",.str "give"]:List D) (v:Int)=some (.str s):=by
    rcases v with _|_|v
    ·exact⟨.take,"take",fun _=>rfl,fun z n hz=>⟨so,hz⟩,rfl⟩
    ·exact⟨.give,"give",fun _=>rfl,fun z n hz=>⟨so,hz⟩,rfl⟩
    ·omega
   obtain⟨f,s,hf,hfo,hs⟩:=hc2
   refine eU (e5'.keep _ _ (by have:=e4.lt;omega) aP) hs ?_
   symm
   refine fB e5 np (e5'.keep _ _ np (bh gp4)) (hc c1) (by rw[st];simp;omega) eI gJ fun v2 S6 hv2 e6 e6' l6=> ?_
   obtain⟨z,hz,rfl⟩:=Qkq.mp hv2
   symm
   refine⟨by show 2<=_;decide,?_⟩
   symm
   have hr6:=e6'.keep _ _ nr (e5'.keep _ _ nr (bh hr4))
   refine⟨_,hr6,fK (small _ (by rw[lr];omega)) ?_⟩
   refine more [f z] _ (e6.put (by omega) kl) ?_ (by simp) (by simp) fun q' hq'=>by rw[Qfq.mp hq'];exact hfo _ _ hz
   rw[da hr6]
   simp[hf]
  refine eY (sy rfl rfl gp4 fun c hc=>aV (fun c1=> ?_) (fun c1=> ?_))
  ·apply jb (k_ ?_)
   apply⟨_,_,rfl,hr4,?_⟩
   refine fB e4 np gp4 (hc c1) (by rw[st];simp;omega) eI gJ fun v2 S5 hv2 e5 e5' l5=> ?_
   obtain⟨z,hz,rfl⟩:=Qkq.mp hv2
   symm
   refine fB e5 np (e5'.keep _ _ np gp4) (hc c1) (by rw[st];simp;omega) eI gJ fun v3 S6 hv3 e6 e6' l6=> ?_
   obtain⟨z2,hz2,rfl⟩:=Qkq.mp hv3
   symm
   refine⟨by show 3<=_;decide,?_⟩
   symm
   have hr6:=e6'.keep _ _ nr (e5'.keep _ _ nr hr4)
   refine⟨_,hr6,fK (small _ (by rw[lr];omega)) ?_⟩
   exact more [.pass z z2] _ (e6.put (by omega) kl) (da hr6) (by simp) (by simp) fun q' hq'=>by rw[Qfq.mp hq'];exact⟨so,hz,hz2⟩
  refine eY (sy rfl rfl gw4 fun c hc=>aV (fun c1=> ?_) (fun c1=> ?_))
  ·apply jb (k_ ?_)
   apply⟨_,_,rfl,hr4,?_⟩
   refine fB e4 nw gw4 (hc c1) (by simp;omega) eI gJ fun v2 S5 hv2 e5 e5' l5=> ?_
   obtain⟨z,hz,rfl⟩:=Qkq.mp hv2
   symm
   apply⟨by decide,?_⟩
   refine jK 4 (deep:=2) (bs:= []) (e5.app (G:= [O.lst []])) nw (j:=S5.length) (by have:=e5.lt;omega) (bh (e5'.keep _ _ nw gw4)) aP lw' (by decide) (by decide) fun t3 S6 h3 h4 e6 e6' l6=> ?_
   symm
   refine⟨by show 3<=_;decide,?_⟩
   symm
   have hr6:=e6'.keep _ _ nr (bh (e5'.keep _ _ nr hr4))
   refine⟨_,hr6,fK (small _ (by rw[lr];omega)) ?_⟩
   exact more [.put z t3] _ (e6.put (by omega) kl) (da hr6) (by simp) (by simp) fun q' hq'=>by rw[Qfq.mp hq'];exact⟨by rw[sp,←sw];exact hz,up h3 h4 (by omega)⟩
  refine eY (IQ rfl fun c=>aV (fun c1=> ?_) (fun c1=> ?_))
  ·apply bV (jb (k_ ?_))
   apply⟨_,_,rfl,hr4,?_⟩
   apply⟨by decide,?_⟩
   refine jK 4 (deep:=2) (bs:= []) (e4.app (G:= [O.lst []])) nw (j:=S4.length) (by have:=e4.lt;omega) (bh gw4) aP lw' (by decide) (by decide) fun t3 S5 h3 h4 e5 e5' l5=> ?_
   symm
   have hr5:=e5'.keep _ _ nr (bh hr4)
   apply b9 hr5 ?_
   refine⟨by show 3<=_;decide,?_⟩
   symm
   refine⟨_,hr5,fK (small _ (by rw[lr];omega)) ?_⟩
   dsimp only
   have hr6:(S5.set r (.lst (rs.map Rw.d++ [.tup [.str "unless",t3.d,.int (((rs.map Rw.d).length:Int)+2)]])))[r]?=some (.lst ((rs++ [Rw.unl t3 (rs.length+2)]).map Rw.d)):=by
    rw[da hr5]
    simp[Rw.d]
   refine said _ (rs++ [Rw.unl t3 (rs.length+2)]) (e5.put (by omega) kl) hr6 (by simp;omega) _ fun t4 S6 h5 e6 hr7=> ?_
   refine more [.unl t3 (rs.length+2),.say t4] _ e6 (by rw[hr7];simp) (by simp) (by simp) fun q hq=> ?_
   simp only[Qsq,QXq,or_false] at hq
   rcases hq with rfl|rfl
   ·exact⟨up h3 h4 (by omega),Qmq _⟩
   ·exact⟨so,h5⟩
  ·refine said _ rs e4 hr4 (by omega) _ fun t4 S6 h5 e6 hr7=> ?_
   exact more [.say t4] _ e6 (by rw[hr7];simp) (by simp) (by simp) fun q' hq'=>by rw[Qfq.mp hq'];exact⟨so,h5⟩
 ·rintro Γ' S3 ⟨o6,o7,rs,rfl,e3,hr3,hl1,hl2,hn4,hok⟩
  have hlen:(jR 0 (1+(many:Int))).length=many+1:=by simp only[jR,lQm,QVq];omega
  rw[hlen] at hl1 hl2 hn4
  have fin:∀(rs:List Rw) (S4:aH),Ex k S S4->S4[r]?=some (.lst (rs.map Rw.d))->(∀q∈rs,q.Ok sc rs.length)->0<rs.length->rs.length<=9->T (cA (tupQ (iE (aX (ak 5))))) [some (.ref k),some (.ref g),some (.ref w),some (.ref p),some (.int 4),some (.ref r),o6,o7] S4 fun o=>match o with
    |.nx _ S'=>Op (settle S .non S') fun p=>Q p.1 p.2|.rt d S'=>Op (settle S d S') fun p=>Q p.1 p.2|.rl l S'=>Op (dF S l S') fun p=>Q p.1 p.2|_=>False:=by
   intro rs S4 e4 hr4 hok h1 h2
   symm
   refine b9 hr4 ?_
   refine⟨rfl,?_⟩
   dsimp only
   refine lT e4 x.lt (fun k z=>(nomatch z)) (by simp only[cp];exact bp fun q _=>dH q.low) fun a b c=> ?_
   exact h rs _ hok h1 h2 x.set y.set (by simp)
  apply bV (eY ?_)
  apply bR e3 (by decide) (by decide) fun v S4 hv e4 e4' l4=> ?_
  refine er ?_
  dsimp only
  have hr4:=e4'.keep _ _ nr hr3
  refine aV (fun c=> ?_) (fun c=> ?_)
  ·apply jb (k_ ?_)
   apply⟨_,_,rfl,hr4,?_⟩
   apply b9 hr4 ?_
   refine bR e4 (by simp only[lQm];omega) (by simp only[lQm];omega) fun v2 S5 hv2 e5 e5' l5=> ?_
   symm
   refine⟨by show 2<=_;decide,?_⟩
   symm
   have hr5:=e5'.keep _ _ nr hr4
   refine⟨_,hr5,fK (small _ (by simp;omega)) ?_⟩
   dsimp only
   simp only[lQm] at hv2
   refine fin (rs++ [Rw.go v2]) _ (e5.put (by omega) kl) (by rw[da hr5];simp[Rw.d]) (fun q hq=> ?_) (by simp) (by simp;omega)
   rw[lQa]
   rcases mQa.mp hq with hq|hq
   ·exact(hok q hq).mono (by simp)
   ·rw[Qfq.mp hq]
    show v2<=rs.length+1
    omega
  ·exact cu (fin rs S4 e4 hr4 hok (by omega) (by omega))
def mW(p:List (Str×Nat)×List Rw):D:=.tup [.tup (p.1.map uV),.tup (p.2.map Rw.d)]
structure dD where
 rooms:List Rm
 passes:List (Str×Nat)
 shared:List (Str×Nat)
 af:List (List (Str×Nat)×List Rw)
def dD.d(w:dD):D:=.tup [.tup (w.rooms.map Rm.d),.tup (w.passes.map uV),.tup (w.shared.map uV),.tup (w.af.map mW)]
structure B1(gs:List (Str×Str))(shared passes:List Str)(h:List (Str×Nat)×List Rw):Prop where
 tv:∀p∈h.1,p.2<=9
 l1:h.1.length<=6
 l2:h.2.length<=9
 l0:0<h.2.length
 pr:uK ⟨true,h.1.map (·.1)++shared,h.1.map (·.1)++shared,[],gs,passes⟩ h.2
structure fE(w:dD):Prop where
 nd:(w.rooms.map (·.name)).Nodup
 l1:w.rooms.length<=3
 l2:w.passes.length<=6
 l3:w.shared.length<=6
 l4:w.af.length<=4
 l0:0<w.af.length
 pv:∀p∈w.passes,p.2<=9
 sv:∀p∈w.shared,p.2<=9
 rm:∀r∈w.rooms,yu (a9 w.rooms) r
 hd:∀h∈w.af,B1 (a9 w.rooms) (w.shared.map (·.1)) (w.passes.map (·.1)) h
def Fk(p:List (Str×Nat)×List Rw):cp 0 (mW p)=true:=by
 simp only[mW,cp,cc,Bool.and_true,Bool.true_and,QCq]
 exact⟨bp fun _ _=>rfl,bp fun r _=>r.low⟩
def dD.low(w:dD):cp 0 w.d=true:=by
 simp only[dD.d,cp,cc,Bool.and_true,Bool.true_and,QCq]
 exact⟨bp fun r _=>r.low,bp fun _ _=>rfl,bp fun _ _=>rfl,bp fun p _=>Fk p⟩
def Dw{rs:List Rm}(hd:∀r∈rs,r.ae.length<=6):(a9 rs).length<=6*rs.length:=by
 induction rs with
 |nil=>simp[a9]
 | cons a l ih=>
   have:=ih fun r hr=>hd r (Qpq _ hr)
   have:=hd a (QBq ..)
   simp only[a9,QSq,lQa,lQm,Qnq] at *
   omega
def Gk{S S0:aH}{k af:Nat}{rs:List Rm}{Q:Res->aH->Prop}(x:Ex k S0 S)(h0:0<af)(h4:af<=4)(nd:(rs.map (·.name)).Nodup)(hl:rs.length<=3)(hok:∀r∈rs,yu (a9 rs) r)
  (h:∀(w:dD) (S':aH),fE w->Ex k S0 S'->Ex k S S'->S'.length=S.length->Q (.d w.d) S'):
  Fn ji [.ref k,.tup (rs.map Rm.d),.int af,.int 2] S Q:=by
 have y:Ex k S S:=by obtain⟨a,b,c,hh⟩:=x.pot;exact Ex.refl hh
 have kl:=x.lt
 have gln:=Dw fun r hr=>(hok r hr).l3
 refine cg ?_
 unfold qN
 symm
 refine⟨by decide,?_⟩
 refine bV ?_
 refine ze (i:=S.length) (j:=4) (v:=5) (rs:=rs) (tg:=.tu) (by simp) rfl aP (fun R hR=>qT (fG rfl (bS hR))) (fun _=>trivial) (by decide) (fun r hr=>(hok r hr).l3) hl (fun o=> ?_)
 have e1:Ex k S ((S++ [O.lst []]).set S.length (.lst ((a9 rs).map dQ))):=y.app.put (Qmq _) kl
 have gg1:((S++ [O.lst []]).set S.length (.lst ((a9 rs).map dQ)))[S.length]?=some (.lst ((a9 rs).map dQ)):=da aP
 generalize ((S++ [O.lst []]).set S.length (.lst ((a9 rs).map dQ)))=S1 at e1 gg1⊢
 generalize hg:S.length=g at gg1⊢
 have ng:g≠k:=by omega
 symm
 apply bR e1 (by decide) (by decide) fun np S2 hnp e2 e2' l2=> ?_
 apply iU e2 (by omega) (by omega) (by decide) fun passes S3 _ hpl e3 e3' l3=> ?_
 apply⟨by decide,?_⟩
 have k3:S3.length≠k:=by have:=e3.lt;omega
 have gg3:(S3++ [O.lst (passes.map D.str)])[g]?=some (.lst ((a9 rs).map dQ)):=bh (e3'.keep _ _ ng (e2'.keep _ _ ng gg1))
 have gp3:(S3++ [O.lst (passes.map D.str)])[S3.length]?=some (.lst (passes.map D.str)):=aP
 have e3a:Ex k S (S3++ [O.lst (passes.map D.str)]):=e3.app
 have sl3:S.length<=S3.length:=e3.len
 have l3a:(S3++ [O.lst (passes.map D.str)]).length=S3.length+1:=by simp
 generalize (S3++ [O.lst (passes.map D.str)])=T3 at gg3 gp3 e3a l3a⊢
 refine bR (e3a.app (G:= [O.lst [.int 0,.int 0,.int 1,.int 2]])) (by decide) (by decide) fun v S4 hv e4 e4' l4=> ?_
 dsimp only
 obtain⟨ns,hns,ha⟩:∃n:Nat,n<=2/\k8 ([.int 0,.int 0,.int 1,.int 2]:List D) (v:Int)=some (.int n):=by
  rcases v with _|_|_|_|v
  ·exact⟨0,by omega,rfl⟩
  ·exact⟨0,by omega,rfl⟩
  ·exact⟨1,by omega,rfl⟩
  ·exact⟨2,by omega,rfl⟩
  ·omega
 refine eU (e4'.keep _ _ (by have:=e3a.lt;omega) aP) ha ?_
 symm
 apply iU e4 (by omega) (by omega) (by decide) fun shared S5 _ hsl e5 e5' l5=> ?_
 refine⟨by decide,?_⟩
 have k5:S5.length≠k:=by have:=e5.lt;omega
 have gg5:(S5++ [O.lst (shared.map D.str)]++ [O.lst []])[g]?=some (.lst ((a9 rs).map dQ)):=bh (bh (e5'.keep _ _ ng (e4'.keep _ _ ng (bh gg3))))
 have gp5:(S5++ [O.lst (shared.map D.str)]++ [O.lst []])[S3.length]?=some (.lst (passes.map D.str)):=bh (bh (e5'.keep _ _ k3 (e4'.keep _ _ k3 (bh gp3))))
 have gs5:(S5++ [O.lst (shared.map D.str)]++ [O.lst []])[S5.length]?=some (.lst (shared.map D.str)):=bh aP
 have h35:S3.length<S5.length:=by
  have:=e5'.len
  have:=e4'.len
  simp only[lQa,Qnq,QGq] at *
  omega
 have e6:Ex k S (S5++ [O.lst (shared.map D.str)]++ [O.lst []]):=e5.app.app
 generalize hr:S5.length+1=r
 have hlen0:(S5++ [O.lst (shared.map D.str)]).length=r:=by simp[hr]
 rw[hlen0]
 have gr:(S5++ [O.lst (shared.map D.str)]++ [O.lst []])[r]?=some (.lst []):=by rw[←hlen0];exact aP
 generalize (S5++ [O.lst (shared.map D.str)]++ [O.lst []])=S6 at e6 gg5 gp5 gs5 gr⊢
 have kr:r≠k:=by have:=e5.lt;omega
 apply bV (hX ?_)
 refine⟨_,rfl,⟨by omega,by omega⟩,?_⟩
 let Inv:Nat->de->aH->Prop:=fun n Γ' S'=>∃(o9 o10 o11:Option D) (hs:List (List (Str×Nat)×List Rw)),Γ'= [some (.ref k),some (.tup (rs.map Rm.d)),some (.int af),some (.int 2),some (.ref g),o,some (.ref S3.length),some (.ref S5.length),some (.ref r),o9,o10,o11,none]∧
  Ex k S S'/\S'[g]?=some (.lst ((a9 rs).map dQ))/\S'[S3.length]?=some (.lst (passes.map D.str))/\S'[S5.length]?=some (.lst (shared.map D.str))/\S'[r]?=some (.lst (hs.map mW))/\hs.length=n/\(∀p∈hs,B1 (a9 rs) shared passes p)
 refine⟨Inv,⟨none,none,none,[],rfl,e6,gg5,gp5,gs5,gr,rfl,by simp⟩,fun _ _ _ _=>trivial,?_,?_⟩
 ·rintro n d Γ' S7 hd ⟨o9,o10,o11,hs,rfl,e7,gg7,gp7,gs7,gr7,hn,hpr⟩
  have hn4:n<4:=by
   have:=(gQs.mp hd).1
   simp only[jR,lQm,QVq] at this
   omega
  apply a_ ?_
  apply⟨by decide,?_⟩
  refine bR (e7.app (G:= [O.lst [.int 0,.int 1,.int 1,.int 2]])) (by decide) (by decide) fun v S8 hv e8 e8' l8=> ?_
  dsimp only
  obtain⟨nw,hnw,ha⟩:∃n:Nat,n<=2/\k8 ([.int 0,.int 1,.int 1,.int 2]:List D) (v:Int)=some (.int n):=by
   rcases v with _|_|_|_|v
   ·exact⟨0,by omega,rfl⟩
   ·exact⟨1,by omega,rfl⟩
   ·exact⟨1,by omega,rfl⟩
   ·exact⟨2,by omega,rfl⟩
   ·omega
  refine eU (e8'.keep _ _ (by have:=e7.lt;omega) aP) ha ?_
  symm
  apply iU e8 (by omega) (by omega) (by decide) fun own S9 _ hol e9 e9' l9=> ?_
  have k9:S9.length≠k:=by have:=e9.lt;omega
  have keep9:∀{i:Nat} {o:O},i≠k->S7[i]?=some o->(S9++ [O.lst (own.map D.str)])[i]?=some o:=fun n h=>bh (e9'.keep _ _ n (e8'.keep _ _ n (bh h)))
  have go9:(S9++ [O.lst (own.map D.str)])[S9.length]?=some (.lst (own.map D.str)):=aP
  have e9a:Ex k S (S9++ [O.lst (own.map D.str)]):=e9.app
  have gg9:=keep9 ng gg7
  have gp9:=keep9 k3 gp7
  have gs9:=keep9 k5 gs7
  have gr9:=keep9 kr gr7
  have r9:r<S9.length:=by
   have:=(gQs.mp gr7).1
   have:=e8'.len
   have:=e9'.len
   simp only[lQa,Qnq,QGq] at *
   omega
  generalize (S9++ [O.lst (own.map D.str)])=T9 at go9 e9a gg9 gp9 gs9 gr9⊢
  apply zK ?_
  apply b9 go9 ?_
  refine b9 gs9 ?_
  refine⟨⟨rfl,rfl,go9,by simp only[lQm];exact nQl (bD (by omega))⟩,?_⟩
  rw[←Qzq]
  symm
  refine Ju (words:=own++shared) (passes:=passes) (goals:=a9 rs) (e9a.app (G:= [O.lst ((own++shared).map D.str)])) ng (by have:=e9a.lt;omega) k3 (bh gg9) aP (bh gp9) (by omega) (by rw[lQa];omega) (by omega) fun pr S10 h1 h2 h3 e10 e10' l10=> ?_
  symm
  apply k_ ?_
  have gr10:=e10'.keep _ _ kr (bh gr9)
  apply⟨_,_,rfl,gr10,?_⟩
  apply CS (m:=3) e10 rfl rfl (e10'.keep _ _ k9 (bh go9)) k9 (by decide) (by decide) (by omega) fun ts S11 ht1 ht2 e11 e11' l11=> ?_
  refine⟨by show 2<=_;decide,?_⟩
  symm
  have gr11:=e11'.keep _ _ kr gr10
  refine⟨_,gr11,fK (bD (by simp only[lQm];omega)) ?_⟩
  have kp:∀{i:Nat} {o:O},i≠k->i≠r->T9[i]?=some o->∀o',(S11.set r o')[i]?=some o:=fun n n2 h o'=>fL n2 (e11'.keep _ _ n (e10'.keep _ _ n (bh h)))
  have lt1:ts.length=own.length:=by rw[←ht1];simp
  refine⟨_,_,_,hs++ [(ts,pr)],rfl,e11.put (by omega) kl,kp ng (by omega) gg9 _,kp k3 (by omega) gp9 _,kp k5 (by omega) gs9 _,?_,by simp[hn],fun p hp=> ?_⟩
  ·rw[da gr11]
   simp[mW]
  ·rcases mQa.mp hp with hp|hp
   ·exact hpr p hp
   ·rw[Qfq.mp hp]
    refine⟨fun p hp=>by have:=ht2 p hp;omega,by show ts.length<=6;omega,h3,h2,?_⟩
    show uK ⟨true,ts.map (·.1)++shared,ts.map (·.1)++shared,[],_,_⟩ pr
    rw[ht1]
    exact h1
 ·rintro Γ' S7 ⟨o9,o10,o11,hs,rfl,e7,gg7,gp7,gs7,gr7,hn,hpr⟩
  have hn4:hs.length=af:=by
   rw[hn]
   simp only[jR,lQm,QVq]
   omega
  symm
  apply CS (m:=3) e7 rfl rfl gp7 k3 (by decide) (by decide) (by omega) fun ps S8 hp1 hp2 e8 e8' l8=> ?_
  apply CS (m:=3) e8 rfl rfl (e8'.keep _ _ k5 gs7) k5 (by decide) (by decide) (by omega) fun ss S9 hs1 hs2 e9 e9' l9=> ?_
  refine b9 (e9'.keep _ _ kr (e8'.keep _ _ kr gr7)) ?_
  apply⟨rfl,?_⟩
  refine⟨by show 4<=_;decide,?_⟩
  have lp1:ps.length=passes.length:=by rw[←hp1];simp
  have ls1:ss.length=shared.length:=by rw[←hs1];simp
  refine lT (d:=(dD.mk rs ps ss hs).d) e9 x.lt (fun k z=>(nomatch z)) (dH (dD.low _)) fun a b c=> ?_
  refine h ⟨rs,ps,ss,hs⟩ _ ⟨nd,hl,by show ps.length<=6;omega,by show ss.length<=6;omega,by show hs.length<=4;omega,by show 0<hs.length;omega,fun p hp=>by have:=hp2 p hp;omega,fun p hp=>by have:=hs2 p hp;omega,hok,?_⟩ x.set y.set (by simp)
  show∀h∈hs,B1 (a9 rs) (ss.map (·.1)) (ps.map (·.1)) h
  rw[hs1,hp1]
  exact hpr
def xw{S S0:aH}{k:Nat}{Q:Res->aH->Prop}(x:Ex k S0 S)(h:∀(w:dD) (S':aH),fE w->Ex k S0 S'->Ex k S S'->S'.length=S.length->Q (.d w.d) S'):Fn eM [.ref k] S Q:=by
 have y:Ex k S S:=by obtain⟨a,b,c,hh⟩:=x.pot;exact Ex.refl hh
 have kl:=x.lt
 refine cg ?_
 unfold kX
 symm
 apply⟨by decide,?_⟩
 refine bR (y.app (G:= [O.lst [.int 1,.int 2,.int 3,.int 1,.int 2,.int 0]])) (by decide) (by decide) fun v S1 hv e1 e1' l1=> ?_
 dsimp only
 obtain⟨n,hn,ha⟩:∃n:Nat,n<=3/\k8 ([.int 1,.int 2,.int 3,.int 1,.int 2,.int 0]:List D) (v:Int)=some (.int n):=by
  rcases v with _|_|_|_|_|_|v
  ·exact⟨1,by omega,rfl⟩
  ·exact⟨2,by omega,rfl⟩
  ·exact⟨3,by omega,rfl⟩
  ·exact⟨1,by omega,rfl⟩
  ·exact⟨2,by omega,rfl⟩
  ·exact⟨0,by omega,rfl⟩
  ·omega
 apply eU (e1'.keep _ _ (by omega) aP) ha ?_
 apply⟨by decide,?_⟩
 refine Fx (m:=S1.length) (e1.app (G:= [O.lst [.str "at once",.str "when free"]])) (by have:=e1.lt;omega) aP hn fun rs S2 nd hl hok e2 e2' l2=> ?_
 symm
 apply bR e2 (by decide) (by decide) fun v2 S3 hv2 e3 e3' l3=> ?_
 rw[show(1:Int)+(v2:Int)=((1+v2:Nat):Int) by omega]
 refine Gk e3 (by omega) (by omega) nd hl hok fun w S4 hw e4 e4' l4=> ?_
 dsimp only
 refine lT e4 x.lt (fun k z=>(nomatch z)) (dH (dD.low _)) fun a b c=> ?_
 exact h w _ hw x.set y.set (by simp)
end W28
namespace DL
open PySem PySem.Spec L2
def JO{Γ:de}{S:aH}{js:List (Option Nat)}{f:eF}{g:om}{elt:bH}{Q:List D->aH->Prop}(P:de->Prop)(F:D->D)(h0:P (nQ js Γ)) (h:E f Γ S fun p S1=>p.2.stays S1 p.1/\p.1.length<=1000∧
   (∀d∈p.1,∀Γ',P Γ'->Tg g d Γ' S1 fun Γ1 S2=>S2=S1/\P Γ1/\E elt Γ1 S1 fun y S3=>y=F d/\S3=S1)/\Q (p.1.map F) S1):E (bX js (i0 f) g cz elt) Γ S Q:=by
 refine lP (u5 (h.mono fun p S1 hp=> ?_))
 obtain⟨hs,hl,he,q⟩:=hp
 refine⟨fun n Γ' S' acc=>S'=S1/\acc=(p.1.take n).map F/\P Γ',⟨rfl,rfl,h0⟩,fun n Γ' S' acc h=>by rw[h.1];exact hs,fun n d Γ' S' acc hd h=> ?_,fun Γ' S' acc h=> ?_⟩
 ·obtain⟨rfl,rfl,h3⟩:=h
  obtain⟨Γ1,S2,e1,rfl,h4,h5⟩:=he d (mQg hd) Γ' h3
  refine⟨Γ1,S2,e1,t8 ?_⟩
  rw[Qhq rfl]
  refine h5.mono fun y S3 qr=> ?_
  obtain⟨e2,e3⟩:=qr
  subst e2 e3
  have hn:=(gQs.mp hd).1
  refine⟨?_,rfl,?_,h4⟩
  ·rw[lQm,Qxq]
   exact bD (by omega)
  ·rw[QYq,hd]
   simp
 ·obtain⟨rfl,rfl,_⟩:=h
  rw[QEq]
  exact q
def iP{α:Type}{Γ:de}{S:aH}{js:List (Option Nat)}{f:eF}{g:om}{elt:bH}{Q:List D->aH->Prop}(P:de->Prop)(enc G:α->D)(h0:P (nQ js Γ)) (h:E f Γ S fun p S1=>∃xs:List α,p.1=xs.map enc/\p.2.stays S1 p.1/\xs.length<=1000∧
   (∀x∈xs,∀Γ',P Γ'->Tg g (enc x) Γ' S1 fun Γ1 S2=>S2=S1/\P Γ1/\E elt Γ1 S1 fun y S3=>y=G x/\S3=S1)/\Q (xs.map G) S1):E (bX js (i0 f) g cz elt) Γ S Q:=by
 refine lP (u5 (h.mono fun p S1 hp=> ?_))
 obtain⟨xs,hx,hs,hl,he,q⟩:=hp
 refine⟨fun n Γ' S' acc=>S'=S1/\acc=(xs.take n).map G/\P Γ',⟨rfl,rfl,h0⟩,fun n Γ' S' acc h=>by rw[h.1];exact hs,fun n d Γ' S' acc hd h=> ?_,fun Γ' S' acc h=> ?_⟩
 ·obtain⟨rfl,rfl,h3⟩:=h
  have hd:p.1[n]?=some d:=hd
  rw[hx,gQm] at hd
  obtain⟨x,hxn,rfl⟩:=oQm.mp hd
  obtain⟨Γ1,S2,e1,rfl,h4,h5⟩:=he x (mQg hxn) Γ' h3
  refine⟨Γ1,S2,e1,t8 ?_⟩
  rw[Qhq rfl]
  refine h5.mono fun y S3 qr=> ?_
  obtain⟨e2,e3⟩:=qr
  subst e2 e3
  have hn:=(gQs.mp hxn).1
  refine⟨?_,rfl,?_,h4⟩
  ·rw[lQm,Qxq]
   exact bD (by omega)
  ·rw[QYq,hxn]
   simp
 ·obtain⟨rfl,rfl,_⟩:=h
  have e:p.1.length=xs.length:=by rw[hx,lQm]
  show Q ((xs.take p.1.length).map G) _
  rw[e,QEq]
  exact q
def cU{S:aH}{d:D}{Q:Res->aH->Prop}(hd:∀k,d≠.ref k)(hl:cp 0 d=true)(q:Q (.d d) S):Op (settle S d S) fun p=>Q p.1 p.2:=iO ue (QEq) hd (dH hl) q
def E_{S:aH}{ds:List D}{Q:Res->aH->Prop}(hl:cc 0 ds=true)(q:Q (.l ds) S):Op (dF S ds S) fun p=>Q p.1 p.2:=n_ ue (QEq) (j9 hl) q
end DL
namespace W28
open PySem PySem.Spec L2 DL
structure cG where
 room:Int
 deed:Int
 row:Int
 given:Int
 told:Int
structure dt where
 vals:List Int
 within:Int
 row:List Int
 ag:List Int
 aa:List (List (Int×Int))
structure bK where
 rooms:List dt
 passes:List (Int×List Int)
 shared:List Int
 af:List (List Int×List cG)
def cD(l:List Int):D:=.tup (l.map D.int)
def cG.d(f:cG):D:=.tup [.int f.room,.int f.deed,.int f.row,.int f.given,.int f.told]
def pairD(p:Int×Int):D:=.tup [.int p.1,.int p.2]
def eC(l:List (Int×Int)):D:=.tup (l.map pairD)
def dt.d(r:dt):D:=.tup [cD r.vals,.int r.within,cD r.row,cD r.ag,.tup (r.aa.map eC)]
def vw(p:Int×List Int):D:=.tup [.int p.1,cD p.2]
def AR(h:List Int×List cG):D:=.tup [cD h.1,.tup (h.2.map cG.d)]
def bK.d(s:bK):D:=.tup [.tup (s.rooms.map dt.d),.tup (s.passes.map vw),cD s.shared,.tup (s.af.map AR)]
def lC(l:List Int):cp 0 (cD l)=true:=by simp only[cD,cp];exact bp fun _ _=>rfl
def tK(l:List (Int×Int)):cp 0 (eC l)=true:=by simp only[eC,cp];exact bp fun _ _=>rfl
def dt.low(r:dt):cp 0 r.d=true:=by
 simp only[dt.d,cp,cc,lC,Bool.and_true,Bool.true_and]
 exact bp fun l _=>tK l
def Bj(p:Int×List Int):cp 0 (vw p)=true:=by simp only[vw,cp,cc,lC,Bool.and_true]
def BO(h:List Int×List cG):cp 0 (AR h)=true:=by
 simp only[AR,cp,cc,lC,Bool.and_true,Bool.true_and]
 exact bp fun _ _=>rfl
def bK.low(s:bK):cp 0 s.d=true:=by
 simp only[bK.d,cp,cc,lC,Bool.and_true,Bool.true_and,QCq]
 exact⟨bp fun r _=>r.low,bp fun p _=>Bj p,bp fun h _=>BO h⟩
def gf(ts:List (Str×Nat)):List Int:=ts.map fun p=>(p.2:Int)
def dC(r:Rm):dt:=⟨gf r.things,-1,[],[],r.aa.map fun _=> []⟩
def FE:cG:=⟨-1,-1,0,0,0⟩
def cE(w:dD):bK:=⟨w.rooms.map dC,w.passes.map fun p=>((p.2:Int),[]),gf w.shared,w.af.map fun h=>(gf h.1,[FE])⟩
section
variable{S:aH}{Q:Res->aH->Prop}
def kA{ts:List (Str×Nat)}(l:ts.length<=1000)(h:Q (.d (cD (gf ts))) S):Fn g7 [.tup (ts.map uV)] S Q:=by
 refine cg ?_
 unfold sC
 symm
 apply JO (fun Γ'=>∃a b,Γ'= [a,b]) (fun d=>match d with|.tup [_,v]=>v|d=>d) ⟨none,none,rfl⟩ ?_
 refine⟨trivial,by simpa using l,fun d hd Γ' hΓ=> ?_,?_⟩
 ·obtain⟨p,_,rfl⟩:=Qkq.mp hd
  obtain⟨a,b,rfl⟩:=hΓ
  refine eK rfl (ax (a_ (ax (a_ (bu ?_)))))
  apply⟨rfl,⟨_,_,rfl⟩,?_⟩
  exact⟨rfl,rfl⟩
 ·have e:(ts.map uV).map (fun d=>match d with|.tup [_,v]=>v|d=>d)=(gf ts).map D.int:=by
   simp only[gf,QPq]
   rfl
  rw[e]
  exact cU (d:=cD (gf ts)) (fun k z=>(nomatch z)) (lC _) h
def vg{r:Rm}(l1:r.things.length<=6)(l2:r.aa.length<=6)(h:Q (.d (dC r).d) S):Fn jn [r.d] S Q:=by
 refine cg ?_
 unfold qZ
 symm
 apply eK rfl (ax (a_ (ax (a_ (ax (a_ (ax (a_ (ax (a_ (bu ?_)))))))))))
 apply kA (by omega) ?_
 apply⟨by decide,?_⟩
 apply⟨by decide,?_⟩
 apply BX (fun _=>.tup []) ?_
 refine⟨trivial,by simp;omega,fun d hd=> ?_,?_⟩
 ·symm
  exact⟨by decide,rfl,rfl⟩
 ·symm
  refine⟨by show 5<=_;decide,?_⟩
  have e:D.tup ((r.aa.map Ey).map fun _=>D.tup [])=D.tup ((dC r).aa.map eC):=by
   simp only[dC,QPq]
   rfl
  rw[e]
  exact cU (d:=(dC r).d) (fun k z=>(nomatch z)) (dt.low _) h
def FK{w:dD}(o:fE w)(h:Q (.d (cE w).d) S):Fn xn [w.d] S Q:=by
 refine cg ?_
 unfold Gr
 symm
 apply eK rfl (ax (a_ (ax (a_ (ax (a_ (ax (a_ (bu ?_)))))))))
 apply⟨by decide,?_⟩
 have l1:=o.l1
 have l2:=o.l2
 have l3:=o.l3
 have l4:=o.l4
 apply iP (α:=Rm) (fun Γ'=>∃a,Γ'= [a]) Rm.d (fun r=>(dC r).d) ⟨none,rfl⟩ ?_
 refine⟨w.rooms,rfl,trivial,by omega,fun r hr Γ' hΓ=> ?_,?_⟩
 ·obtain⟨a,rfl⟩:=hΓ
  apply a_ ⟨rfl,⟨_,rfl⟩,?_⟩
  exact vg (o.rm r hr).l1 (o.rm r hr).l2 ⟨rfl,rfl⟩
 symm
 apply iP (α:=Str×Nat) (fun Γ'=>∃a b,Γ'= [a,b]) uV (fun p=>vw ((p.2:Int),[])) ⟨none,none,rfl⟩ ?_
 refine⟨w.passes,rfl,trivial,by omega,fun r hr Γ' hΓ=> ?_,?_⟩
 ·obtain⟨a,b,rfl⟩:=hΓ
  refine eK rfl (ax (a_ (ax (a_ (bu ?_)))))
  apply⟨rfl,⟨_,_,rfl⟩,?_⟩
  apply⟨by decide,?_⟩
  exact⟨by show 2<=_;decide,rfl,rfl⟩
 symm
 apply kA (by omega) ?_
 apply iP (α:=List (Str×Nat)×List Rw) (fun Γ'=>∃a b,Γ'= [a,b,some FE.d]) mW (fun h=>AR (gf h.1,[FE])) ⟨none,none,rfl⟩ ?_
 refine⟨w.af,rfl,trivial,by omega,fun r hr Γ' hΓ=> ?_,?_⟩
 ·obtain⟨a,b,rfl⟩:=hΓ
  refine eK rfl (ax (a_ (ax (a_ (bu ?_)))))
  apply⟨rfl,⟨_,_,rfl⟩,?_⟩
  refine kA (by have:=(o.hd r hr).l1;omega) ?_
  symm
  refine⟨by show 1<=_;decide,?_⟩
  symm
  exact⟨by show 2<=_;decide,rfl,rfl⟩
 symm
 refine⟨by show 4<=_;decide,?_⟩
 have e1:w.rooms.map (fun r=>(dC r).d)=(cE w).rooms.map dt.d:=by simp only[cE,QPq];rfl
 have e2:w.passes.map (fun p=>vw ((p.2:Int),[]))=(cE w).passes.map vw:=by simp only[cE,QPq];rfl
 have e3:w.af.map (fun h=>AR (gf h.1,[FE]))=(cE w).af.map AR:=by simp only[cE,QPq];rfl
 rw[e1,e2,e3]
 exact cU (d:=(cE w).d) (fun k z=>(nomatch z)) (bK.low _) h
end
end W28
namespace DL
open PySem PySem.Spec L2
section
variable{Γ:de}{S:aH}
def lR{f:bH}{Q:D->aH->Prop}(h:E f Γ S fun d S1=>∃i,d=.int i/\Q (.int (-i)) S1):E (pk f) Γ S Q:=by
 obtain⟨d,S1,e1,i,rfl,q⟩:=h
 exact⟨_,S1,by unfold pk;rw[e1];rfl,q⟩
def cY{Q:Option Int->aH->Prop}(q:Q none S):E rH Γ S Q:=⟨_,_,rfl,q⟩
def cZ{f:bH}{Q:Option Int->aH->Prop}(h:E f Γ S fun d S1=>∃i,d=.int i/\Q (some i) S1):E (qJ f) Γ S Q:=by
 obtain⟨d,S1,e1,i,rfl,q⟩:=h
 exact⟨_,S1,by unfold qJ;rw[e1];rfl,q⟩
def jH{f:bH}{lo hi:KE}{Q:D->aH->Prop}(h:E f Γ S fun d S1=>E lo Γ S1 fun l S2=>E hi Γ S2 fun u S3=>∃ds,d=.tup ds/\Q (.tup (jQ ds l u)) S3):E (qF f lo hi) Γ S Q:=by
 obtain⟨d,S1,e1,l,S2,e2,u,S3,e3,ds,rfl,q⟩:=h
 exact⟨_,S3,by unfold qF;rw[e1];simp only[Qbq];rw[e2];simp only[Qbq];rw[e3];rfl,q⟩
def LC{i j:Nat}{f:h_}{Q:Out->Prop}(h:E f Γ S fun ds S1=>∃a b,ds= [a,b]/\Q (.nx ((Γ.set i (some a)).set j (some b)) S1)):T (Hj i j f) Γ S Q:=by
 obtain⟨ds,S1,e1,a,b,rfl,q⟩:=h
 exact⟨_,by unfold Hj;rw[e1];rfl,q⟩
end
def EO{α:Type}{xs:List α}{i:Nat}(h:i<=xs.length):jQ xs none (some (i:Int))=xs.take i:=by
 unfold jQ
 rw[HT.ug,HT.B8,Nat.min_eq_left h]
 simp
def ja{α:Type}{xs:List α}{i:Nat}(h:i<=xs.length):jQ xs (some (i:Int)) none=xs.drop i:=by
 unfold jQ
 rw[HT.ug,HT.B8,Nat.min_eq_left h]
 rw[List.take_of_length_le]
 simp
def zx{α:Type}{xs:List α}(h:0<xs.length):jQ xs none (some (-1))=xs.dropLast:=by
 unfold jQ
 rw[HT.ug]
 show(xs.drop 0).take (HT.fX xs.length xs.length (some (-1))-0)=_
 rw[show HT.fX xs.length xs.length (some (-1))=xs.length-1 by simp only[HT.fX];rw[Qhq (by omega)];omega]
 simp[List.dropLast_eq_take]
def oz{α:Type}{xs:List α}{x:α}(h:xs.getLast? =some x):k8 xs (-1)=some x:=by
 have h0:0<xs.length:=by
  cases xs with
  |nil=>cases h
  |cons a b=>simp
 unfold k8 Ek
 rw[Quq (by omega),Qhq (by omega)]
 rw[List.getLast?_eq_getElem?] at h
 simp only[Qbq]
 rw[show((-1:Int)+(xs.length:Int)).toNat=xs.length-1 by omega]
 exact h
end DL
namespace W28
open PySem PySem.Spec L2 DL
section
variable{S:aH}{Q:Res->aH->Prop}
def b_{s:bK}{h:Nat}{vs:List Int}{fs:List cG}{f:cG}(h1:s.af[h]?=some (vs,fs))(h2:fs.getLast? =some f)(q:Q (.d f.d) S):Fn c7 [s.d,.int h] S Q:=by
 refine cg ?_
 unfold qG
 symm
 apply av rfl ?_
 refine av (d:=AR (vs,fs)) (a8 (by rw[gQm,h1];rfl)) ?_
 symm
 refine av rfl ?_
 apply lR ?_
 refine⟨1,rfl,?_⟩
 refine av (d:=f.d) (oz (by rw[List.getLast?_map,h2];rfl)) ?_
 exact cU (fun k z=>(nomatch z)) rfl q
noncomputable def progOf(w:dD)(h:Nat)(f:cG):Option (List Rw):=
 if f.room= -1 then(w.af[h]?).map (·.2) else if 0<=f.room/\0<=f.deed then(w.rooms[f.room.toNat]?).bind fun r=>(r.ae[f.deed.toNat]?).map (·.2) else none
def mH{α:Type}{xs:List α}{i:Int}{x:α}(h0:0<=i)(h:xs[i.toNat]?=some x):k8 xs i=some x:=by
 obtain⟨n,rfl⟩:∃n:Nat,i=n:=⟨i.toNat,by omega⟩
 exact a8 (by simpa using h)
def Ad(rs:List Rw):cp 0 (.tup (rs.map Rw.d))=true:=by simp only[cp];exact bp fun r _=>r.low
def fQ{w:dD}{h:Nat}{f:cG}{pr:List Rw}(hp:progOf w h f=some pr)(q:Q (.d (.tup (pr.map Rw.d))) S):Fn eW [w.d,.int h,f.d] S Q:=by
 refine cg ?_
 unfold rh
 apply bV (LC ?_)
 apply av rfl ?_
 apply av rfl ?_
 apply⟨_,_,rfl,?_⟩
 refine er ?_
 dsimp only
 unfold progOf at hp
 by_cases c:f.room= -1
 ·rw[Qhq c] at hp
  obtain⟨hh,h1,rfl⟩:=oQm.mp hp
  rw[Qeq c,Qhq rfl]
  symm
  apply av rfl ?_
  refine av (d:=mW hh) (a8 (by rw[gQm,h1];rfl)) ?_
  symm
  refine av rfl ?_
  exact cU (fun k z=>(nomatch z)) (Ad _) q
 ·rw[Quq c] at hp
  split at hp
  ·rename_i c2
   obtain⟨r,h1,hp⟩:=aq hp
   obtain⟨dd,h2,rfl⟩:=oQm.mp hp
   rw[Qdq c,Quq (by decide)]
   symm
   apply av rfl ?_
   refine av (d:=r.d) (mH c2.1 (by rw[gQm,h1];rfl)) ?_
   symm
   apply av rfl ?_
   refine av (d:=j3 dd) (mH c2.2 (by rw[gQm,h2];rfl)) ?_
   symm
   refine av rfl ?_
   exact cU (fun k z=>(nomatch z)) (Ad _) q
  ·cases hp
def eJ{xs:List D}{i:Nat}{d:D}(hi:i<xs.length)(hl:xs.length<=900)(h1:cc 0 xs=true)(h2:cp 0 d=true)(q:Q (.d (.tup (xs.set i d))) S):Fn dW [.tup xs,.int i,d] S Q:=by
 refine cg ?_
 unfold uG
 symm
 apply jH ?_
 apply cY (cZ ?_)
 apply⟨_,rfl,_,rfl,?_⟩
 refine⟨by show 1<=_;decide,?_⟩
 rw[EO (by omega)]
 refine et (by simp only[Qxq,Qnq,QGq];exact nQl (bD (by omega))) ?_
 apply jH ?_
 apply cZ ?_
 refine⟨_,rfl,cY ⟨_,rfl,?_⟩⟩
 rw[show((i:Int)+1)=((i+1:Nat):Int) by omega,ja (by omega)]
 refine et (by simp only[lQa,Qxq,List.length_drop,Qnq,QGq];exact nQl (bD (by omega))) ?_
 have e:xs.take i++ [d]++xs.drop (i+1)=xs.set i d:=by
  rw[List.set_eq_take_append_cons_drop,Qhq hi]
  simp
 rw[e]
 refine cU (fun k z=>(nomatch z)) ?_ q
 simp only[cp]
 refine sf fun z hz=> ?_
 rcases QTq hz with hz|rfl
 ·have gen:∀l:List D,cc 0 l=true->∀z∈l,cp 0 z=true:=by
   intro l
   induction l with
   |nil=>intro _ z hz;cases hz
   | cons a l ih=>
     intro h z hz
     simp only[cc,QCq] at h
     rcases Qsq.mp hz with rfl|hz
     · exact h.1
     · exact ih h.2 z hz
  exact gen xs h1 z hz
 ·exact h2
end
section
variable{S:aH}{Q:Res->aH->Prop}
def map_set{α β:Type}(f:α->β)(l:List α)(i:Nat)(a:α):(l.set i a).map f=(l.map f).set i (f a):=by
 rw[List.map_set]
def bc(s:bK):∀k,s.d≠.ref k:=fun k z=>(nomatch z)
def dP{s:bK}{i:Nat}{r:dt}(hi:i<s.rooms.length)(hl:s.rooms.length<=900)(q:Q (.d ({s with rooms:=s.rooms.set i r}:bK).d) S):Fn dz [s.d,.int i,r.d] S Q:=by
 refine cg ?_
 unfold sJ
 symm
 apply av rfl ?_
 apply eJ (by simpa using hi) (by simpa using hl) (bp fun r _=>r.low) r.low ?_
 refine⟨by show 1<=_;decide,?_⟩
 apply jH ?_
 apply cZ ?_
 refine⟨_,rfl,cY ⟨_,rfl,?_⟩⟩
 refine et (by show 4<=_;decide) ?_
 refine cU (d:=({s with rooms:=s.rooms.set i r}:bK).d) (bc _) (bK.low _) q|>fun z=> ?_
 rw[←map_set]
 exact z
def iB{s:bK}{i:Nat}{p:Int×List Int}(hi:i<s.passes.length)(hl:s.passes.length<=900)(q:Q (.d ({s with passes:=s.passes.set i p}:bK).d) S):Fn gc [s.d,.int i,vw p] S Q:=by
 refine cg ?_
 unfold ur
 symm
 apply av rfl ?_
 apply av rfl ?_
 apply eJ (by simpa using hi) (by simpa using hl) (bp fun r _=>Bj r) (Bj p) ?_
 refine⟨by show 2<=_;decide,?_⟩
 apply jH ?_
 apply cZ ?_
 refine⟨_,rfl,cY ⟨_,rfl,?_⟩⟩
 refine et (by show 4<=_;decide) ?_
 refine cU (d:=({s with passes:=s.passes.set i p}:bK).d) (bc _) (bK.low _) q|>fun z=> ?_
 rw[←map_set]
 exact z
def iy{s:bK}{i:Nat}{vs:List Int}{fs:List cG}(hi:i<s.af.length)(hl:s.af.length<=900)(q:Q (.d ({s with af:=s.af.set i (vs,fs)}:bK).d) S):Fn gk [s.d,.int i,cD vs,.tup (fs.map cG.d)] S Q:=by
 refine cg ?_
 unfold uq
 apply qE (Br (jH ?_))
 apply cY (cZ ?_)
 apply⟨_,rfl,_,rfl,?_⟩
 apply av rfl ?_
 refine⟨by show 2<=_;decide,?_⟩
 symm
 apply eJ (d:=AR (vs,fs)) (by simpa using hi) (by simpa using hl) (bp fun r _=>BO r) (BO (vs,fs)) ?_
 refine⟨by show 1<=_;decide,?_⟩
 refine et (by show 4<=_;decide) ?_
 refine cU (d:=({s with af:=s.af.set i (vs,fs)}:bK).d) (bc _) (bK.low _) q|>fun z=> ?_
 rw[←map_set]
 exact z
def iR{s:bK}{h:Nat}{vs:List Int}{fs:List cG}{f:cG}(h1:s.af[h]?=some (vs,fs))(h0:0<fs.length)(lf:fs.length<=900)(hl:s.af.length<=900)(q:Q (.d ({s with af:=s.af.set h (vs,fs.dropLast++ [f])}:bK).d) S):Fn eD [s.d,.int h,f.d] S Q:=by
 refine cg ?_
 unfold j2
 symm
 apply av rfl ?_
 refine av (d:=AR (vs,fs)) (a8 (by rw[gQm,h1];rfl)) ?_
 apply eK rfl (ax (a_ (ax (a_ (bu ?_)))))
 apply jH ?_
 apply cY (cZ (lR ?_))
 apply⟨1,rfl,_,rfl,_,rfl,?_⟩
 refine⟨by show 1<=_;decide,?_⟩
 rw[zx (by simpa using h0)]
 refine et (by simp only[List.length_dropLast,lQm,Qnq,QGq];exact nQl (bD (by omega))) ?_
 symm
 have e:(fs.map cG.d).dropLast++ [f.d]=(fs.dropLast++ [f]).map cG.d:=by rw[Qzq,List.map_dropLast];rfl
 rw[e]
 refine iy (gQs.mp h1).1 hl ?_
 exact cU (bc _) (bK.low _) q
def pU{s:bK}{h:Nat}{vs:List Int}{fs:List cG}{f:cG}{n:Int}(h1:s.af[h]?=some (vs,fs))(h2:fs.getLast? =some f)(lf:fs.length<=900)(hl:s.af.length<=900)(q:Q (.d ({s with af:=s.af.set h (vs,fs.dropLast++ [{f with row:=n}])}:bK).d) S):Fn kE [s.d,.int h,.int n] S Q:=by
 refine cg ?_
 unfold Cm
 symm
 apply b_ h1 h2 ?_
 apply jH ?_
 apply cY (cZ ?_)
 apply⟨_,rfl,_,rfl,?_⟩
 refine⟨by show 1<=_;decide,?_⟩
 refine et (by show 3<=_;decide) ?_
 apply jH ?_
 apply cZ ?_
 refine⟨_,rfl,cY ⟨_,rfl,?_⟩⟩
 refine et (by show 5<=_;decide) ?_
 symm
 have h0:0<fs.length:=by
  cases fs with
  |nil=>cases h2
  |cons a b=>simp
 refine iR (f:={f with row:=n}) h1 h0 lf hl ?_
 exact cU (bc _) (bK.low _) q
def jv(r:dt)(h:Int):dt:=if r.within= -1 then{r with within:=h} else{r with row:=r.row++ [h]}
def c8(r:dt):dt:=match r.ag,r.row with
 |a::l,_=>{r with within:=a,ag:=l}
 | [],a::l=>{r with within:=a,row:=l}
 | [],[]=>{r with within:= -1}
def tU{s:bK}{i:Nat}{h:Int}{r:dt}(h1:s.rooms[i]?=some r)(hl:s.rooms.length<=900)(lr:r.row.length<=900)(q:Q (.d ({s with rooms:=s.rooms.set i (jv r h)}:bK).d) S):Fn lH [s.d,.int i,.int h] S Q:=by
 have hi:=(gQs.mp h1).1
 refine cg ?_
 unfold yT
 symm
 apply av rfl ?_
 refine av (d:=r.d) (a8 (by rw[gQm,h1];rfl)) ?_
 apply eK rfl (ax (a_ (ax (a_ (ax (a_ (ax (a_ (ax (a_ (bu ?_)))))))))))
 refine er ?_
 dsimp only
 unfold jv at q
 by_cases c:r.within= -1
 ·rw[Qhq c] at q
  rw[Qeq c,Qhq rfl]
  symm
  refine⟨by show 5<=_;decide,?_⟩
  symm
  refine dP (r:={r with within:=h}) hi hl ?_
  exact cU (bc _) (bK.low _) q
 ·rw[Quq c] at q
  rw[Qdq c,Quq (by decide)]
  symm
  refine⟨by show 1<=_;decide,?_⟩
  refine et (by simp only[lQm,Qnq,QGq];exact nQl (bD (by omega))) ?_
  symm
  refine⟨by show 5<=_;decide,?_⟩
  symm
  have e:D.tup (r.row.map D.int++ [D.int h])=cD (r.row++ [h]):=by simp[cD]
  rw[e]
  refine dP (r:={r with row:=r.row++ [h]}) hi hl ?_
  exact cU (bc _) (bK.low _) q
end
section
variable{S:aH}{Q:Res->aH->Prop}
def va{α:Type}{a:α}{l:List α}:k8 (a::l) 0=some a:=a8 (j:=0) rfl
def xm{S:aH}{ds:List D}{Q:Bool->Prop}(q:Q (!ds.isEmpty)):Op (Bu S (.tup ds)) Q:=⟨_,rfl,q⟩
def Aq{s:bK}{i:Nat}{r:dt}(h1:s.rooms[i]?=some r)(hl:s.rooms.length<=900)(q:Q (.d ({s with rooms:=s.rooms.set i (c8 r)}:bK).d) S):Fn p9 [s.d,.int i] S Q:=by
 have hi:=(gQs.mp h1).1
 refine cg ?_
 unfold GA
 symm
 apply av rfl ?_
 refine av (d:=r.d) (a8 (by rw[gQm,h1];rfl)) ?_
 refine eK rfl (ax (a_ (ax (a_ (ax (a_ (ax (a_ (ax (a_ (bu ?_)))))))))))
 obtain⟨vals,within,row,ag,aa⟩:=r
 symm
 refine xm ?_
 cases ag with
 | cons a l=>
   apply aV (fun _=> ?_) (fun c=>by cases c)
   apply av (d:=.int a) va ?_
   apply jH ?_
   apply cZ ?_
   apply⟨_,rfl,cY ⟨_,rfl,?_⟩⟩
   refine⟨by show 5<=_;decide,?_⟩
   symm
   have e:D.tup (jQ ((a::l).map D.int) (some 1) none)=cD l:=by
     rw[show(some (1:Int))=some ((1:Nat):Int) from rfl,ja (by simp)]
     rfl
   rw[e]
   refine dP (r:=⟨vals,a,row,l,aa⟩) hi hl ?_
   exact cU (bc _) (bK.low _) q
 | nil=>
   refine aV (fun c=>by cases c) (fun _=> ?_)
   apply cu ?_
   refine xm ?_
   cases row with
   | cons a l=>
     apply aV (fun _=> ?_) (fun c=>by cases c)
     apply av (d:=.int a) va ?_
     apply jH ?_
     apply cZ ?_
     apply⟨_,rfl,cY ⟨_,rfl,?_⟩⟩
     refine⟨by show 5<=_;decide,?_⟩
     symm
     have e:D.tup (jQ ((a::l).map D.int) (some 1) none)=cD l:=by
       rw[show(some (1:Int))=some ((1:Nat):Int) from rfl,ja (by simp)]
       rfl
     rw[e]
     refine dP (r:=⟨vals,a,l,[],aa⟩) hi hl ?_
     exact cU (bc _) (bK.low _) q
   | nil=>
     refine aV (fun c=>by cases c) (fun _=> ?_)
     apply cu ?_
     refine⟨by show 5<=_;decide,?_⟩
     symm
     refine dP (r:=⟨vals,-1,[],[],aa⟩) hi hl ?_
     exact cU (bc _) (bK.low _) q
def gn{α:Type}{enc:α->D}{nm:α->Str}{xs:List α}(he:∀a,∃r,enc a=.tup (.str (nm a)::r))(hl:xs.length<=1000)(q:Q (.l ((xs.map nm).map D.str)) S):Fn eO [.tup (xs.map enc)] S Q:=by
 refine cg ?_
 unfold vp
 symm
 apply iP (α:=α) (fun Γ'=>∃a,Γ'= [a]) enc (fun a=>.str (nm a)) ⟨none,rfl⟩ ?_
 refine⟨xs,rfl,trivial,hl,fun r hr Γ' hΓ=> ?_,?_⟩
 ·obtain⟨a,rfl⟩:=hΓ
  refine a_ ⟨rfl,⟨_,rfl⟩,?_⟩
  obtain⟨rr,e⟩:=he r
  rw[e]
  symm
  exact av va ⟨rfl,rfl⟩
 ·have e:xs.map (fun a=>D.str (nm a))=(xs.map nm).map D.str:=by rw[QPq];rfl
  rw[e]
  exact E_ (bp fun _ _=>rfl) q
theorem i6:∀ss:List Str,ff (ss.map D.str)=some (ss.map V.str)
 | []=>rfl
 |s::ss=>by simp only[QDq,ff,sL,Qbq];rw[i6 ss];rfl
theorem yG{x:Str}:∀{ns:List Str},x∈ns->∃j,pq (.str x) (ns.map V.str)=some j/\ns[j]?=some x
 | [],h=>by cases h
 | n::ns,h=>by
   by_cases c:n=x
   · subst c
     exact⟨0,by simp[pq,jE],rfl⟩
   · obtain⟨j,h1,h2⟩:=yG (ns:=ns) ((Qsq.mp h).resolve_left (Ne.symm c))
     exact⟨j+1,by simp only[QDq,pq];rw[h1];simp[jE,c],by simpa using h2⟩
end
end W28
namespace DL
open PySem PySem.Spec L2
section
variable{Γ:de}{S:aH}
def LZ{T:String}{f:bH}{Q:D->aH->Prop}(h:E f Γ S fun d S1=>Op (G8 S1 T d) fun k=>Q (.bl k) S1):E (DA T f) Γ S Q:=by
 obtain⟨d,S1,e1,k,e2,q⟩:=h
 exact⟨_,S1,by unfold DA;rw[e1];simp only[Qbq];rw[e2];rfl,q⟩
def lu{b:Bool}{Q:Bool->Prop}(q:Q b):Op (Bu S (.bl b)) Q:=⟨_,rfl,q⟩
def K7{f g:bH}{Q:D->aH->Prop}(h:E f Γ S fun x S1=>E g Γ S1 fun y S2=>∃k kvs z v,x=.ref k/\y=.str z/\S2[k]?=some (.dct kvs)/\sM kvs (.inr z)=some v/\Q v S2):E (LM f g) Γ S Q:=by
 obtain⟨x,S1,e1,y,S2,e2,k,kvs,z,v,rfl,rfl,h1,h2,q⟩:=h
 exact⟨v,S2,by unfold LM;rw[e1];simp only[Qbq];rw[e2];simp only[Qbq,h1,vn,h2],q⟩
def oM{i j:Int}{Q:D->Prop}(q:Q (.bl (!decide (i=j)))):Op (fm true S (.int i) (.int j)) Q:=⟨_,by simp[fm,sL,yL],q⟩
def Gb{i j:Int}{Q:D->Prop}(q:Q (.int (if j<i then j else i))):Op (minD [.int i,.int j]) Q:=⟨_,rfl,q⟩
def Iv{i j:Int}{Q:D->Prop}(q:Q (.int (if j>i then j else i))):Op (maxD [.int i,.int j]) Q:=⟨_,rfl,q⟩
end
end DL
namespace W28
open PySem PySem.Spec L2 DL
noncomputable def KF(o:Str)(a b:Int):Int:=
 if o="plus" then(if 9<a+b then 9 else a+b) else if o="minus" then(if 0>a-b then 0 else a-b) else if o="less" then(if a<b then 1 else 0)
 else if o="same" then(if a=b then 1 else 0) else(if a≠0/\b≠0 then 1 else 0)
noncomputable def AS(th wt:Str->Int):Tr->Int
 |.num n=>n
 |.word x=>th x
 |.waits b=>if 0<wt b then 1 else 0
 |.no t=>if AS th wt t=0 then 1 else 0
 |.two o a b=>KF o (AS th wt a) (AS th wt b)
def Eo{o:Str}{a b:Int}(ha:0<=a/\a<=9)(hb:0<=b/\b<=9):0<=KF o a b/\KF o a b<=9:=by
 unfold KF
 repeat' split
 all_goals omega
theorem mD{th wt:Str->Int}{ws bs:List Str}(h:∀x∈ws,0<=th x/\th x<=9):∀{t:Tr},t.Ok ws bs->0<=AS th wt t/\AS th wt t<=9
 |.num n,ho=>by have:n<=9:=ho;simp only[AS];omega
 |.word x,ho=>h x ho
 |.waits b,_=>by simp only[AS];split <;>omega
 |.no t,_=>by simp only[AS];split <;>omega
 |.two o a b,ho=>Eo (mD h ho.2.1) (mD h ho.2.2)
section
variable{S:aH}{Q:Res->aH->Prop}
def d_{S:aH}{i:Int}{Q:Res->aH->Prop}(q:Q (.d (.int i)) S):Op (settle S (.int i) S) fun p=>Q p.1 p.2:=cU (fun k z=>(nomatch z)) rfl q
def rP{o:Str}{a b:Int}(q:Q (.d (.int (KF o a b))) S):Fn g9 [.str o,.int a,.int b] S Q:=by
 refine cg ?_
 unfold m5
 unfold KF at q
 symm
 refine jq ?_
 dsimp only
 by_cases c1:o="plus"
 ·rw[Qhq c1] at q
  rw[Qeq c1,Qhq rfl]
  symm
  refine Gb ?_
  exact d_ q
 rw[Quq c1] at q
 rw[Qdq c1,Quq (by decide)]
 apply cu ?_
 refine jq ?_
 dsimp only
 by_cases c2:o="minus"
 ·rw[Qhq c2] at q
  rw[Qeq c2,Qhq rfl]
  symm
  refine Iv ?_
  exact d_ q
 rw[Quq c2] at q
 rw[Qdq c2,Quq (by decide)]
 apply cu ?_
 refine jq ?_
 dsimp only
 by_cases c3:o="less"
 ·rw[Qhq c3] at q
  rw[Qeq c3,Qhq rfl]
  symm
  by_cases c:a<b
  ·rw[Qhq c] at q
   rw[Qeq c,Qhq rfl]
   symm
   exact d_ q
  ·rw[Quq c] at q
   rw[Qdq c,Quq (by decide)]
   symm
   exact d_ q
 rw[Quq c3] at q
 rw[Qdq c3,Quq (by decide)]
 apply cu ?_
 refine jq ?_
 dsimp only
 by_cases c4:o="same"
 ·rw[Qhq c4] at q
  rw[Qeq c4,Qhq rfl]
  symm
  refine er ?_
  dsimp only
  by_cases c:a=b
  ·rw[Qhq c] at q
   rw[Qeq c,Qhq rfl]
   symm
   exact d_ q
  ·rw[Quq c] at q
   rw[Qdq c,Quq (by decide)]
   symm
   exact d_ q
 rw[Quq c4] at q
 rw[Qdq c4,Quq (by decide)]
 apply cu ?_
 refine oM ?_
 dsimp only
 by_cases c5:a=0
 ·rw[Quq (fun z=>z.1 c5)] at q
  rw[Qeq c5]
  show if (false=true) then _ else _
  rw[Quq (by decide)]
  show if (false=true) then _ else _
  rw[Quq (by decide)]
  symm
  exact d_ q
 ·rw[Qdq c5]
  show if (true=true) then _ else _
  rw[Qhq rfl]
  symm
  refine oM ?_
  dsimp only
  by_cases c6:b=0
  ·rw[Quq (fun z=>z.2 c6)] at q
   rw[Qeq c6]
   show if (false=true) then _ else _
   rw[Quq (by decide)]
   symm
   exact d_ q
  ·rw[Qhq ⟨c5,c6⟩] at q
   rw[Qdq c6]
   show if (true=true) then _ else _
   rw[Qhq rfl]
   symm
   exact d_ q
end
def ix{Γ:de}{S:aH}{T:String}{f:bH}{d:D}{b:Bool}{Q:Bool->aH->Prop}(h:E f Γ S fun x S1=>x=d/\S1=S)(hd:G8 S T d=some b)(q:Q b S):E (kc (DA T f)) Γ S Q:=by
 refine vM (LZ (h.mono fun x S1 qr=> ?_))
 obtain⟨e1,e2⟩:=qr
 subst e1 e2
 exact⟨b,hd,lu q⟩
def GY{o:Str}(h:o∈ops):o≠"waits" /\o≠"not":=by
 simp only[ops,Qsq,QXq,or_false] at h
 rcases h with rfl|rfl|rfl|rfl|rfl <;>exact⟨by decide +kernel,by decide +kernel⟩
theorem hJ{th wt:Str->Int}{ws bs:List Str}{i j:Nat}{kvs kws:List (Key×D)}{S:aH}(hi:S[i]?=some (.dct kvs))(hj:S[j]?=some (.dct kws))(h1:∀x∈ws,sM kvs (.inr x)=some (.int (th x)))(h2:∀b∈bs,sM kws (.inr b)=some (.int (wt b))):
  ∀(n:Nat) (t:Tr) {Q:Res->aH->Prop},t.Ok ws bs->t.dep<=n->Q (.d (.int (AS th wt t))) S->Fn (gY n) [t.d,.ref i,.ref j] S Q
 |0,t,Q,_,hd,_=>by cases t <;>simp[Tr.dep] at hd
 | n+1,t,Q,ho,hd,q=>by
   refine cg ?_
   unfold wg
   cases t with
   | num v=>
     refine bV (eY (ix (d:=.int v) (fG rfl ⟨rfl,rfl⟩) rfl ?_))
     apply aV (fun _=> ?_) (fun c=>by cases c)
     exact d_ q
   | word x=>
     refine bV (eY (ix (d:=.str x) (fG rfl ⟨rfl,rfl⟩) rfl ?_))
     refine aV (fun c=>by cases c) (fun _=>cu ?_)
     refine bV (eY (ix (d:=.str x) (fG rfl ⟨rfl,rfl⟩) rfl ?_))
     refine aV (fun _=> ?_) (fun c=>by cases c)
     apply qE (K7 ?_)
     refine⟨_,_,_,_,rfl,rfl,hi,h1 x ho,?_⟩
     exact d_ q
   | waits b=>
     refine bV (eY (ix (d:=.tup [.str "waits",.str b]) (fG rfl ⟨rfl,rfl⟩) rfl ?_))
     refine aV (fun c=>by cases c) (fun _=>cu ?_)
     refine bV (eY (ix (d:=.tup [.str "waits",.str b]) (fG rfl ⟨rfl,rfl⟩) rfl ?_))
     apply aV (fun c=>by cases c) (fun _=>cu ?_)
     apply av rfl ?_
     refine jq ?_
     dsimp only
     rw[Qeq rfl,Qhq rfl]
     symm
     apply K7 ?_
     refine av rfl ?_
     apply⟨_,_,_,_,rfl,rfl,hj,h2 b ho,?_⟩
     simp only[AS] at q
     by_cases c:0<wt b
     · rw[Qhq c] at q
       rw[Qeq c,Qhq rfl]
       symm
       exact d_ q
     · rw[Quq c] at q
       rw[Qdq c,Quq (by decide)]
       symm
       exact d_ q
   | no t=>
     have hd':t.dep<=n:=by simp only[Tr.dep] at hd;omega
     refine bV (eY (ix (d:=.tup [.str "not",t.d]) (fG rfl ⟨rfl,rfl⟩) rfl ?_))
     refine aV (fun c=>by cases c) (fun _=>cu ?_)
     refine bV (eY (ix (d:=.tup [.str "not",t.d]) (fG rfl ⟨rfl,rfl⟩) rfl ?_))
     apply aV (fun c=>by cases c) (fun _=>cu ?_)
     apply av rfl ?_
     refine jq ?_
     dsimp only
     rw[Qdq (show¬(("not":Str)="waits") by decide +kernel),Quq (by decide)]
     apply cu ?_
     apply av rfl ?_
     apply hJ hi hj h1 h2 n t ho hd' ?_
     apply av rfl ?_
     refine jq ?_
     dsimp only
     rw[Qeq rfl,Qhq rfl]
     symm
     refine er ?_
     dsimp only
     simp only[AS] at q
     by_cases c:AS th wt t=0
     · rw[Qhq c] at q
       rw[Qeq c,Qhq rfl]
       symm
       exact d_ q
     · rw[Quq c] at q
       rw[Qdq c,Quq (by decide)]
       symm
       exact d_ q
   | two o a b=>
     have hda:a.dep<=n:=by simp only[Tr.dep] at hd;omega
     have hdb:b.dep<=n:=by simp only[Tr.dep] at hd;omega
     obtain⟨n1,n2⟩:=GY ho.1
     refine bV (eY (ix (d:=.tup [.str o,a.d,b.d]) (fG rfl ⟨rfl,rfl⟩) rfl ?_))
     refine aV (fun c=>by cases c) (fun _=>cu ?_)
     refine bV (eY (ix (d:=.tup [.str o,a.d,b.d]) (fG rfl ⟨rfl,rfl⟩) rfl ?_))
     apply aV (fun c=>by cases c) (fun _=>cu ?_)
     apply av rfl ?_
     refine jq ?_
     dsimp only
     rw[Qdq n1,Quq (by decide)]
     apply cu ?_
     apply av rfl ?_
     apply hJ hi hj h1 h2 n a ho.2.1 hda ?_
     apply av rfl ?_
     refine jq ?_
     dsimp only
     rw[Qdq n2,Quq (by decide)]
     apply cu ?_
     apply av rfl ?_
     apply av rfl ?_
     apply hJ hi hj h1 h2 n b ho.2.2 hdb ?_
     refine rP ?_
     exact d_ q
end W28
namespace DL
open PySem PySem.Spec L2
def vH{l:List (Key×D)}{k:Key}(h:k∈l.map (·.1)):∃d,sM l k=some d/\(k,d)∈l:=by
 unfold sM
 cases e:l.find? fun kv=>decide (kv.1=k) with
 | none=>
   obtain⟨p,hp,rfl⟩:=Qkq.mp h
   have:=List.find?_eq_none.mp e p hp
   simp at this
 | some p=>
   have h1:=List.find?_some e
   have h2:=List.mem_of_find?_eq_some e
   have h3:p.1=k:=by simpa using h1
   exact⟨p.2,rfl,by rw[←h3];exact h2⟩
def Av{l:List (Key×D)}{k:Key}{v:D}{p:Key×D}(h:p∈putD l k v):p∈l\/p=(k,v):=by
 unfold putD at h
 split at h
 ·obtain⟨q,hq,e⟩:=Qkq.mp h
  split at e
  ·rename_i c
   rw[←e,c]
   exact .inr rfl
  ·rw[←e]
   exact .inl hq
 ·rcases mQa.mp h with h|h
  ·exact .inl h
  ·exact .inr (Qfq.mp h)
def my{l:List (Key×D)}{k x:Key}{v:D}(h:x=k\/x∈l.map (·.1)):x∈(putD l k v).map (·.1):=by
 unfold putD
 split
 ·rename_i c
  have key:∀p∈l,(if p.1=k then(p.1,v) else p).1=p.1:=fun p _=>by split <;>rfl
  have e:(l.map fun p=>if p.1=k then(p.1,v) else p).map (·.1)=l.map (·.1):=by
   rw[QPq]
   exact List.map_congr_left key
  rw[e]
  rcases h with rfl|h
  ·obtain⟨p,hp,hc⟩:=List.any_eq_true.mp c
   exact Qkq.mpr ⟨p,hp,by simpa using hc⟩
  ·exact h
 ·rw[Qzq]
  rcases h with rfl|h
  ·exact Qoq _ (by simp)
  ·exact List.mem_append_left _ h
theorem nB:∀{more l:List (Key×D)} {p:Key×D},p∈dw l more->p∈l\/p∈more
 | [],l,p,h=>.inl h
 | q::more,l,p,h=>by
   rcases nB (more:=more) (l:=putD l q.1 q.2) h with h|h
   · rcases Av h with h|rfl
     · exact .inl h
     · exact .inr (QBq ..)
   · exact .inr (Qpq _ h)
theorem hG:∀{more l:List (Key×D)} {x:Key},x∈l.map (·.1)\/x∈more.map (·.1)->x∈(dw l more).map (·.1)
 | [],l,x,h=>h.elim id fun z=>by cases z
 | q::more,l,x,h=>by
   refine hG (more:=more) (l:=putD l q.1 q.2) ?_
   rcases h with h|h
   · exact .inl (my (.inr h))
   · rcases Qsq.mp h with rfl|h
     · exact .inl (my (.inl rfl))
     · exact .inr h
theorem um:∀ss:List Str,Au (ss.map D.str)=some (ss.map Sum.inr)
 | []=>rfl
 |s::ss=>by simp only[QDq,Au,vn,Qbq];rw[um ss];rfl
section
variable{Γ:de}{S:aH}
def M8{Q:D->aH->Prop}(q:Q (.ref S.length) (S++ [.dct []])):E MU Γ S Q:=⟨_,_,rfl,q⟩
def Kg{f g:eF}{Q:D->aH->Prop}(h:E f Γ S fun p S1=>E g Γ S1 fun r S2=>∃ss:List Str,p.1=ss.map D.str/\(p.2.stays S2 p.1/\p.1.length=r.1.length)/\Q (.ref S2.length) (S2++ [.dct (dw [] ((ss.map Sum.inr).zip r.1))])):E (KH f g) Γ S Q:=by
 obtain⟨p,S1,e1,r,S2,e2,ss,h1,h2,q⟩:=h
 refine⟨_,_,?_,q⟩
 unfold KH
 rw[e1]
 simp only[Qbq]
 rw[e2]
 simp only[Qbq]
 rw[Qhq h2,h1,um]
 rfl
def LY{f g:bH}{Q:D->aH->Prop}(h:E f Γ S fun x S1=>E g Γ S1 fun y S2=>∃k j l0 l m,x=.ref k/\y=.ref j/\k≠j/\S1[k]?=some (.dct l0)/\S2[k]?=some (.dct l)/\S2[j]?=some (.dct m)/\l.length+m.length<=sizeLine/\Q .non (S2.set k (.dct (dw l m)))):E (HF f g) Γ S Q:=by
 obtain⟨x,S1,e1,y,S2,e2,k,j,l0,l,m,rfl,rfl,hn,h0,h1,h2,h3,q⟩:=h
 exact⟨_,_,by unfold HF;rw[e1];simp only[Qbq];rw[e2];simp only[Qbq];rw[Qhq hn];simp only[h0,h1,h2];rw[Qhq h3],q⟩
def M6{f g h:bH}{Q:Out->Prop}(w:E h Γ S fun d S1=>E f Γ S1 fun x S2=>E g Γ S2 fun y S3=>∃k l z,x=.ref k/\y=.str z/\S3[k]?=some (.dct l)/\l.length<sizeLine/\Q (.nx Γ (S3.set k (.dct (putD l (.inr z) d))))):T (Mr f g h) Γ S Q:=by
 obtain⟨d,S1,e1,x,S2,e2,y,S3,e3,k,l,z,rfl,rfl,h1,h2,q⟩:=w
 exact⟨_,by unfold Mr;rw[e1];simp only[Qbq];rw[e2];simp only[Qbq];rw[e3];simp only[Qbq,h1,vn];rw[Qhq h2],q⟩
def M7{α:Type}{n:Nat}{js:List (Option Nat)}{i:yY}{g:om}{fk fv:bH}{Q:Out->Prop}(P:de->Prop)(enc:α->D)(key:α->Str)(val:α->D)(h0:P (nQ js Γ)) (h:E i Γ S fun p S1=>∃xs:List α,p.1=xs.map enc/\p.2 S1/\xs.length<=1000∧
   (∀x∈xs,∀Γ',P Γ'->Tg g (enc x) Γ' S1 fun Γ1 S2=>S2=S1/\P Γ1/\E fk Γ1 S1 fun y S3=>y=.str (key x)/\S3=S1/\E fv Γ1 S1 fun z S4=>z=val x/\S4=S1)∧
   Q (.nx (Γ.set n (some (.ref S1.length))) (S1++ [.dct (dw [] (xs.map fun x=>(Sum.inr (key x),val x)))]))):T (Mu n (sR js i g cz fk fv)) Γ S Q:=by
 obtain⟨⟨ds,W⟩,S1,e1,xs,rfl,hW,hl,hs,q⟩:=h
 have lp:∀(l:List (Key×D)) (k:Key) (v:D),(putD l k v).length<=l.length+1:=fun l k v=>by
  unfold putD
  split <;>simp
 have go:∀(ys:List α) (Γ':de) (acc:List (Key×D)),(∀y∈ys,y∈xs)->P Γ'->acc.length+ys.length<=1000->∃r,jJ g cz fk fv W (ys.map enc) Γ' S1 acc=some (r,S1)/\r=dw acc (ys.map fun x=>(Sum.inr (key x),val x)):=by
  intro ys
  induction ys with
  |nil=>intro Γ' acc _ _ _;exact⟨acc,by simp only[List.map_nil,jJ];rw[Qhq hW],rfl⟩
  | cons a ys ih=>
    intro Γ' acc hm hp hlen
    obtain⟨Γ1,S2,e2,rfl,hp1,y,S3,e3,rfl,rfl,z,S4,e4,rfl,rfl⟩:=hs a (hm a (QBq ..)) Γ' hp
    have hlen2:=lp acc (Sum.inr (key a)) (val a)
    simp only[Qnq] at hlen
    obtain⟨r,e5,hr⟩:=ih Γ1 (putD acc (Sum.inr (key a)) (val a)) (fun y hy=>hm y (Qpq _ hy)) hp1 (by omega)
    refine⟨r,?_,hr⟩
    simp only[QDq,jJ]
    rw[Qhq hW,e2]
    simp only[Qbq,cz,if_true]
    rw[e3]
    simp only[Qbq]
    rw[e4]
    simp only[Qbq,vn]
    rw[Qhq (bD (by omega))]
    exact e5
 obtain⟨r,e2,rfl⟩:=go xs _ [] (fun _ h=>h) h0 (by simpa using hl)
 exact⟨_,by unfold Mu sR;rw[e1];simp only[Qbq];rw[e2];rfl,q⟩
end
def mj{Γ:de}{S:aH}{f g:eF}{Q:(List D×(aH->Prop))->aH->Prop}(h:E f Γ S fun p S1=>E g Γ S1 fun r S2=>(p.2.stays S2 p.1/\p.1.length<=r.1.length)/\Q (Ag p.1 r.1,fun S=>p.2.stays S p.1/\r.2.stays S r.1) S2):E (pY f g) Γ S Q:=by
 obtain⟨p,S1,e1,r,S2,e2,hc,q⟩:=h
 exact⟨_,S2,by unfold pY;rw[e1];simp only[Qbq];rw[e2];simp only[Qbq];rw[Qhq hc],q⟩
def lY(l:List (Key×D)):Prop:=∀p∈l,∃v:Int,p.2=.int v/\0<=v/\v<=9
def lY.merge{l m:List (Key×D)}(h1:lY l)(h2:lY m):lY (dw l m):=fun p hp=>(nB hp).elim (h1 p) (h2 p)
def lY.put{l:List (Key×D)}{k:Key}{v:Int}(h:lY l)(h0:0<=v)(h9:v<=9):lY (putD l k (.int v)):=fun p hp=>by
 rcases Av hp with hp|rfl
 ·exact h p hp
 ·exact⟨v,rfl,h0,h9⟩
def numAt(l:List (Key×D))(x:Str):Int:=match sM l (.inr x) with|some (.int v)=>v|_=>0
def oV{l:List (Key×D)}(h:lY l){x:Str}(hx:(Sum.inr x:Key)∈l.map (·.1)):sM l (.inr x)=some (.int (numAt l x))/\0<=numAt l x/\numAt l x<=9:=by
 obtain⟨d,h1,h2⟩:=vH hx
 obtain⟨v,h3,h4,h5⟩:=h _ h2
 have h3:d=.int v:=h3
 subst h3
 have e:numAt l x=v:=by unfold numAt;rw[h1]
 rw[e]
 exact⟨h1,h4,h5⟩
def F2{ss:List Str}{vs:List Int}(h:∀v∈vs,0<=v/\v<=9):lY ((ss.map (Sum.inr:Str->Key)).zip (vs.map D.int)):=fun p hp=>by
 have h2:p.2∈vs.map D.int:=(List.of_mem_zip (show(p.1,p.2)∈_ from hp)).2
 obtain⟨v,hv,e⟩:=Qkq.mp h2
 exact⟨v,e.symm,h v hv⟩
def Gw{ss:List Str}{ds:List D}(h:ss.length=ds.length):((ss.map (Sum.inr:Str->Key)).zip ds).map (·.1)=ss.map Sum.inr:=by
 rw[List.map_fst_zip]
 simpa using Nat.le_of_eq h
end DL
namespace W28
open PySem PySem.Spec L2 DL
def eN(ts:List (Str×Nat))(vs:List Int):List (Key×D):=dw [] (((ts.map (·.1)).map Sum.inr).zip (vs.map D.int))
def DS(w:dD)(s:bK)(ts:List (Str×Nat))(vs:List Int):List (Key×D):=dw (eN w.shared s.shared) (eN ts vs)
def vy(r:Rm)(rs:dt)(given:Int):List (Key×D):=putD (eN r.things rs.vals) (.inr "given") (.int given)
def CL(r:Rm)(rs:dt):List (Key×D):=dw [] ((r.aa.zip rs.aa).map fun p=>(Sum.inr p.1.1,D.int (p.2.length:Nat)))
def iM{ts:List (Str×Nat)}{vs:List Int}(h:∀v∈vs,0<=v/\v<=9):lY (eN ts vs):=lY.merge (fun p hp=>by cases hp) (F2 h)
def iI{ts:List (Str×Nat)}{vs:List Int}(hl:ts.length=vs.length){x:Str}(h:x∈ts.map (·.1)):(Sum.inr x:Key)∈(eN ts vs).map (·.1):=by
 refine hG (.inr ?_)
 rw[Gw (by simpa using hl)]
 exact Qkq.mpr ⟨x,h,rfl⟩
structure nE(S S':aH):Prop where
 len:S.length<=S'.length
 eq:∀j,j<S.length->S'[j]?=S[j]?
def nE.refl{S:aH}:nE S S:=⟨Qmq _,fun _ _=>rfl⟩
def nE.app{S S1 G:aH}(x:nE S S1):nE S (S1++G):=⟨by rw[lQa];have:=x.len;omega,fun j hj=>by rw[QHq (by have:=x.len;omega)];exact x.eq j hj⟩
def nE.put{S S1:aH}{r:Nat}{o:O}(x:nE S S1)(hr:S.length<=r):nE S (S1.set r o):=⟨by simpa using x.len,fun j hj=>by rw[QKq (by omega)];exact x.eq j hj⟩
def mQ{S S':aH}{d:D}{Q:Res->aH->Prop}(x:nE S S')(hd:∀k,d≠.ref k)(hl:cp 0 d=true)(q:Q (.d d) S):Op (settle S d S') fun p=>Q p.1 p.2:=by
 refine iO ⟨x.len,fun k o hk e=>.inl (by rw[←x.eq k hk];exact e)⟩ ?_ hd (dH hl) q
 apply List.ext_getElem?
 intro j
 by_cases hj:j<S.length
 ·rw[List.getElem?_take_of_lt hj]
  exact x.eq j hj
 ·rw[List.getElem?_eq_none (by rw[Qxq];omega),List.getElem?_eq_none (by omega)]
def iq:∀a:Str×Nat,∃r,uV a=.tup (.str a.1::r):=fun a=>⟨_,rfl⟩
def CT:∀a:Str×Str,∃r,Ey a=.tup (.str a.1::r):=fun a=>⟨_,rfl⟩
section
variable{S:aH}{Q:Res->aH->Prop}
theorem tV:∀{m l:List (Key×D)},(dw l m).length<=l.length+m.length
 | [],l=>Qmq _
 | q::m,l=>by
   have h1:(dw (putD l q.1 q.2) m).length<=(putD l q.1 q.2).length+m.length:=tV
   have h2:(putD l q.1 q.2).length<=l.length+1:=by unfold putD;split <;>simp
   show(dw (putD l q.1 q.2) m).length<=_
   simp only[Qnq]
   omega
def tP{ts:List (Str×Nat)}{vs:List Int}:(eN ts vs).length<=ts.length:=by
 refine QAq tV ?_
 simp only[QGq,List.length_zip,lQm]
 omega
def xa{w:dD}{s:bK}{h:Nat}{ts:List (Str×Nat)}{pr:List Rw}{vs:List Int}{fs:List cG}{f:cG}{t:Tr}(hw:w.af[h]?=some (ts,pr))(hs:s.af[h]?=some (vs,fs))(hf:fs.getLast? =some f)(hr:f.room= -1)
  (l1:w.shared.length=s.shared.length) (l2:ts.length=vs.length) (b1:w.shared.length<=100) (b2:ts.length<=100) (v1:∀v∈s.shared,0<=v/\v<=9) (v2:∀v∈vs,0<=v/\v<=9)
  (ho:t.Ok (ts.map (·.1)++w.shared.map (·.1)) []) (hd:t.dep<=6) (q:Q (.d (.int (AS (numAt (DS w s ts vs)) (fun _=>0) t))) S):Fn eg [w.d,s.d,.int h,t.d] S Q:=by
 have nine:lY (DS w s ts vs):=lY.merge (iM v1) (iM v2)
 refine cg ?_
 unfold qg
 symm
 apply b_ hs hf ?_
 apply av (d:=.int f.room) rfl ?_
 refine er ?_
 dsimp only
 rw[Qeq hr,Qhq rfl]
 symm
 apply Kg ?_
 apply av rfl ?_
 apply gn (enc:=uV) (nm:=(·.1)) iq (by omega) ?_
 refine av rfl ?_
 refine bS (ds:=s.shared.map D.int) ?_
 refine⟨_,rfl,⟨trivial,by simp only[lQm];exact l1⟩,?_⟩
 dsimp only
 rw[show dw [] (((w.shared.map (·.1)).map (Sum.inr:Str->Key)).zip (s.shared.map D.int))=eN w.shared s.shared from rfl]
 apply bV (jb (LY ?_))
 apply Kg ?_
 apply av rfl ?_
 refine av (d:=mW (ts,pr)) (a8 (by rw[gQm,hw];rfl)) ?_
 symm
 apply av rfl ?_
 apply gn (enc:=uV) (nm:=(·.1)) iq (by omega) ?_
 apply av rfl ?_
 refine av (d:=AR (vs,fs)) (a8 (by rw[gQm,hs];rfl)) ?_
 symm
 refine av rfl ?_
 refine bS (ds:=vs.map D.int) ?_
 refine⟨_,rfl,⟨trivial,by simp only[lQm];exact l2⟩,?_⟩
 dsimp only
 rw[show dw [] (((ts.map (·.1)).map (Sum.inr:Str->Key)).zip (vs.map D.int))=eN ts vs from rfl]
 have ga:(S++ [O.dct (eN w.shared s.shared)])[S.length]?=some (.dct (eN w.shared s.shared)):=aP
 have hlen:(S++ [O.dct (eN w.shared s.shared)]).length=S.length+1:=by simp
 have x1:nE S (S++ [O.dct (eN w.shared s.shared)]):=nE.refl.app
 show∃k j l0 l m,D.ref S.length=.ref k/\D.ref (S++ [O.dct (eN w.shared s.shared)]).length=.ref j/\k≠j/\(S++ [O.dct (eN w.shared s.shared)])[k]?=some (.dct l0)/\(S++ [O.dct (eN w.shared s.shared)]++ [O.dct (eN ts vs)])[k]?=some (.dct l)/\(S++ [O.dct (eN w.shared s.shared)]++ [O.dct (eN ts vs)])[j]?=some (.dct m)/\_
 refine⟨_,_,_,_,_,rfl,rfl,by omega,ga,bh ga,aP,?_,?_⟩
 ·have h1:=tP (ts:=w.shared) (vs:=s.shared)
  have h2:=tP (ts:=ts) (vs:=vs)
  exact nQl (bD (by omega))
 have gm:((S++ [O.dct (eN w.shared s.shared)]++ [O.dct (eN ts vs)]).set S.length (.dct (dw (eN w.shared s.shared) (eN ts vs))))[S.length]?=some (.dct (DS w s ts vs)):=da (bh ga)
 have x2:nE S ((S++ [O.dct (eN w.shared s.shared)]++ [O.dct (eN ts vs)]).set S.length (.dct (dw (eN w.shared s.shared) (eN ts vs)))):=x1.app.put (Qmq _)
 generalize ((S++ [O.dct (eN w.shared s.shared)]++ [O.dct (eN ts vs)]).set S.length (.dct (dw (eN w.shared s.shared) (eN ts vs))))=S2 at gm x2⊢
 symm
 apply M8 ?_
 refine hJ (th:=numAt (DS w s ts vs)) (wt:=fun _=>0) (ws:=ts.map (·.1)++w.shared.map (·.1)) (bs:= []) (bh gm) aP (fun x hx=> ?_) (fun b hb=>by cases hb) 6 t ho hd ?_
 ·refine(oV nine ?_).1
  refine hG ?_
  rcases mQa.mp hx with hx|hx
  ·exact .inr (iI l2 hx)
  ·exact .inl (iI l1 hx)
 ·exact mQ x2.app (fun k z=>(nomatch z)) rfl q
end
section
variable{S:aH}{Q:Res->aH->Prop}
theorem zL:∀(bs:List (Str×Str)) (ls:List (List (Int×Int))),Ag ((bs.map (·.1)).map D.str) (ls.map eC)=(bs.zip ls).map fun p=>D.tup [.str p.1.1,eC p.2]
 | [],_=>rfl
 |_::_,[]=>rfl
 | b::bs,l::ls=>by
   have:=zL bs ls
   simp only[Ag,QDq,List.zipWith_cons_cons,List.zip_cons_cons] at this⊢
   rw[this]
def zH(r:Rm)(rs:dt)(x:Str):Int:=numAt (CL r rs) x
def FT{r:Rm}{rs:dt}(hl:r.aa.length=rs.aa.length){x:Str}(h:x∈r.aa.map (·.1)):sM (CL r rs) (.inr x)=some (.int (zH r rs x)):=by
 have hk:(Sum.inr x:Key)∈(CL r rs).map (·.1):=by
  refine hG (.inr ?_)
  rw[QPq]
  obtain⟨b,hb,rfl⟩:=Qkq.mp h
  obtain⟨i,hi,e⟩:=List.getElem_of_mem hb
  refine Qkq.mpr ⟨(b,rs.aa[i]'(by omega)),?_,rfl⟩
  rw[←e]
  have:(r.aa.zip rs.aa)[i]?=some (r.aa[i],rs.aa[i]'(by omega)):=by
   rw[List.getElem?_zip_eq_some]
   exact⟨gQe hi,gQe (by omega)⟩
  exact mQg this
 obtain⟨d,h1,h2⟩:=vH hk
 have hi:∃v:Int,d=.int v:=by
  rcases nB h2 with h2|h2
  ·cases h2
  ·obtain⟨p,_,e⟩:=Qkq.mp h2
   exact⟨_,(congrArg (·.2) e).symm⟩
 obtain⟨v,rfl⟩:=hi
 unfold zH DL.numAt
 rw[h1]
def uZ{w:dD}{s:bK}{h i:Nat}{vs:List Int}{fs:List cG}{f:cG}{r:Rm}{rs:dt}{t:Tr}(hs:s.af[h]?=some (vs,fs))(hf:fs.getLast? =some f)(hr:f.room=i)(hw:w.rooms[i]?=some r)(hsr:s.rooms[i]?=some rs)
  (l1:r.things.length=rs.vals.length) (l2:r.aa.length=rs.aa.length) (b1:r.things.length<=100) (b2:r.aa.length<=100) (v1:∀v∈rs.vals,0<=v/\v<=9) (v2:0<=f.given/\f.given<=9)
  (ho:t.Ok (r.things.map (·.1)++gE) (r.aa.map (·.1))) (hd:t.dep<=6) (q:Q (.d (.int (AS (numAt (vy r rs f.given)) (zH r rs) t))) S):Fn eg [w.d,s.d,.int h,t.d] S Q:=by
 have nine:lY (vy r rs f.given):=(iM v1).put v2.1 v2.2
 refine cg ?_
 unfold qg
 symm
 apply b_ hs hf ?_
 apply av (d:=.int f.room) rfl ?_
 refine er ?_
 dsimp only
 rw[Qdq (show¬f.room= -1 by omega),Quq (by decide),hr]
 apply cu ?_
 apply Kg ?_
 apply av rfl ?_
 refine av (d:=r.d) (a8 (by rw[gQm,hw];rfl)) ?_
 symm
 apply av rfl ?_
 apply gn (enc:=uV) (nm:=(·.1)) iq (by omega) ?_
 apply av rfl ?_
 refine av (d:=rs.d) (a8 (by rw[gQm,hsr];rfl)) ?_
 symm
 refine av rfl ?_
 refine bS (ds:=rs.vals.map D.int) ?_
 refine⟨_,rfl,⟨trivial,by simp only[lQm];exact l1⟩,?_⟩
 dsimp only
 rw[show dw [] (((r.things.map (·.1)).map (Sum.inr:Str->Key)).zip (rs.vals.map D.int))=eN r.things rs.vals from rfl]
 have x1:nE S (S++ [O.dct (eN r.things rs.vals)]):=nE.refl.app
 apply bV (M6 ?_)
 apply av (d:=.int f.given) rfl ?_
 refine⟨_,_,_,rfl,rfl,aP,bD (by have:=tP (ts:=r.things) (vs:=rs.vals);omega),?_⟩
 have gm:((S++ [O.dct (eN r.things rs.vals)]).set S.length (.dct (putD (eN r.things rs.vals) (.inr "given") (.int f.given))))[S.length]?=some (.dct (vy r rs f.given)):=da aP
 have x2:nE S ((S++ [O.dct (eN r.things rs.vals)]).set S.length (.dct (putD (eN r.things rs.vals) (.inr "given") (.int f.given)))):=x1.put (Qmq _)
 generalize ((S++ [O.dct (eN r.things rs.vals)]).set S.length (.dct (putD (eN r.things rs.vals) (.inr "given") (.int f.given))))=S2 at gm x2⊢
 apply bV (M7 (α:=(Str×Str)×List (Int×Int)) (fun Γ'=>∃a b,Γ'= [a,b]) (fun p=>D.tup [.str p.1.1,eC p.2]) (fun p=>p.1.1) (fun p=>.int (p.2.length:Nat)) ⟨none,none,rfl⟩ (mj ?_))
 apply av rfl ?_
 refine av (d:=r.d) (a8 (by rw[gQm,hw];rfl)) ?_
 symm
 apply av rfl ?_
 apply gn (enc:=Ey) (nm:=(·.1)) CT (by omega) ?_
 apply av rfl ?_
 refine av (d:=rs.d) (a8 (by rw[gQm,hsr];rfl)) ?_
 symm
 refine av rfl ?_
 refine bS (ds:=rs.aa.map eC) ?_
 refine⟨⟨trivial,by simp only[lQm];omega⟩,r.aa.zip rs.aa,zL _ _,⟨trivial,trivial⟩,by rw[List.length_zip];omega,fun p hp Γ' hΓ=> ?_,?_⟩
 ·obtain⟨a,b,rfl⟩:=hΓ
  refine eK rfl (ax (a_ (ax (a_ (bu ?_)))))
  apply⟨rfl,⟨_,_,rfl⟩,?_⟩
  apply⟨rfl,rfl,?_⟩
  refine bS (ds:=p.2.map pairD) ?_
  exact⟨by simp,rfl⟩
 symm
 refine hJ (th:=numAt (vy r rs f.given)) (wt:=zH r rs) (ws:=r.things.map (·.1)++gE) (bs:=r.aa.map (·.1)) (kws:=CL r rs) (bh gm) aP (fun x hx=> ?_) (fun b hb=>FT l2 hb) 6 t ho hd ?_
 ·refine(oV nine ?_).1
  refine my ?_
  rcases mQa.mp hx with hx|hx
  ·exact .inr (iI l1 hx)
  ·left
   rw[Qfq.mp hx]
 ·exact mQ x2.app (fun k z=>(nomatch z)) rfl q
end
end W28
namespace DL
open PySem PySem.Spec L2
def xA{Γ:de}{S:aH}{neg:Bool}{f:bH}{g:eF}{Q:D->aH->Prop}(h:E f Γ S fun x S1=>E g Γ S1 fun p S2=>∃v vs,sL x=some v/\ff p.1=some vs/\Q (.bl (if neg then !EI v vs else EI v vs)) S2):E (Cn neg f g) Γ S Q:=by
 obtain⟨x,S1,e1,p,S2,e2,v,vs,h1,h2,q⟩:=h
 exact⟨_,S2,by unfold Cn;rw[e1];simp only[Qbq];rw[e2];simp only[Qbq];rw[h1,h2];rfl,q⟩
def Il{x:Str}{ss:List Str}:EI (.str x) (ss.map V.str)=decide (x∈ss):=by
 induction ss with
 |nil=>rfl
 | cons a ss ih=>
   show(jE (.str a) (.str x)||EI (.str x) (ss.map V.str))=_
   rw[ih]
   simp only[jE,Qsq]
   by_cases c:a=x
   · subst c;simp
   · have c':¬x=a:=fun z=>c z.symm
     simp[c,c']
end DL
namespace W28
open PySem PySem.Spec L2 DL
section
variable{S:aH}{Q:Res->aH->Prop}
def fT(ns:List Str)(vs:List Int)(x:Str)(v:Int):List Int:=vs.set ((pq (.str x) (ns.map V.str)).getD 0) v
def oJ{α:Type}{enc:α->D}{nm:α->Str}{xs:List α}{x:Str}(he:∀a,∃r,enc a=.tup (.str (nm a)::r))(hl:xs.length<=1000)(hx:x∈xs.map nm)(q:((pq (.str x) ((xs.map nm).map V.str)).getD 0)<xs.length->Q (.d (.int ((pq (.str x) ((xs.map nm).map V.str)).getD 0:Nat))) S):Fn dE [.tup (xs.map enc),.str x] S Q:=by
 refine cg ?_
 unfold vC
 obtain⟨j,h1,h2⟩:=yG hx
 have hj:j<xs.length:=by have:=(gQs.mp h2).1;simpa using this
 rw[h1] at q
 refine qE ?_
 have key:E (gA (d0 eO (aj (ak 0) au))) ([D.tup (xs.map enc),D.str x].map some++List.replicate (2- [D.tup (xs.map enc),D.str x].length) none) S fun p S1=>p=((xs.map nm).map D.str,.fr)/\S1=S:=by
  symm
  exact gn he hl ⟨rfl,rfl⟩
 obtain⟨p,S1,e1,rfl,rfl⟩:=key
 refine⟨.int j,S1,?_,cU (fun k z=>(nomatch z)) rfl (q hj)⟩
 unfold JS
 rw[e1]
 simp only[Qbq]
 rw[Qhq (show Tag.fr.isL=true from rfl)]
 show((ak 1 _ S1).bind _)=_
 rw[show ak 1 ([D.tup (xs.map enc),D.str x].map some++List.replicate (2- [D.tup (xs.map enc),D.str x].length) none) S1=some (.str x,S1) from rfl]
 simp only[Qbq]
 rw[Qhq (show Tag.stays S1 _ .fr from trivial)]
 show(sL (.str x)).bind _=_
 simp only[sL,Qbq]
 rw[i6]
 simp only[Qbq]
 rw[h1]
 rfl
def F3{w:dD}{s:bK}{h i:Nat}{vs:List Int}{fs:List cG}{f:cG}{r:Rm}{rs:dt}{x:Str}{v:Int}(hs:s.af[h]?=some (vs,fs))(hf:fs.getLast? =some f)(hr:f.room=i)(hw:w.rooms[i]?=some r)(hsr:s.rooms[i]?=some rs)
  (l1:r.things.length=rs.vals.length) (b1:r.things.length<=100) (b2:s.rooms.length<=100) (hx:x∈r.things.map (·.1))
  (q:Q (.d ({s with rooms:=s.rooms.set i {rs with vals:=fT (r.things.map (·.1)) rs.vals x v}}:bK).d) S):Fn f_ [w.d,s.d,.int h,.str x,.int v] S Q:=by
 refine cg ?_
 unfold nM
 symm
 apply b_ hs hf ?_
 apply av (d:=.int f.room) rfl ?_
 refine oM ?_
 dsimp only
 rw[Qdq (show¬f.room= -1 by omega),hr]
 show if (true=true) then _ else _
 rw[Qhq rfl]
 symm
 apply av rfl ?_
 refine av (d:=r.d) (a8 (by rw[gQm,hw];rfl)) ?_
 symm
 apply av rfl ?_
 apply oJ (enc:=uV) (nm:=(·.1)) iq (by omega) hx fun hj=> ?_
 apply av rfl ?_
 refine av (d:=rs.d) (a8 (by rw[gQm,hsr];rfl)) ?_
 symm
 apply av rfl ?_
 refine eJ (xs:=rs.vals.map D.int) (by rw[lQm];omega) (by rw[lQm];omega) (bp fun _ _=>rfl) rfl ?_
 symm
 refine⟨by show 1<=_;decide,?_⟩
 apply jH ?_
 apply av rfl ?_
 refine av (d:=rs.d) (a8 (by rw[gQm,hsr];rfl)) ?_
 apply cZ ?_
 refine⟨_,rfl,cY ⟨_,rfl,?_⟩⟩
 refine et (by show 5<=_;decide) ?_
 symm
 have e:({rs with vals:=fT (r.things.map (·.1)) rs.vals x v}:dt).d=.tup ([.tup ((rs.vals.map D.int).set ((pq (.str x) ((r.things.map (·.1)).map V.str)).getD 0) (.int v))]++jQ [cD rs.vals,.int rs.within,cD rs.row,cD rs.ag,.tup (rs.aa.map eC)] (some 1) none):=by
  show D.tup [cD (fT _ _ _ _),_,_,_,_]=_
  unfold fT cD
  rw[map_set]
  rfl
 rw[←e]
 refine dP (gQs.mp hsr).1 (by omega) ?_
 exact cU (bc _) (bK.low _) q
end
section
variable{S:aH}{Q:Res->aH->Prop}
noncomputable def xg(w:dD)(s:bK)(h:Nat)(ts:List (Str×Nat))(vs:List Int)(fs:List cG)(x:Str)(v:Int):bK:=
 if x∈w.shared.map (·.1) then{s with shared:=fT (w.shared.map (·.1)) s.shared x v} else{s with af:=s.af.set h (fT (ts.map (·.1)) vs x v,fs)}
def Ip{w:dD}{s:bK}{h:Nat}{ts:List (Str×Nat)}{pr:List Rw}{vs:List Int}{fs:List cG}{f:cG}{x:Str}{v:Int}(hw:w.af[h]?=some (ts,pr))(hs:s.af[h]?=some (vs,fs))(hf:fs.getLast? =some f)(hr:f.room= -1)
  (l1:w.shared.length=s.shared.length) (l2:ts.length=vs.length) (b1:w.shared.length<=100) (b2:ts.length<=100) (b3:s.af.length<=100) (hx:x∈ts.map (·.1)++w.shared.map (·.1))
  (q:Q (.d (xg w s h ts vs fs x v).d) S):Fn f_ [w.d,s.d,.int h,.str x,.int v] S Q:=by
 refine cg ?_
 unfold nM
 symm
 apply b_ hs hf ?_
 apply av (d:=.int f.room) rfl ?_
 refine oM ?_
 dsimp only
 rw[Qeq hr]
 refine aV (fun c=>by cases c) (fun _=>cu ?_)
 apply bV (eY (fJ (xA ?_)))
 apply av rfl ?_
 apply gn (enc:=uV) (nm:=(·.1)) iq (by omega) ?_
 refine⟨_,_,rfl,i6 _,?_⟩
 unfold xg at q
 show if EI (.str x) ((w.shared.map (·.1)).map V.str)=true then _ else _
 rw[Il]
 by_cases c:x∈w.shared.map (·.1)
 ·rw[Qhq c] at q
  rw[Qeq c,Qhq rfl]
  symm
  apply av rfl ?_
  apply av rfl ?_
  apply oJ (enc:=uV) (nm:=(·.1)) iq (by omega) c fun hj=> ?_
  refine eJ (xs:=s.shared.map D.int) (by rw[lQm];omega) (by rw[lQm];omega) (bp fun _ _=>rfl) rfl ?_
  symm
  apply av rfl ?_
  apply av rfl ?_
  apply av rfl ?_
  refine⟨by show 4<=_;decide,?_⟩
  rw[←map_set]
  exact cU (d:=({s with shared:=fT (w.shared.map (·.1)) s.shared x v}:bK).d) (bc _) (bK.low _) q
 ·rw[Quq c] at q
  rw[Qdq c,Quq (by decide)]
  refine cu ?_
  have hx':x∈ts.map (·.1):=(mQa.mp hx).resolve_right c
  symm
  apply av rfl ?_
  refine av (d:=AR (vs,fs)) (a8 (by rw[gQm,hs];rfl)) ?_
  apply eK rfl (ax (a_ (ax (a_ (bu ?_)))))
  apply av rfl ?_
  refine av (d:=mW (ts,pr)) (a8 (by rw[gQm,hw];rfl)) ?_
  symm
  apply av rfl ?_
  apply oJ (enc:=uV) (nm:=(·.1)) iq (by omega) hx' fun hj=> ?_
  refine eJ (xs:=vs.map D.int) (by rw[lQm];omega) (by rw[lQm];omega) (bp fun _ _=>rfl) rfl ?_
  symm
  rw[←map_set]
  rw[show D.tup ((vs.set ((pq (.str x) ((ts.map (·.1)).map V.str)).getD 0) v).map D.int)=cD (fT (ts.map (·.1)) vs x v) from rfl]
  generalize fT (ts.map (·.1)) vs x v=nv at q⊢
  have hh:h<s.af.length:=(gQs.mp hs).1
  have hb:s.af.length<=900:=by omega
  have q2:Op (settle S ({s with af:=s.af.set h (nv,fs)}:bK).d S) fun p=>Q p.1 p.2:=cU (bc _) (bK.low _) q
  exact iy hh hb q2
end
section
variable{S:aH}{Q:Res->aH->Prop}
def g5(ns:List Str)(x:Str):Nat:=(pq (.str x) (ns.map V.str)).getD 0
def kR{ns:List Str}{x:Str}(h:x∈ns):g5 ns x<ns.length/\ns[g5 ns x]?=some x:=by
 obtain⟨j,h1,h2⟩:=yG h
 unfold g5
 rw[h1]
 exact⟨(gQs.mp h2).1,h2⟩
def jS{α:Type}{enc:α->D}{nm:α->Str}{xs:List α}{x:Str}(he:∀a,∃r,enc a=.tup (.str (nm a)::r))(hl:xs.length<=1000)(hx:x∈xs.map nm)(q:Q (.d (.int (g5 (xs.map nm) x:Nat))) S):Fn dE [.tup (xs.map enc),.str x] S Q:=oJ he hl hx fun _=>q
def nP{w:dD}{s:bK}{h i:Nat}{vs:List Int}{fs:List cG}{f:cG}{r:Rm}{x:Str}(hs:s.af[h]?=some (vs,fs))(hf:fs.getLast? =some f)(hr:f.room=i)(hw:w.rooms[i]?=some r)(b2:r.aa.length<=100)(hx:x∈r.aa.map (·.1))
  (q:Q (.d (.tup [.int i,.int (g5 (r.aa.map (·.1)) x:Nat)])) S):Fn j7 [w.d,s.d,.int h,.str x] S Q:=by
 refine cg ?_
 unfold zi
 symm
 apply b_ hs hf ?_
 refine av (d:=.int f.room) rfl ?_
 rw[hr]
 symm
 apply av rfl ?_
 refine av (d:=r.d) (a8 (by rw[gQm,hw];rfl)) ?_
 symm
 apply av rfl ?_
 apply jS (enc:=Ey) (nm:=(·.1)) CT (by omega) hx ?_
 refine⟨by show 2<=_;decide,?_⟩
 exact cU (fun k z=>(nomatch z)) rfl q
def kf{s:bK}{i b:Nat}{rs:dt}{l:List (Int×Int)}(hsr:s.rooms[i]?=some rs)(hb:b<rs.aa.length)(b1:rs.aa.length<=100)(b2:s.rooms.length<=100)
  (q:Q (.d ({s with rooms:=s.rooms.set i {rs with aa:=rs.aa.set b l}}:bK).d) S):Fn fY [s.d,.int i,.int b,eC l] S Q:=by
 refine cg ?_
 unfold sQ
 symm
 apply av rfl ?_
 refine av (d:=rs.d) (a8 (by rw[gQm,hsr];rfl)) ?_
 symm
 apply jH ?_
 apply cY (cZ ?_)
 apply⟨_,rfl,_,rfl,?_⟩
 apply av rfl ?_
 refine eJ (xs:=rs.aa.map eC) (by rw[lQm];omega) (by rw[lQm];omega) (bp fun l _=>tK l) (tK l) ?_
 symm
 refine⟨by show 1<=_;decide,?_⟩
 refine et (by show 5<=_;decide) ?_
 symm
 rw[←map_set]
 generalize hnb:rs.aa.set b l=nb at q⊢
 have e:({rs with aa:=nb}:dt).d=.tup (jQ [cD rs.vals,.int rs.within,cD rs.row,cD rs.ag,.tup (rs.aa.map eC)] none (some 4)++ [.tup (nb.map eC)]):=rfl
 rw[←e]
 have hi:i<s.rooms.length:=(gQs.mp hsr).1
 have hl:s.rooms.length<=900:=by omega
 have q2:Op (settle S ({s with rooms:=s.rooms.set i {rs with aa:=nb}}:bK).d S) fun p=>Q p.1 p.2:=cU (bc _) (bK.low _) q
 exact dP hi hl q2
def ip(p:Int×List Int)(h:Int):Int×List Int:=if 0<p.1 then(p.1-1,p.2) else(p.1,p.2++ [h])
def gC(p:Int×List Int):Int×List Int:=match p.2 with
 |_::l=>(p.1,l)
 | []=>(if 9<p.1+1 then 9 else p.1+1,[])
def y8{w:dD}{s:bK}{h:Int}{x:Str}{p:Int×List Int}(hx:x∈w.passes.map (·.1))(hp:s.passes[g5 (w.passes.map (·.1)) x]?=some p)(b1:w.passes.length<=100)(b2:s.passes.length<=100)(b3:p.2.length<=900)
  (q:Q (.d ({s with passes:=s.passes.set (g5 (w.passes.map (·.1)) x) (ip p h)}:bK).d) S):Fn t7 [w.d,s.d,.int h,.str x] S Q:=by
 refine cg ?_
 unfold FP
 symm
 apply av rfl ?_
 refine jS (enc:=uV) (nm:=(·.1)) iq (by omega) hx ?_
 generalize g5 (w.passes.map (·.1)) x=j at hp q⊢
 have hj:j<s.passes.length:=(gQs.mp hp).1
 have hl:s.passes.length<=900:=by omega
 symm
 apply av rfl ?_
 refine av (d:=vw p) (a8 (by rw[gQm,hp];rfl)) ?_
 refine eK rfl (ax (a_ (ax (a_ (bu ?_)))))
 have q2:Op (settle S ({s with passes:=s.passes.set j (ip p h)}:bK).d S) fun p=>Q p.1 p.2:=cU (bc _) (bK.low _) q
 unfold ip at q2
 symm
 by_cases c:0<p.1
 ·rw[Qhq c] at q2
  rw[Qeq c,Qhq rfl]
  symm
  refine⟨by show 2<=_;decide,?_⟩
  symm
  exact iB (p:=(p.1-1,p.2)) hj hl q2
 ·rw[Quq c] at q2
  rw[Qdq c,Quq (by decide)]
  apply cu ?_
  refine⟨by show 1<=_;decide,?_⟩
  refine et (by simp only[lQm,Qnq,QGq];exact nQl (bD (by omega))) ?_
  symm
  refine⟨by show 2<=_;decide,?_⟩
  symm
  have e:D.tup [.int p.1,.tup (p.2.map D.int++ [.int h])]=vw (p.1,p.2++ [h]):=by simp[vw,cD]
  rw[e]
  exact iB hj hl q2
end
section
variable{S:aH}{Q:Res->aH->Prop}
def mS{w:dD}{s:bK}{x:Str}{p:Int×List Int}(hx:x∈w.passes.map (·.1))(hp:s.passes[g5 (w.passes.map (·.1)) x]?=some p)(b1:w.passes.length<=100)(b2:s.passes.length<=100)
  (q:Q (.d ({s with passes:=s.passes.set (g5 (w.passes.map (·.1)) x) (gC p)}:bK).d) S):Fn g_ [w.d,s.d,.str x] S Q:=by
 refine cg ?_
 unfold qL
 symm
 apply av rfl ?_
 refine jS (enc:=uV) (nm:=(·.1)) iq (by omega) hx ?_
 generalize g5 (w.passes.map (·.1)) x=j at hp q⊢
 have hj:j<s.passes.length:=(gQs.mp hp).1
 have hl:s.passes.length<=900:=by omega
 symm
 apply av rfl ?_
 refine av (d:=vw p) (a8 (by rw[gQm,hp];rfl)) ?_
 refine eK rfl (ax (a_ (ax (a_ (bu ?_)))))
 have q2:Op (settle S ({s with passes:=s.passes.set j (gC p)}:bK).d S) fun p=>Q p.1 p.2:=cU (bc _) (bK.low _) q
 obtain⟨v,row⟩:=p
 symm
 refine xm ?_
 cases row with
 | cons a l=>
   apply aV (fun _=> ?_) (fun c=>by cases c)
   apply jH ?_
   apply cZ ?_
   apply⟨_,rfl,cY ⟨_,rfl,?_⟩⟩
   refine⟨by show 2<=_;decide,?_⟩
   symm
   have e:D.tup (jQ ((a::l).map D.int) (some 1) none)=cD l:=by
     rw[show(some (1:Int))=some ((1:Nat):Int) from rfl,ja (by simp)]
     rfl
   rw[e]
   exact iB (p:=(v,l)) hj hl q2
 | nil=>
   apply aV (fun c=>by cases c) (fun _=>cu ?_)
   apply Gb ?_
   refine⟨by show 2<=_;decide,?_⟩
   symm
   exact iB (p:=(if 9<v+1 then 9 else v+1,[])) hj hl q2
def Dl{wd sd hd rd:D}{s:bK}(q:Q (.d s.d) S):Fn sA [wd,s.d,hd,rd] S Q:=by
 refine cg ?_
 unfold Cf
 symm
 exact cU (bc _) (bK.low _) q
def Gx{wd:D}{s:bK}{h n:Nat}{vs:List Int}{fs:List cG}{f:cG}(h1:s.af[h]?=some (vs,fs))(h2:fs.getLast? =some f)(lf:fs.length<=900)(hl:s.af.length<=900)(q:Q (.d ({s with af:=s.af.set h (vs,fs.dropLast++ [{f with row:=n}])}:bK).d) S):Fn yt [wd,s.d,.int h,(Rw.go n).d] S Q:=by
 refine cg ?_
 unfold Gf
 symm
 apply av (d:=.int n) rfl ?_
 have q2:Op (settle S ({s with af:=s.af.set h (vs,fs.dropLast++ [{f with row:=n}])}:bK).d S) fun p=>Q p.1 p.2:=cU (bc _) (bK.low _) q
 exact pU h1 h2 lf hl q2
end
section
variable{S:aH}{Q:Res->aH->Prop}
def BS{w:dD}{s:bK}{h:Int}{x:Str}{p:Int×List Int}(hx:x∈w.passes.map (·.1))(hp:s.passes[g5 (w.passes.map (·.1)) x]?=some p)(b1:w.passes.length<=100)(b2:s.passes.length<=100)(b3:p.2.length<=900)
  (q:Q (.d ({s with passes:=s.passes.set (g5 (w.passes.map (·.1)) x) (ip p h)}:bK).d) S):Fn pj [w.d,s.d,.int h,(Rw.take x).d] S Q:=by
 refine cg ?_
 unfold zj
 symm
 apply av (d:=.str x) rfl ?_
 have q2:Op (settle S ({s with passes:=s.passes.set (g5 (w.passes.map (·.1)) x) (ip p h)}:bK).d S) fun p=>Q p.1 p.2:=cU (bc _) (bK.low _) q
 exact y8 hx hp b1 b2 b3 q2
def B2{w:dD}{s:bK}{hd:D}{x:Str}{p:Int×List Int}(hx:x∈w.passes.map (·.1))(hp:s.passes[g5 (w.passes.map (·.1)) x]?=some p)(b1:w.passes.length<=100)(b2:s.passes.length<=100)
  (q:Q (.d ({s with passes:=s.passes.set (g5 (w.passes.map (·.1)) x) (gC p)}:bK).d) S):Fn oE [w.d,s.d,hd,(Rw.give x).d] S Q:=by
 refine cg ?_
 unfold AM
 symm
 apply av (d:=.str x) rfl ?_
 have q2:Op (settle S ({s with passes:=s.passes.set (g5 (w.passes.map (·.1)) x) (gC p)}:bK).d S) fun p=>Q p.1 p.2:=cU (bc _) (bK.low _) q
 exact mS hx hp b1 b2 q2
end
section
variable{S:aH}{Q:Res->aH->Prop}
def BM(w:dD)(s:bK)(h:Nat)(t:Tr)(v:Int):Prop:=∀(S:aH) (Q:Res->aH->Prop),Q (.d (.int v)) S->Fn eg [w.d,s.d,.int h,t.d] S Q
def Puts(w:dD)(s:bK)(h:Nat)(x:Str)(v:Int)(s':bK):Prop:=∀(S:aH) (Q:Res->aH->Prop),Q (.d s'.d) S->Fn f_ [w.d,s.d,.int h,.str x,.int v] S Q
def Bt{w:dD}{s:bK}{h:Int}{x y:Str}{p p2:Int×List Int}(hx:x∈w.passes.map (·.1))(hy:y∈w.passes.map (·.1))(hp:s.passes[g5 (w.passes.map (·.1)) x]?=some p)(b1:w.passes.length<=100)(b2:s.passes.length<=100)(b3:p2.2.length<=900)
  (hp2:(s.passes.set (g5 (w.passes.map (·.1)) x) (gC p))[g5 (w.passes.map (·.1)) y]?=some p2)
  (q:Q (.d ({s with passes:=(s.passes.set (g5 (w.passes.map (·.1)) x) (gC p)).set (g5 (w.passes.map (·.1)) y) (ip p2 h)}:bK).d) S):Fn oW [w.d,s.d,.int h,(Rw.pass x y).d] S Q:=by
 refine cg ?_
 unfold yW
 symm
 apply av (d:=.str x) rfl ?_
 apply mS hx hp b1 b2 ?_
 apply av (d:=.str y) rfl ?_
 have q2:Op (settle S ({s with passes:=(s.passes.set (g5 (w.passes.map (·.1)) x) (gC p)).set (g5 (w.passes.map (·.1)) y) (ip p2 h)}:bK).d S) fun p=>Q p.1 p.2:=cU (bc _) (bK.low _) q
 exact y8 (s:={s with passes:=s.passes.set (g5 (w.passes.map (·.1)) x) (gC p)}) hy hp2 b1 (by simpa using b2) b3 q2
def Dg{w:dD}{s s':bK}{h:Nat}{x:Str}{t:Tr}{v:Int}(hr:BM w s h t v)(hp:Puts w s h x v s')(q:Q (.d s'.d) S):Fn r8 [w.d,s.d,.int h,(Rw.put x t).d] S Q:=by
 refine cg ?_
 unfold Cw
 symm
 apply av (d:=.str x) rfl ?_
 apply av (d:=t.d) rfl ?_
 apply hr _ _ ?_
 refine hp _ _ ?_
 exact cU (bc _) (bK.low _) q
def xE{w:dD}{s:bK}{h n:Nat}{t:Tr}{v:Int}{vs:List Int}{fs:List cG}{f:cG}(hr:BM w s h t v)(h1:s.af[h]?=some (vs,fs))(h2:fs.getLast? =some f)(lf:fs.length<=900)(hl:s.af.length<=900)
  (q:Q (.d (if v=0 then({s with af:=s.af.set h (vs,fs.dropLast++ [{f with row:=n}])}:bK) else s).d) S):Fn kq [w.d,s.d,.int h,(Rw.unl t n).d] S Q:=by
 refine cg ?_
 unfold ud
 symm
 apply av (d:=t.d) rfl ?_
 apply hr _ _ ?_
 refine er ?_
 dsimp only
 by_cases c:v=0
 ·rw[Qhq c] at q
  rw[Qeq c,Qhq rfl]
  symm
  apply av (d:=.int n) rfl ?_
  have q2:Op (settle S ({s with af:=s.af.set h (vs,fs.dropLast++ [{f with row:=n}])}:bK).d S) fun p=>Q p.1 p.2:=cU (bc _) (bK.low _) q
  exact pU h1 h2 lf hl q2
 ·rw[Quq c] at q
  rw[Qdq c,Quq (by decide)]
  apply cu ?_
  exact cU (bc _) (bK.low _) q
end
section
variable{S:aH}{Q:Res->aH->Prop}
def Bc{w:dD}{s:bK}{h:Nat}{t:Tr}{v:Int}{vs:List Int}{fs:List cG}{f:cG}(hr:BM w s h t v)(h1:s.af[h]?=some (vs,fs))(h2:fs.getLast? =some f)(lf:fs.length<=900)(hl:s.af.length<=900)
  (q:Q (.d ({s with af:=s.af.set h (vs,fs.dropLast++ [{f with told:=v}])}:bK).d) S):Fn oG [w.d,s.d,.int h,(Rw.tell t).d] S Q:=by
 refine cg ?_
 unfold yV
 symm
 apply av (d:=t.d) rfl ?_
 apply hr _ _ ?_
 apply jH ?_
 refine b_ h1 h2 ?_
 apply cY (cZ ?_)
 apply⟨_,rfl,_,rfl,?_⟩
 refine⟨by show 1<=_;decide,?_⟩
 refine et (by show 5<=_;decide) ?_
 symm
 have h0:0<fs.length:=by
  cases fs with
  |nil=>cases h2
  |cons a b=>simp
 have q2:Op (settle S ({s with af:=s.af.set h (vs,fs.dropLast++ [{f with told:=v}])}:bK).d S) fun p=>Q p.1 p.2:=cU (bc _) (bK.low _) q
 exact iR (f:={f with told:=v}) h1 h0 lf hl q2
def Di{w:dD}{s:bK}{h i:Nat}{vs:List Int}{fs:List cG}{f:cG}{r:Rm}{rs:dt}{x:Str}(hs:s.af[h]?=some (vs,fs))(hf:fs.getLast? =some f)(hr:f.room=i)(hw:w.rooms[i]?=some r)(hsr:s.rooms[i]?=some rs)(b2:r.aa.length<=100)(l2:r.aa.length=rs.aa.length)(b3:s.rooms.length<=100)(hx:x∈r.aa.map (·.1))
  (q:Q (.d ({s with rooms:=s.rooms.set i {rs with aa:=rs.aa.set (g5 (r.aa.map (·.1)) x) []}}:bK).d) S):Fn rY [w.d,s.d,.int h,(Rw.all x).d] S Q:=by
 have hp:=(kR hx).1
 rw[lQm] at hp
 refine cg ?_
 unfold C7
 symm
 apply av (d:=.str x) rfl ?_
 refine nP hs hf hr hw b2 hx ?_
 refine eK rfl (ax (a_ (ax (a_ (bu ?_)))))
 generalize g5 (r.aa.map (·.1)) x=b at hp q⊢
 symm
 apply⟨by decide,?_⟩
 have q2:Op (settle S ({s with rooms:=s.rooms.set i {rs with aa:=rs.aa.set b []}}:bK).d S) fun p=>Q p.1 p.2:=cU (bc _) (bK.low _) q
 exact kf (l:= []) hsr (by omega) (by omega) b3 q2
end
section
variable{S:aH}{Q:Res->aH->Prop}
def Ko:∀a:Rm,∃r,a.d=.tup (.str a.name::r):=fun a=>⟨_,rfl⟩
def FG:∀a:Str×List Rw,∃r,j3 a=.tup (.str a.1::r):=fun a=>⟨_,rfl⟩
def EG{w:dD}{s:bK}{h:Nat}{g:Option Str}{rn dn:Str}{t:Tr}{v:Int}{vs:List Int}{fs:List cG}{r:Rm}{rs:dt}(hr:BM w s h t v)(hs:s.af[h]?=some (vs,fs))(hrn:rn∈w.rooms.map (·.name))(hw:w.rooms[g5 (w.rooms.map (·.name)) rn]?=some r)(hsr:s.rooms[g5 (w.rooms.map (·.name)) rn]?=some rs)(hdn:dn∈r.ae.map (·.1))
  (b1:w.rooms.length<=100) (b2:r.ae.length<=100) (b3:s.rooms.length<=100) (b4:rs.row.length<=900) (b5:fs.length<=900) (b6:s.af.length<=100)
  (q:Q (.d ({s with af:=s.af.set h (vs,fs++ [⟨(g5 (w.rooms.map (·.name)) rn:Nat),(g5 (r.ae.map (·.1)) dn:Nat),0,v,0⟩]),rooms:=s.rooms.set (g5 (w.rooms.map (·.name)) rn) (jv rs h)}:bK).d) S):Fn xk [w.d,s.d,.int h,(Rw.do_ g rn dn t).d] S Q:=by
 refine cg ?_
 unfold Fi
 symm
 apply av rfl ?_
 apply av (d:=.str rn) rfl ?_
 refine jS (enc:=Rm.d) (nm:=(·.name)) Ko (by omega) hrn ?_
 generalize g5 (w.rooms.map (·.name)) rn=i at hw hsr q⊢
 symm
 apply av rfl ?_
 refine av (d:=r.d) (a8 (by rw[gQm,hw];rfl)) ?_
 symm
 apply av rfl ?_
 apply av (d:=.str dn) rfl ?_
 refine jS (enc:=j3) (nm:=(·.1)) FG (by omega) hdn ?_
 generalize g5 (r.ae.map (·.1)) dn=dd at q⊢
 symm
 apply av (d:=t.d) rfl ?_
 apply hr _ _ ?_
 refine⟨by show 5<=_;decide,?_⟩
 symm
 apply av rfl ?_
 refine av (d:=AR (vs,fs)) (a8 (by rw[gQm,hs];rfl)) ?_
 apply eK rfl (ax (a_ (ax (a_ (bu ?_)))))
 refine⟨by show 1<=_;decide,?_⟩
 refine et (by simp only[lQm,Qnq,QGq];exact nQl (bD (by omega))) ?_
 symm
 have e:fs.map cG.d++ [D.tup [.int i,.int dd,.int 0,.int v,.int 0]]=(fs++ [(⟨i,dd,0,v,0⟩:cG)]).map cG.d:=by rw[Qzq];rfl
 rw[e]
 generalize hnf:fs++ [(⟨i,dd,0,v,0⟩:cG)]=nf at q⊢
 have hh:h<s.af.length:=(gQs.mp hs).1
 apply iy (vs:=vs) (fs:=nf) hh (by omega) ?_
 have q2:Op (settle S ({s with af:=s.af.set h (vs,nf),rooms:=s.rooms.set i (jv rs h)}:bK).d S) fun p=>Q p.1 p.2:=cU (bc _) (bK.low _) q
 exact tU (s:={s with af:=s.af.set h (vs,nf)}) hsr (by show s.rooms.length<=900;omega) b4 q2
end
section
variable{S:aH}{Q:Res->aH->Prop}
noncomputable def tT(free:Bool)(rs:dt)(b:Nat)(h:Int):dt:=match rs.aa[b]? with
 |some (p::l)=>if free then{rs with aa:=rs.aa.set b l} else{rs with aa:=rs.aa.set b l,within:=p.2,ag:=rs.ag++ [h]}
 |_=>rs
def Bi{w:dD}{s:bK}{h i:Nat}{vs:List Int}{fs:List cG}{f:cG}{r:Rm}{rs:dt}{x:Str}(hs:s.af[h]?=some (vs,fs))(hf:fs.getLast? =some f)(hr:f.room=i)(hw:w.rooms[i]?=some r)(hsr:s.rooms[i]?=some rs)(b2:r.aa.length<=100)(l2:r.aa.length=rs.aa.length)(b3:s.rooms.length<=100)(b4:rs.ag.length<=900)(hx:x∈r.aa.map (·.1))
  (q:Q (.d ({s with rooms:=s.rooms.set i (tT (decide (r.ah="when free")) rs (g5 (r.aa.map (·.1)) x) h)}:bK).d) S):Fn oZ [w.d,s.d,.int h,(Rw.call x).d] S Q:=by
 have hp:=(kR hx).1
 rw[lQm] at hp
 have hi:i<s.rooms.length:=(gQs.mp hsr).1
 refine cg ?_
 unfold zo
 symm
 apply av (d:=.str x) rfl ?_
 refine nP hs hf hr hw b2 hx ?_
 refine eK rfl (ax (a_ (ax (a_ (bu ?_)))))
 generalize g5 (r.aa.map (·.1)) x=b at hp q⊢
 have hb:b<rs.aa.length:=by omega
 obtain⟨line,hline⟩:∃l,rs.aa[b]?=some l:=⟨_,gQe hb⟩
 have q2:Op (settle S ({s with rooms:=s.rooms.set i (tT (decide (r.ah="when free")) rs b h)}:bK).d S) fun p=>Q p.1 p.2:=cU (bc _) (bK.low _) q
 unfold tT at q2
 rw[hline] at q2
 symm
 apply av rfl ?_
 refine av (d:=rs.d) (a8 (by rw[gQm,hsr];rfl)) ?_
 symm
 apply av rfl ?_
 refine av (d:=eC line) (a8 (by rw[gQm,hline];rfl)) ?_
 symm
 refine xm ?_
 cases line with
 | nil=>
   apply aV (fun _=> ?_) (fun c=>by cases c)
   have e:s.rooms.set i rs=s.rooms:=by
     apply List.ext_getElem?
     intro j
     rw[List.getElem?_set]
     split
     · rename_i c
       subst c
       rw[hsr]
       first|done|simp[hi]
     · rfl
   have e2:({s with rooms:=s.rooms.set i rs}:bK)=s:=by rw[e]
   have q3:Op (settle S ({s with rooms:=s.rooms.set i rs}:bK).d S) fun p=>Q p.1 p.2:=q2
   rw[e2] at q3
   exact q3
 | cons p l=>
   apply aV (fun c=>by cases c) (fun _=>cu ?_)
   apply jH ?_
   apply cZ ?_
   apply⟨_,rfl,cY ⟨_,rfl,?_⟩⟩
   have e:D.tup (jQ ((p::l).map pairD) (some 1) none)=eC l:=by
     rw[show(some (1:Int))=some ((1:Nat):Int) from rfl,ja (by simp)]
     rfl
   rw[e]
   refine kf hsr hb (by omega) b3 ?_
   dsimp only at q2
   generalize hnb:rs.aa.set b l=nb at q2⊢
   symm
   apply av rfl ?_
   refine av (d:=r.d) (a8 (by rw[gQm,hw];rfl)) ?_
   symm
   apply av (d:=.str r.ah) rfl ?_
   refine jq ?_
   dsimp only
   by_cases c:r.ah="when free"
   · rw[Qeq c] at q2⊢
     rw[Qhq rfl] at q2
     rw[Qhq rfl]
     symm
     exact q2
   · rw[Qdq c] at q2⊢
     rw[Quq (by decide)] at q2
     rw[Quq (by decide)]
     apply cu ?_
     refine av rfl ?_
     have g1:((s.rooms.set i {rs with aa:=nb}).map dt.d)[i]?=some ({rs with aa:=nb}:dt).d:=by rw[gQm,Qyq hi];rfl
     symm
     refine av (d:=({rs with aa:=nb}:dt).d) (a8 g1) ?_
     apply eK rfl (ax (a_ (ax (a_ (ax (a_ (ax (a_ (ax (a_ (bu ?_)))))))))))
     apply av (d:=pairD p) va ?_
     apply av (d:=.int p.2) rfl ?_
     refine⟨by show 1<=_;decide,?_⟩
     refine et (by simp only[lQm,Qnq,QGq];exact nQl (bD (by omega))) ?_
     symm
     refine⟨by show 5<=_;decide,?_⟩
     symm
     have e3:D.tup [cD rs.vals,.int p.2,cD rs.row,.tup (rs.ag.map D.int++ [.int h]),.tup (nb.map eC)]=({rs with aa:=nb,within:=p.2,ag:=rs.ag++ [(h:Int)]}:dt).d:=by simp[dt.d,cD]
     rw[e3]
     have q3:Op (settle S ({s with rooms:=(s.rooms.set i {rs with aa:=nb}).set i {rs with aa:=nb,within:=p.2,ag:=rs.ag++ [(h:Int)]}}:bK).d S) fun p=>Q p.1 p.2:=by rw[List.set_set];exact q2
     exact dP (s:={s with rooms:=s.rooms.set i {rs with aa:=nb}}) (by simpa using hi) (by simp;omega) q3
end
end W28
namespace DL
open PySem PySem.Spec L2
def pD{α:Type}{Γ:de}{S:aH}{js:List (Option Nat)}{i:yY}{g:om}{t:ko}{elt:bH}{Q:List D->aH->Prop}(P:de->Prop)(enc G:α->D)(c:α->Bool)(h0:P (nQ js Γ)) (h:E i Γ S fun p S1=>∃xs:List α,p.1=xs.map enc/\p.2 S1/\xs.length<=1000∧
   (∀x∈xs,∀Γ',P Γ'->Tg g (enc x) Γ' S1 fun Γ1 S2=>S2=S1/\P Γ1/\E t Γ1 S1 fun k S3=>S3=S1/\k=c x/\(c x=true->E elt Γ1 S1 fun y S4=>y=G x/\S4=S1))/\Q ((xs.filter c).map G) S1):E (bX js i g t elt) Γ S Q:=by
 refine lP (h.mono fun p S1 hp=> ?_)
 obtain⟨xs,hx,hs,hl,he,q⟩:=hp
 refine⟨fun n Γ' S' acc=>S'=S1/\acc=((xs.take n).filter c).map G/\P Γ',⟨rfl,rfl,h0⟩,fun n Γ' S' acc h=>by rw[h.1];exact hs,fun n d Γ' S' acc hd h=> ?_,fun Γ' S' acc h=> ?_⟩
 ·obtain⟨rfl,rfl,h3⟩:=h
  have hd:p.1[n]?=some d:=hd
  rw[hx,gQm] at hd
  obtain⟨x,hxn,rfl⟩:=oQm.mp hd
  obtain⟨Γ1,S2,e1,rfl,h4,h5⟩:=he x (mQg hxn) Γ' h3
  refine⟨Γ1,S2,e1,?_⟩
  refine h5.mono fun k S3 qr=> ?_
  obtain⟨e2,e3,h6⟩:=qr
  subst e2 e3
  have hn:=(gQs.mp hxn).1
  have tk:((xs.take (n+1)).filter c).map G=((xs.take n).filter c).map G++if c x=true then [G x] else []:=by
   rw[QYq,hxn]
   cases hc:c x <;>simp[hc]
  by_cases hc:c x=true
  ·rw[Qhq hc]
   refine(h6 hc).mono fun y S4 qr=> ?_
   obtain⟨e4,e5⟩:=qr
   subst e4 e5
   refine⟨?_,rfl,?_,h4⟩
   ·rw[lQm]
    have:=List.length_filter_le c (xs.take n)
    rw[Qxq] at this
    exact bD (by omega)
   ·rw[tk,Qhq hc]
  ·rw[Quq hc]
   refine⟨rfl,?_,h4⟩
   rw[tk,Quq hc,List.append_nil]
 ·obtain⟨rfl,rfl,_⟩:=h
  have e:p.1.length=xs.length:=by rw[hx,lQm]
  show Q (((xs.take p.1.length).filter c).map G) _
  rw[e,QEq]
  exact q
end DL
namespace W28
open PySem PySem.Spec L2 DL
section
variable{S:aH}{Q:Res->aH->Prop}
noncomputable def nq(l:List (Int×Int))(t h:Int):List (Int×Int):=l.take (l.filter fun p=>decide (p.1<=t)).length++ [(t,h)]++l.drop (l.filter fun p=>decide (p.1<=t)).length
def AX{w:dD}{s:bK}{h i:Nat}{vs:List Int}{fs:List cG}{f:cG}{r:Rm}{rs:dt}{x so:Str}{t:Tr}{v:Int}{line:List (Int×Int)}(hs:s.af[h]?=some (vs,fs))(hf:fs.getLast? =some f)(hr:f.room=i)(hw:w.rooms[i]?=some r)(hsr:s.rooms[i]?=some rs)(b2:r.aa.length<=100)(l2:r.aa.length=rs.aa.length)(b3:s.rooms.length<=100)(hx:x∈r.aa.map (·.1))
  (hso:r.aa[g5 (r.aa.map (·.1)) x]?=some (x,so)) (hline:rs.aa[g5 (r.aa.map (·.1)) x]?=some line) (b4:line.length<=900) (hre:BM w s h t v)
  (q:Q (.d ({s with rooms:=s.rooms.set i (c8 {rs with aa:=rs.aa.set (g5 (r.aa.map (·.1)) x) (nq line (if so="turns" then v else 0) h)})}:bK).d) S):Fn oS [w.d,s.d,.int h,(Rw.wait x t).d] S Q:=by
 have hp:=(kR hx).1
 rw[lQm] at hp
 have hi:i<s.rooms.length:=(gQs.mp hsr).1
 refine cg ?_
 unfold AB
 symm
 apply av (d:=.str x) rfl ?_
 refine nP hs hf hr hw b2 hx ?_
 refine eK rfl (ax (a_ (ax (a_ (bu ?_)))))
 generalize g5 (r.aa.map (·.1)) x=b at hp q hso hline⊢
 have hb:b<rs.aa.length:=by omega
 symm
 apply av rfl ?_
 refine av (d:=r.d) (a8 (by rw[gQm,hw];rfl)) ?_
 symm
 apply av rfl ?_
 refine av (d:=Ey (x,so)) (a8 (by rw[gQm,hso];rfl)) ?_
 symm
 apply av (d:=.str so) rfl ?_
 refine jq ?_
 dsimp only
 have key:∀tv:Int,tv=(if so="turns" then v else 0)->T (aG (bj 7 (aC aQ (aC aQ (aC aQ (aC aQ (ak 1) (cF (.int 0))) (ak 4)) (cF (.int 4))) (ak 5)))
   (aG (bj 8 (ie (gA (bX [none,none,some 6] (i0 (aX (ak 7))) (iA (nG 2 (aJ (bQ 0) (aJ (bQ 1) dr)))) (aK (aC Ed (ak 0) (ak 2))) (ak 0)))))
   (aG (bj 9 (ay fY (aj (ak 1) (aj (ak 4) (aj (ak 5) (aj (aC cM (aC cM (qF (ak 7) rH (qJ (ak 8))) (bg (aj (bg (aj (ak 6) (aj (ak 2) au))) au))) (qF (ak 7) (qJ (ak 8)) rH)) au))))))
   (cA (ay p9 (aj (ak 9) (aj (ak 4) au)))))))
   [some w.d,some s.d,some (.int h),some (Rw.wait x t).d,some (.int i),some (.int b),some (.int tv),none,none,none] S (fun o=>match o with
   |.nx _ S'=>Op (settle S .non S') fun p=>Q p.1 p.2|.rt d S'=>Op (settle S d S') fun p=>Q p.1 p.2|.rl l S'=>Op (dF S l S') fun p=>Q p.1 p.2|_=>False):=by
  intro tv htv
  rw[←htv] at q
  symm
  apply av rfl ?_
  refine av (d:=rs.d) (a8 (by rw[gQm,hsr];rfl)) ?_
  symm
  apply av rfl ?_
  refine av (d:=eC line) (a8 (by rw[gQm,hline];rfl)) ?_
  symm
  apply pD (α:=Int×Int) (fun Γ'=>∃a b,Γ'= [a,b,some (.int tv)]) pairD (fun p=>.int p.1) (fun p=>decide (p.1<=tv)) ⟨none,none,rfl⟩ ?_
  refine bS (ds:=line.map pairD) ?_
  refine⟨line,rfl,trivial,by omega,fun p hp Γ' hΓ=> ?_,?_⟩
  ·obtain⟨a,b,rfl⟩:=hΓ
   refine eK rfl (ax (a_ (ax (a_ (bu ?_)))))
   apply⟨rfl,⟨_,_,rfl⟩,?_⟩
   apply⟨rfl,rfl,fun _=> ?_⟩
   exact⟨rfl,rfl⟩
  have el:((line.filter fun p=>decide (p.1<=tv)).map fun p=>D.int p.1).length=(line.filter fun p=>decide (p.1<=tv)).length:=lQm ..
  have ln:=List.length_filter_le (fun p=>decide (p.1<=tv)) line
  unfold nq at q
  symm
  rw[el]
  generalize (line.filter fun p=>decide (p.1<=tv)).length=n at q ln⊢
  apply jH ?_
  apply cY (cZ ?_)
  refine⟨_,rfl,line.map pairD,rfl,?_⟩
  rw[EO (by rw[lQm];exact ln)]
  symm
  refine⟨by show 2<=_;decide,?_⟩
  symm
  refine⟨by show 1<=_;decide,?_⟩
  refine et (by simp only[lQm,Qxq,Qnq,QGq];exact nQl (bD (by omega))) ?_
  apply jH ?_
  apply cZ ?_
  refine⟨_,rfl,cY ⟨line.map pairD,rfl,?_⟩⟩
  rw[ja (by rw[lQm];exact ln)]
  refine et (by simp only[lQa,lQm,Qxq,List.length_drop,Qnq,QGq];exact nQl (bD (by omega))) ?_
  symm
  have e:D.tup ((line.map pairD).take n++ [D.tup [.int tv,.int h]]++(line.map pairD).drop n)=eC (line.take n++ [(tv,(h:Int))]++line.drop n):=by
   simp only[eC,Qzq,List.map_take,List.map_drop]
   rfl
  rw[e]
  generalize line.take n++ [(tv,(h:Int))]++line.drop n=nl at q⊢
  apply kf hsr hb (by omega) b3 ?_
  have q2:Op (settle S ({s with rooms:=s.rooms.set i (c8 {rs with aa:=rs.aa.set b nl})}:bK).d S) fun p=>Q p.1 p.2:=cU (bc _) (bK.low _) q
  generalize hnr:({rs with aa:=rs.aa.set b nl}:dt)=nr at q2⊢
  have q3:Op (settle S ({s with rooms:=(s.rooms.set i nr).set i (c8 nr)}:bK).d S) fun p=>Q p.1 p.2:=by rw[List.set_set];exact q2
  exact Aq (s:={s with rooms:=s.rooms.set i nr}) (Qyq hi) (by simp;omega) q3
 by_cases c:so="turns"
 ·rw[Qeq c,Qhq rfl]
  symm
  apply av (d:=t.d) rfl ?_
  refine hre _ _ ?_
  exact key v (by rw[Qhq c])
 ·rw[Qdq c,Quq (by decide)]
  refine cu ?_
  exact key 0 (by rw[Quq c])
end
end W28
namespace DL
open PySem PySem.Spec L2
section
variable{Γ:de}{S:aH}
def MZ{tbl:List (Str×Str)}{g:bH}{Q:D->aH->Prop}(h:E g Γ S fun y S1=>∃x nm,y=.str x/\tbl.lookup x=some nm/\Q (.fn nm) S1):E (Mj tbl g) Γ S Q:=by
 obtain⟨y,S1,e1,x,nm,rfl,e2,q⟩:=h
 exact⟨_,S1,by unfold Mj;rw[e1];simp only[Qbq];rw[e2];rfl,q⟩
def HB{i:Nat}{T:List (Str×dU)}{g:h_}{x:Str}{F:dU}{Q:D->aH->Prop}(h1:Γ[i]?=some (some (.fn x)))(h2:T.lookup x=some F)(h:E (ay F g) Γ S Q):E (uv i T g) Γ S Q:=by
 obtain⟨y,S1,e1,q⟩:=h
 exact⟨_,S1,by unfold uv;rw[h1];show(T.lookup x).bind _=_;rw[h2];exact e1,q⟩
def IG{neg:Bool}{x:D}{Q:D->Prop}(q:Q (.bl (if neg then !isNone x else isNone x))):Op (AY neg S x .non) Q:=⟨_,rfl,q⟩
end
def vG{α:Type}{xs:List α}{a b:α}:k8 (xs++ [a,b]) (-2)=some a:=by
 unfold k8 Ek
 rw[Quq (by omega),Qhq (by simp;omega)]
 simp only[Qbq]
 rw[show((-2:Int)+((xs++ [a,b]).length:Int)).toNat=xs.length by simp;omega]
 simp
end DL
namespace W28
open PySem PySem.Spec L2 DL
section
variable{S:aH}{Q:Res->aH->Prop}
def Nw:Rw->dU
 |.put _ _=>r8
 |.unl _ _=>kq
 |.go _=>yt
 |.do_ _ _ _ _=>xk
 |.wait _ _=>oS
 |.call _=>oZ
 |.all _=>rY
 |.tell _=>oG
 |.take _=>pj
 |.give _=>oE
 |.pass _ _=>oW
 |.say _=>sA
noncomputable def Rw.kind:Rw->Str
 |.put _ _=>"put"
 |.unl _ _=>"unless"
 |.go _=>"go"
 |.do_ _ _ _ _=>"do"
 |.wait _ _=>"wait"
 |.call _=>"call"
 |.all _=>"all"
 |.tell _=>"tell"
 |.take _=>"take"
 |.give _=>"give"
 |.pass _ _=>"pass"
 |.say _=>"say"
def Rw.d_kind(r:Rw):∃l,r.d=.tup (.str r.kind::l):=by cases r <;>exact⟨_,rfl⟩
def Ie(r:Rw):∃nm,mE.lookup r.kind=some nm/\ui.lookup nm=some (Nw r):=by
 cases r
 ·exact⟨"by_put",rfl,rfl⟩
 ·exact⟨"by_unless",rfl,rfl⟩
 ·exact⟨"by_go",rfl,rfl⟩
 ·exact⟨"by_do",rfl,rfl⟩
 ·exact⟨"by_wait",rfl,rfl⟩
 ·exact⟨"by_call",rfl,rfl⟩
 ·exact⟨"by_all",rfl,rfl⟩
 ·exact⟨"by_tell",rfl,rfl⟩
 ·exact⟨"by_take",rfl,rfl⟩
 ·exact⟨"by_give",rfl,rfl⟩
 ·exact⟨"by_pass",rfl,rfl⟩
 ·exact⟨"by_say",rfl,rfl⟩
def Kz(w:dD)(s:bK)(h:Nat)(r:Rw)(s':bK):Prop:=∀(S:aH) (Q:Res->aH->Prop),Q (.d s'.d) S->Fn (Nw r) [w.d,s.d,.int h,r.d] S Q
def AJ{w:dD}{s s':bK}{h:Nat}{r:Rw}(hd:Kz w s h r s')(q:Q (.d s'.d) S):Fn j_ [w.d,s.d,.int h,r.d] S Q:=by
 obtain⟨nm,n1,n2⟩:=Ie r
 obtain⟨l,hl⟩:=r.d_kind
 refine cg ?_
 unfold vD
 apply bV (Cu (MZ ?_))
 rw[hl]
 refine av (d:=.str r.kind) va ?_
 rw[←hl]
 refine⟨_,nm,rfl,n1,?_⟩
 apply qE (HB (x:=nm) rfl n2 ?_)
 refine hd _ _ ?_
 exact cU (bc _) (bK.low _) q
def q_{w:dD}{s s':bK}{h i:Nat}{vs:List Int}{gs:List cG}{f2 f:cG}{rs:dt}{pr:List Rw}{g:Option Str}{rn dn:Str}{t:Tr}(hs:s.af[h]?=some (vs,gs++ [f2,f]))(hr:f.room=i)(hsr:s.rooms[i]?=some rs)(b3:s.rooms.length<=900)(b4:s.af.length<=900)
  (hp:progOf w h f2=some pr) (h1:1<=f2.row) (hrow:pr[(f2.row-1).toNat]?=some (.do_ g rn dn t))
  (hg:∀outside:bK,outside={s with rooms:=s.rooms.set i (c8 rs),af:=s.af.set h (vs,gs++ [f2])}->match g with|none=>s'=outside|some x=>Puts w outside h x f.told s')
  (q:Q (.d s'.d) S):Fn jY [w.d,s.d,.int h] S Q:=by
 have hh:h<s.af.length:=(gQs.mp hs).1
 refine cg ?_
 unfold vB
 symm
 apply av rfl ?_
 refine av (d:=AR (vs,gs++ [f2,f])) (a8 (by rw[gQm,hs];rfl)) ?_
 refine eK rfl (ax (a_ (ax (a_ (bu ?_)))))
 have hml:(gs++ [f2,f]).map cG.d=gs.map cG.d++ [f2.d,f.d]:=by simp
 dsimp only
 rw[hml]
 symm
 apply lR ?_
 refine⟨1,rfl,?_⟩
 refine av (d:=f.d) (oz (by simp)) ?_
 refine eK rfl (ax (a_ (ax (a_ (ax (a_ (ax (a_ (ax (a_ (bu ?_)))))))))))
 rw[hr]
 symm
 apply Aq hsr b3 ?_
 apply jH ?_
 apply cY (cZ (lR ?_))
 refine⟨1,rfl,_,rfl,_,rfl,?_⟩
 rw[zx (by simp)]
 have hdl:D.tup ((gs.map cG.d++ [f2.d,f.d]).dropLast)=.tup ((gs++ [f2]).map cG.d):=by
  rw[show gs.map cG.d++ [f2.d,f.d]=(gs.map cG.d++ [f2.d])++ [f.d] by simp,List.dropLast_concat]
  simp
 rw[hdl]
 symm
 refine iy (s:={s with rooms:=s.rooms.set i (c8 rs)}) hh b4 ?_
 have hg:=hg _ rfl
 dsimp only at hg⊢
 generalize ({s with rooms:=s.rooms.set i (c8 rs),af:=s.af.set h (vs,gs++ [f2])}:bK)=outside at hg⊢
 symm
 apply lR ?_
 refine⟨2,rfl,?_⟩
 apply av (d:=f2.d) vG ?_
 apply fQ hp ?_
 apply lR ?_
 refine⟨2,rfl,?_⟩
 apply av (d:=f2.d) vG ?_
 apply av (d:=.int f2.row) rfl ?_
 refine av (d:=(Rw.do_ g rn dn t).d) (mH (by omega) (by rw[gQm,hrow];rfl)) ?_
 symm
 apply av (d:=He g) rfl ?_
 refine IG ?_
 cases g with
 | none=>
   dsimp only at hg
   subst hg
   apply aV (fun _=> ?_) (fun c=>by cases c)
   exact cU (bc _) (bK.low _) q
 | some x=>
   apply aV (fun c=>by cases c) (fun _=>cu ?_)
   apply av (d:=.str x) rfl ?_
   refine hg _ _ ?_
   exact cU (bc _) (bK.low _) q
end
section
variable{S:aH}{Q:Res->aH->Prop}
def MC(h:Nat):Option Int->D
 |none=>.non
 |some v=>.tup [.int h,.int v]
def Hi(h:Nat)(e:Option Int):cp 0 (MC h e)=true:=by cases e <;>rfl
def Jf(s:bK)(h:Nat)(e:Option Int):D:=.tup [s.d,MC h e]
def sx(s:bK)(h:Nat)(e:Option Int):cp 0 (Jf s h e)=true:=by
 simp only[Jf,cp,cc,Hi,bK.low,Bool.and_true]
def wI(w:dD)(s:bK)(h:Nat)(s':bK)(e:Option Int):Prop:=∀(S:aH) (Q:Res->aH->Prop),Q (.d (Jf s' h e)) S->Fn oF [w.d,s.d,.int h] S Q
def Ee{w:dD}{s:bK}{h i:Nat}{vs:List Int}{fs:List cG}{f:cG}{rs:dt}(hs:s.af[h]?=some (vs,fs))(hf:fs.getLast? =some f)(hr:f.room=i)(hsr:s.rooms[i]?=some rs)(hn:rs.within≠h)(b3:s.rooms.length<=900)(b4:rs.row.length<=900):
  wI w s h {s with rooms:=s.rooms.set i (jv rs h)} none:=by
 intro S Q q
 refine cg ?_
 unfold oB
 symm
 apply b_ hs hf ?_
 apply av (d:=.int f.room) rfl ?_
 refine oM ?_
 dsimp only
 rw[Qdq (show¬f.room= -1 by omega),hr]
 show if (true=true) then _ else _
 rw[Qhq rfl]
 symm
 apply av rfl ?_
 refine av (d:=rs.d) (a8 (by rw[gQm,hsr];rfl)) ?_
 symm
 apply av (d:=.int rs.within) rfl ?_
 refine oM ?_
 dsimp only
 rw[Qdq hn]
 show if (true=true) then _ else _
 rw[Qhq rfl]
 symm
 apply tU hsr b3 b4 ?_
 refine⟨by show 2<=_;decide,?_⟩
 exact cU (d:=Jf _ h none) (fun k z=>(nomatch z)) (sx _ _ _) q
def Here(s:bK)(h:Nat)(f:cG):Prop:=f.room= -1\/∃(i:Nat) (rs:dt),f.room=i/\s.rooms[i]?=some rs/\rs.within=h
def vE{w:dD}{s:bK}{h:Nat}{f:cG}{a b c d:Option D}{Q:Bool->aH->Prop}(hh:Here s h f)(q:Q false S):E (gB (aK (aC (fm true) (ak 4) (cF (.int (-1))))) (aK (aC (fm true) (aC aQ (aC aQ (aC aQ (ak 1) (cF (.int 0))) (ak 4)) (cF (.int 1))) (ak 2)))) [some w.d,some s.d,some (.int h),some f.d,some (.int f.room),a,b,c] S Q:=by
 rcases hh with hr|⟨i,rs,hr,hsr,hi⟩
 ·symm
  refine oM ?_
  dsimp only
  rw[Qeq hr]
  show if (false=true) then _ else _
  rw[Quq (by decide)]
  exact q
 ·symm
  refine oM ?_
  dsimp only
  rw[Qdq (show¬f.room= -1 by omega),hr]
  show if (true=true) then _ else _
  rw[Qhq rfl]
  symm
  apply av rfl ?_
  refine av (d:=rs.d) (a8 (by rw[gQm,hsr];rfl)) ?_
  symm
  apply av (d:=.int rs.within) rfl ?_
  refine oM ?_
  dsimp only
  rw[Qeq hi]
  exact q
def zd{w:dD}{s s':bK}{h:Nat}{vs:List Int}{fs:List cG}{f:cG}{pr:List Rw}(hs:s.af[h]?=some (vs,fs))(hf:fs.getLast? =some f)(hh:Here s h f)(hp:progOf w h f=some pr)(hrow:f.row=pr.length)
  (he:∀(S:aH) (Q:Res->aH->Prop),Q (.d s'.d) S->Fn jY [w.d,s.d,.int h] S Q):wI w s h s' none:=by
 intro S Q q
 refine cg ?_
 unfold oB
 symm
 apply b_ hs hf ?_
 refine av (d:=.int f.room) rfl ?_
 refine bV (eY (vE (d:=none) hh ?_))
 apply aV (fun c=>by cases c) (fun _=>cu ?_)
 apply fQ hp ?_
 apply av (d:=.int f.row) rfl ?_
 refine er ?_
 dsimp only
 rw[lQm,Qeq hrow,Qhq rfl]
 symm
 apply he _ _ ?_
 refine⟨by show 2<=_;decide,?_⟩
 exact cU (d:=Jf _ h none) (fun k z=>(nomatch z)) (sx _ _ _) q
def JP(w:dD)(s:bK)(h:Nat)(r:Rw)(e:Option Int):Prop:=match r with
 |.say t=>∃v,e=some v/\BM w s h t v
 |_=>e=none
def E8{w:dD}{s s':bK}{h:Nat}{vs:List Int}{fs:List cG}{f:cG}{pr:List Rw}{r:Rw}{e:Option Int}(hs:s.af[h]?=some (vs,fs))(hf:fs.getLast? =some f)(hh:Here s h f)(hp:progOf w h f=some pr)(h0:0<=f.row)(hrow:pr[f.row.toNat]?=some r)(b1:fs.length<=900)(b2:s.af.length<=900)
  (hsay:JP w s h r e) (hd:Kz w {s with af:=s.af.set h (vs,fs.dropLast++ [{f with row:=f.row+1}])} h r s'):wI w s h s' e:=by
 intro S Q q
 have hlt:=(gQs.mp hrow).1
 refine cg ?_
 unfold oB
 symm
 apply b_ hs hf ?_
 refine av (d:=.int f.room) rfl ?_
 refine bV (eY (vE (d:=none) hh ?_))
 apply aV (fun c=>by cases c) (fun _=>cu ?_)
 apply fQ hp ?_
 apply av (d:=.int f.row) rfl ?_
 refine er ?_
 dsimp only
 rw[lQm,Qdq (show¬f.row=(pr.length:Int) by omega),Quq (by decide)]
 apply cu ?_
 refine av (d:=.int f.row) rfl ?_
 refine av (d:=r.d) (mH h0 (by rw[gQm,hrow];rfl)) ?_
 symm
 obtain⟨l,hl⟩:=r.d_kind
 have key:T (cA (bg (aj (ay j_ (aj (ak 0) (aj (ay kE (aj (ak 1) (aj (ak 2) (aj (aC cM (aC aQ (ak 3) (cF (.int 2))) (cF (.int 1))) au)))) (aj (ak 2) (aj (ak 6) au))))) (aj (ak 7) au))))
   [some w.d,some s.d,some (.int h),some f.d,some (.int f.room),some (.tup (pr.map Rw.d)),some r.d,some (MC h e)] S (fun o=>match o with
   |.nx _ S'=>Op (settle S .non S') fun p=>Q p.1 p.2|.rt d S'=>Op (settle S d S') fun p=>Q p.1 p.2|.rl l S'=>Op (dF S l S') fun p=>Q p.1 p.2|_=>False):=by
  symm
  apply av (d:=.int f.row) rfl ?_
  apply pU hs hf b1 b2 ?_
  apply AJ hd ?_
  refine⟨by show 2<=_;decide,?_⟩
  exact cU (d:=Jf _ h e) (fun k z=>(nomatch z)) (sx _ _ _) q
 cases r with
 | say t=>
   obtain⟨v,rfl,hv⟩:=hsay
   apply av (d:=.str "say") rfl ?_
   refine jq ?_
   dsimp only
   rw[Qeq rfl,Qhq rfl]
   symm
   apply av (d:=t.d) rfl ?_
   apply hv _ _ ?_
   refine⟨by show 2<=_;decide,?_⟩
   exact key
 | _=>
   have hsay:e=none:=hsay
   subst hsay
   apply av rfl ?_
   refine jq ?_
   dsimp only
   refine aV (fun c=>absurd (of_decide_eq_true c) (by decide +kernel)) (fun _=>cu ?_)
   exact key
end
end W28
namespace DL
open PySem PySem.Spec L2
section
variable{Γ:de}{S:aH}
def FZ{f:bH}{g:eF}{Q:D->aH->Prop}(h:E f Γ S fun x S1=>∃k ds0,x=.ref k/\S1[k]?=some (.lst ds0)/\E g Γ S1 fun p S2=>∃ds,S2[k]?=some (.lst ds)/\(p.2.isL=false/\ds.length+p.1.length<=sizeLine)/\Q .non (S2.set k (.lst (ds++p.1)))):E (v8 f g) Γ S Q:=by
 obtain⟨x,S1,e1,k,ds0,rfl,h1,p,S2,e2,ds,h2,h3,q⟩:=h
 exact⟨_,_,by unfold v8;rw[e1];simp only[Qbq,e2,h1,h2];rw[Qhq h3],q⟩
end
def B0{S S':aH}{k:Nat}{ds:List D}{Q:Res×aH->Prop}(hc:ou S S')(hk:S.length<=k)(hS:S'[k]?=some (.lst ds))(hl:cc S.length ds=true)(q:Q (.l ds,S'.take S.length)):Op (settle S (.ref k) S') Q:=by
 refine⟨_,?_,q⟩
 unfold settle
 rw[Qhq hc]
 show(if k<S.length then _ else _)=_
 rw[Quq (by omega),hS]
 show(if cc S.length ds=true then _ else _)=_
 rw[Qhq hl]
def jI{n:Nat}(h:n<=100000):n<=sizeLine:=QAq h (by decide)
theorem bZ:∀ss:List Int,ff (ss.map D.int)=some (ss.map V.int)
 | []=>rfl
 |s::ss=>by simp only[QDq,ff,sL,Qbq];rw[bZ ss];rfl
def jk{x:Int}{ss:List Int}:EI (.int x) (ss.map V.int)=decide (x∈ss):=by
 induction ss with
 |nil=>rfl
 | cons a ss ih=>
   show(jE (.int a) (.int x)||EI (.int x) (ss.map V.int))=_
   rw[ih]
   simp only[jE,Qsq]
   by_cases c:a=x
   · subst c;simp
   · have c':¬x=a:=fun z=>c z.symm
     simp[c,c']
end DL
namespace W28
open PySem PySem.Spec L2 DL
section
variable{S:aH}{Q:Res->aH->Prop}
def zI{S S':aH}(x:nE S S'):S'.take S.length=S:=by
 apply List.ext_getElem?
 intro j
 by_cases hj:j<S.length
 ·rw[List.getElem?_take_of_lt hj]
  exact x.eq j hj
 ·rw[List.getElem?_eq_none (by rw[Qxq];omega),List.getElem?_eq_none (by omega)]
def Kp{S S':aH}{ds:List D}{Q:Res->aH->Prop}(x:nE S S')(hl:cc 0 ds=true)(q:Q (.l ds) S):Op (dF S ds S') fun p=>Q p.1 p.2:=
 n_ ⟨x.len,fun k o hk e=>.inl (by rw[←x.eq k hk];exact e)⟩ (zI x) (j9 hl) q
def E7{S S':aH}{k:Nat}{ds:List D}{Q:Res->aH->Prop}(x:nE S S')(hk:S.length<=k)(hS:S'[k]?=some (.lst ds))(hl:cc 0 ds=true)(q:Q (.l ds) S):Op (settle S (.ref k) S') fun p=>Q p.1 p.2:=
 B0 ⟨x.len,fun k o hk e=>.inl (by rw[←x.eq k hk];exact e)⟩ hk hS (j9 hl) (by rw[zI x];exact q)
def qz{l:List (Int×Int)}(hl:l.length<=1000)(q:Q (.l ((l.map (·.2)).map D.int)) S):Fn jN [eC l] S Q:=by
 refine cg ?_
 unfold vq
 symm
 apply iP (α:=Int×Int) (fun Γ'=>∃a b,Γ'= [a,b]) pairD (fun p=>.int p.2) ⟨none,none,rfl⟩ ?_
 refine bS (ds:=l.map pairD) ?_
 refine⟨l,rfl,trivial,hl,fun p hp Γ' hΓ=> ?_,?_⟩
 ·obtain⟨a,b,rfl⟩:=hΓ
  refine eK rfl (ax (a_ (ax (a_ (bu ?_)))))
  apply⟨rfl,⟨_,_,rfl⟩,?_⟩
  exact⟨rfl,rfl⟩
 ·have e:l.map (fun p=>D.int p.2)=(l.map (·.2)).map D.int:=by rw[QPq];rfl
  rw[e]
  exact E_ (bp fun _ _=>rfl) q
def aY(r:dt):List Int:=r.row++r.ag++r.aa.flatMap fun l=>l.map (·.2)
def held(s:bK):List Int:=s.passes.flatMap (·.2)++s.rooms.flatMap aY
theorem i_{α β:Type}{f:α->List β}{n:Nat}:∀{l:List α},(∀a∈l,(f a).length<=n)->(l.flatMap f).length<=n*l.length
 | [],_=>by simp
 | a::l,h=>by
   have h1:=h a (QBq ..)
   have h2:=i_ (f:=f) (l:=l) fun b hb=>h b (Qpq _ hb)
   rw[QSq,lQa,Qnq,Nat.mul_add]
   omega
def fA{α β:Type}{f:α->List β}{l:List α}{n:Nat}{a:α}(h:l[n]?=some a):(l.take (n+1)).flatMap f=(l.take n).flatMap f++f a:=by
 rw[QYq,h]
 simp
def pT{s:bK}{n:Nat}(hn:n<=100)(b1:s.passes.length<=100)(b2:s.rooms.length<=20)(p1:∀p∈s.passes,p.2.length<=n)(r1:∀r∈s.rooms,r.row.length<=n/\r.ag.length<=n/\r.aa.length<=10/\∀l∈r.aa,l.length<=n)
  (q:Q (.l ((held s).map D.int)) S):Fn eX [s.d] S Q:=by
 have bw:∀acc:List D,nE S (S++ [.lst acc]):=fun acc=>nE.refl.app
 have hr:∀r∈s.rooms,∀j:Nat,((r.aa.take j).flatMap fun l=>l.map (·.2)).length<=1000:=fun r hr j=>by
  obtain⟨_,_,h3,h4⟩:=r1 r hr
  have h5:=i_ (f:=fun l:List (Int×Int)=>l.map (·.2)) (n:=n) (l:=r.aa.take j) fun l hl=>by rw[lQm];exact h4 l (List.mem_of_mem_take hl)
  have h6:(r.aa.take j).length<=10:=by rw[Qxq];omega
  have h7:n*(r.aa.take j).length<=100*10:=Nat.mul_le_mul hn h6
  omega
 have hrm:∀r∈s.rooms,(aY r).length<=1200:=fun r h=>by
  have h1:=hr r h r.aa.length
  obtain⟨h2,h3,_⟩:=r1 r h
  rw[QEq] at h1
  simp only[aY,lQa]
  omega
 have hpl:∀j:Nat,((s.passes.take j).flatMap (·.2)).length<=10000:=fun j=>by
  have h5:=i_ (f:=fun p:Int×List Int=>p.2) (n:=n) (l:=s.passes.take j) fun l hl=>p1 l (List.mem_of_mem_take hl)
  have h6:(s.passes.take j).length<=100:=by rw[Qxq];omega
  have h7:n*(s.passes.take j).length<=100*100:=Nat.mul_le_mul hn h6
  omega
 have hrl:∀j:Nat,((s.rooms.take j).flatMap aY).length<=24000:=fun j=>by
  have h5:=i_ (f:=aY) (n:=1200) (l:=s.rooms.take j) fun l hl=>hrm l (List.mem_of_mem_take hl)
  have h6:(s.rooms.take j).length<=20:=by rw[Qxq];omega
  omega
 refine cg ?_
 unfold lQ
 symm
 refine⟨by decide,?_⟩
 apply bV (hX (u5 ?_))
 refine av rfl ?_
 refine bS (ds:=s.passes.map vw) ?_
 refine⟨fun j Γ' S'=>(∃a b c d e f g,Γ'= [some s.d,some (.ref S.length),a,b,c,d,e,f,g])/\S'=S++ [.lst (((s.passes.take j).flatMap (·.2)).map D.int)],⟨⟨_,_,_,_,_,_,_,rfl⟩,rfl⟩,fun _ _ _ _=>trivial,?_,?_⟩
 ·rintro j d Γ' S' hd ⟨⟨a,b,c,d1,e,f,g,rfl⟩,rfl⟩
  have hd:(s.passes.map vw)[j]?=some d:=hd
  rw[gQm] at hd
  obtain⟨p,hp,rfl⟩:=oQm.mp hd
  refine eK rfl (ax (a_ (ax (a_ (bu ?_)))))
  apply jb (FZ ?_)
  apply⟨_,_,rfl,aP,?_⟩
  refine bS (ds:=p.2.map D.int) ?_
  refine⟨_,aP,⟨rfl,?_⟩,⟨_,_,_,_,_,_,_,rfl⟩,?_⟩
  ·have:=hpl j
   have:=p1 p (mQg hp)
   simp only[lQm]
   exact jI (by omega)
  ·rw[fA hp,Qzq]
   simp
 rintro Γ' S' ⟨⟨a,b,c,d1,e,f,g,rfl⟩,rfl⟩
 have hl:(s.passes.map vw).length=s.passes.length:=lQm ..
 rw[hl,QEq]
 apply bV (hX (u5 ?_))
 refine av rfl ?_
 refine bS (ds:=s.rooms.map dt.d) ?_
 refine⟨fun j Γ' S'=>(∃a b c d e f g,Γ'= [some s.d,some (.ref S.length),a,b,c,d,e,f,g])/\S'=S++ [.lst ((s.passes.flatMap (·.2)++(s.rooms.take j).flatMap aY).map D.int)],⟨⟨_,_,_,_,_,_,_,rfl⟩,by simp⟩,fun _ _ _ _=>trivial,?_,?_⟩
 ·rintro j d Γ' S' hd ⟨⟨a,b,c,d1,e,f,g,rfl⟩,rfl⟩
  have hd:(s.rooms.map dt.d)[j]?=some d:=hd
  rw[gQm] at hd
  obtain⟨r,hrj,rfl⟩:=oQm.mp hd
  have hrm':=mQg hrj
  obtain⟨h2,h3,h4,h5⟩:=r1 r hrm'
  have hlen:(s.passes.flatMap (·.2)++(s.rooms.take j).flatMap aY).length<=34000:=by
   have:=hpl s.passes.length
   rw[QEq] at this
   have:=hrl j
   rw[lQa]
   omega
  generalize hacc:s.passes.flatMap (·.2)++(s.rooms.take j).flatMap aY=acc at hlen⊢
  refine eK rfl (ax (a_ (ax (a_ (ax (a_ (ax (a_ (ax (a_ (bu ?_)))))))))))
  apply bV (jb (FZ ?_))
  apply⟨_,_,rfl,aP,?_⟩
  refine et (i:=r.row.map D.int) (j:=r.ag.map D.int) (by simp only[lQm];exact jI (by omega)) ?_
  refine bS ?_
  refine⟨_,aP,⟨rfl,?_⟩,?_⟩
  ·simp only[lQa,lQm]
   exact jI (by omega)
  dsimp only
  have e1:(S++ [O.lst (acc.map D.int)]).set S.length (.lst (acc.map D.int++(r.row.map D.int++r.ag.map D.int)))=S++ [.lst ((acc++(r.row++r.ag)).map D.int)]:=by simp
  rw[e1]
  apply hX (u5 ?_)
  refine⟨fun j Γ' S'=>(∃a b c d e f g,Γ'= [some s.d,some (.ref S.length),a,b,c,d,e,f,g])/\S'=S++ [.lst ((acc++(r.row++r.ag)++(r.aa.take j).flatMap fun l=>l.map (·.2)).map D.int)],⟨⟨_,_,_,_,_,_,_,rfl⟩,by simp⟩,fun _ _ _ _=>trivial,?_,?_⟩
  ·rintro m d Γ' S' hd ⟨⟨a,b,c,d1,e,f,g,rfl⟩,rfl⟩
   have hd:(r.aa.map eC)[m]?=some d:=hd
   rw[gQm] at hd
   obtain⟨l,hlm,rfl⟩:=oQm.mp hd
   have hll:=h5 l (mQg hlm)
   refine a_ ?_
   apply jb (wz ?_)
   apply⟨_,_,rfl,aP,?_⟩
   apply qz (by omega) ?_
   refine⟨_,aP,⟨rfl,?_⟩,⟨_,_,_,_,_,_,_,rfl⟩,?_⟩
   ·have:=hr r hrm' m
    simp only[lQa,lQm]
    exact jI (by omega)
   ·rw[fA hlm,←Qvq,Qzq]
    simp
  ·rintro Γ' S' ⟨h1,rfl⟩
   refine⟨h1,?_⟩
   have hl:(r.aa.map eC).length=r.aa.length:=lQm ..
   rw[hl,QEq,fA hrj]
   subst hacc
   simp only[aY,Qvq]
 ·rintro Γ' S' ⟨⟨a,b,c,d1,e,f,g,rfl⟩,rfl⟩
  have hl:(s.rooms.map dt.d).length=s.rooms.length:=lQm ..
  rw[hl,QEq]
  symm
  exact E7 (bw _) (Qmq _) aP (bp fun _ _=>rfl) q
end
section
variable{S:aH}{Q:Res->aH->Prop}
def Fz(s:bK)(h:Nat):Option cG:=(s.af[h]?).bind fun p=>p.2.getLast?
noncomputable def Af(w:dD)(s:bK)(h:Nat):Bool:=match Fz s h with
 |some f=>decide (f.room= -1)&&decide (f.row=(((progOf w h f).getD []).length:Int))
 |none=>false
def p5{w:dD}{s:bK}{h:Nat}{vs:List Int}{fs:List cG}{f:cG}{pr:List Rw}(hs:s.af[h]?=some (vs,fs))(hf:fs.getLast? =some f)(hp:progOf w h f=some pr)(q:Q (.d (.bl (Af w s h))) S):Fn gK [w.d,s.d,.int h] S Q:=by
 have hb:Af w s h=(decide (f.room= -1)&&decide (f.row=(pr.length:Int))):=by
  unfold Af Fz
  rw[hs]
  show(match fs.getLast? with|some f=>_|none=>_)=_
  rw[hf]
  simp only[hp,Option.getD_some]
 rw[hb] at q
 refine cg ?_
 unfold lK
 symm
 apply b_ hs hf ?_
 apply Bd ?_
 apply av (d:=.int f.room) rfl ?_
 refine er ?_
 refine⟨_,rfl,?_⟩
 by_cases c:f.room= -1
 ·rw[Qeq c] at q⊢
  rw[Qhq rfl]
  symm
  apply av (d:=.int f.row) rfl ?_
  apply fQ hp ?_
  refine er ?_
  rw[lQm]
  exact cU (fun k z=>(nomatch z)) rfl q
 ·rw[Qdq c] at q⊢
  rw[Quq (by decide)]
  exact cU (fun k z=>(nomatch z)) rfl q
def t_(w:dD)(s:bK):List Nat:=(List.range s.af.length).filter fun h=> !decide ((h:Int)∈held s)&& !Af w s h
def AN(h:Nat):D:=.int h
def JQ(w:dD)(s:bK):Prop:=∀(S:aH) (Q:Res->aH->Prop),Q (.l ((t_ w s).map AN)) S->Fn jX [w.d,s.d] S Q
def zB{w:dD}{s:bK}(hh:∀(S:aH) (Q:Res->aH->Prop),Q (.l ((held s).map D.int)) S->Fn eX [s.d] S Q)(hp:∀h<s.af.length,∃vs fs f pr,s.af[h]?=some (vs,fs)/\fs.getLast? =some f/\progOf w h f=some pr)(b1:s.af.length<=100):JQ w s:=by
 intro S Q q
 refine cg ?_
 unfold wj
 symm
 apply hh _ _ ?_
 apply pD (α:=Nat) (fun Γ'=>∃a,Γ'= [a,some w.d,some s.d,some (.ref S.length)]) (fun(i:Nat)=>D.int (0+(i:Int))) AN (fun h=> !decide ((h:Int)∈held s)&& !Af w s h) ⟨none,rfl⟩ ?_
 apply av rfl ?_
 refine⟨_,rfl,?_,?_⟩
 ·simp only[lQm]
  omega
 refine⟨List.range s.af.length,?_,trivial,by simp;omega,fun h hm Γ' hΓ=> ?_,?_⟩
 ·simp only[jR,lQm]
  rfl
 ·obtain⟨a,rfl⟩:=hΓ
  obtain⟨vs,fs,f,pr,h1,h2,h3⟩:=hp h (List.mem_range.mp hm)
  refine a_ ⟨rfl,⟨_,rfl⟩,?_⟩
  rw[Int.zero_add]
  apply uI (fJ (xA ?_))
  refine b9 (ds:=(held s).map D.int) aP ?_
  refine⟨_,_,rfl,bZ _,?_⟩
  rw[jk]
  by_cases c:(h:Int)∈held s
  ·rw[Qeq c]
   refine aV (fun c=>by cases c) (fun _=> ?_)
   exact⟨rfl,rfl,fun c=>by cases c⟩
  ·rw[Qdq c]
   apply aV (fun _=> ?_) (fun c=>by cases c)
   refine p5 h1 h2 h3 ?_
   dsimp only
   refine lu ?_
   apply⟨rfl,rfl,fun _=> ?_⟩
   exact⟨rfl,rfl⟩
 ·refine Kp (nE.refl.app) (bp fun _ _=>rfl) q
def BN{w:dD}{s s':bK}{h:Nat}{e:Option Int}(hm:JQ w s)(hh:h∈t_ w s)(hst:wI w s h s' e)(q:Q (.d (Jf s' h e)) S):Fn oQ [w.d,s.d,.int h] S Q:=by
 refine cg ?_
 unfold Ae
 apply bV (eY (fJ (xA ?_)))
 refine hm _ _ ?_
 dsimp only
 have e1:(t_ w s).map AN=((t_ w s).map fun h:Nat=>(h:Int)).map D.int:=by rw[QPq];rfl
 refine⟨_,_,rfl,by rw[e1];exact bZ _,?_⟩
 rw[jk,Qeq (Qkq.mpr ⟨h,hh,rfl⟩)]
 apply aV (fun c=>by cases c) (fun _=>cu ?_)
 refine hst _ _ ?_
 exact cU (fun k z=>(nomatch z)) (sx _ _ _) q
end
structure je(n:Nat)(r:Rm)(rs:dt):Prop where
 lv:r.things.length=rs.vals.length
 lb:r.aa.length=rs.aa.length
 vv:∀v∈rs.vals,0<=v/\v<=9
 br:rs.row.length<=n
 bl:rs.ag.length<=n
 bb:∀l∈rs.aa,l.length<=n
structure Fm(w:dD)(h:Nat)(f:cG):Prop where
 pr:∃pr,progOf w h f=some pr/\0<=f.row/\f.row<=pr.length
 gv:0<=f.given/\f.given<=9
 tv:0<=f.told/\f.told<=9
def MD(w:dD)(h:Nat)(f:cG):Prop:=∃pr g rn dn t,progOf w h f=some pr/\1<=f.row/\pr[(f.row-1).toNat]?=some (.do_ g rn dn t)
def jt:List cG->Prop
 | []=>False
 |f0::tl=>f0.room= -1/\∀f∈tl,f.room≠-1
structure jL(w:dD)(n h:Nat)(ts:List (Str×Nat))(vs:List Int)(fs:List cG):Prop where
 lv:ts.length=vs.length
 vv:∀v∈vs,0<=v/\v<=9
 lf:fs.length<=n
 fr:∀f∈fs,Fm w h f
 hd:jt fs
 ch:∀f∈fs.dropLast,MD w h f
structure cT(w:dD)(n:Nat)(s:bK):Prop where
 lr:w.rooms.length=s.rooms.length
 rm:∀(i:Nat) (r:Rm) (rs:dt),w.rooms[i]?=some r->s.rooms[i]?=some rs->je n r rs
 lp:w.passes.length=s.passes.length
 ps:∀p∈s.passes,p.2.length<=n
 ls:w.shared.length=s.shared.length
 sv:∀v∈s.shared,0<=v/\v<=9
 lh:w.af.length=s.af.length
 hd:∀(h:Nat) (ts:List (Str×Nat)) (pr:List Rw) (vs:List Int) (fs:List cG),w.af[h]?=some (ts,pr)->s.af[h]?=some (vs,fs)->jL w n h ts vs fs
def je.mono{n m:Nat}{r:Rm}{rs:dt}(h:je n r rs)(l:n<=m):je m r rs:=⟨h.lv,h.lb,h.vv,QAq h.br l,QAq h.bl l,fun x hx=>QAq (h.bb x hx) l⟩
def jL.mono{w:dD}{n m h:Nat}{ts:List (Str×Nat)}{vs:List Int}{fs:List cG}(x:jL w n h ts vs fs)(l:n<=m):jL w m h ts vs fs:=⟨x.lv,x.vv,QAq x.lf l,x.fr,x.hd,x.ch⟩
def cT.mono{w:dD}{n m:Nat}{s:bK}(x:cT w n s)(l:n<=m):cT w m s:=⟨x.lr,fun i r rs h1 h2=>(x.rm i r rs h1 h2).mono l,x.lp,fun p hp=>QAq (x.ps p hp) l,x.ls,x.sv,x.lh,fun h ts pr vs fs h1 h2=>(x.hd h ts pr vs fs h1 h2).mono l⟩
def get_set{α:Type}{l:List α}{i j:Nat}{a b:α}(h:(l.set i a)[j]?=some b):(j=i/\b=a)\/(j≠i/\l[j]?=some b):=by
 rw[List.getElem?_set] at h
 split at h
 ·rename_i c
  split at h
  ·cases h;exact .inl ⟨c.symm,rfl⟩
  ·cases h
 ·rename_i c
  exact .inr ⟨fun z=>c z.symm,h⟩
def cT.room{w:dD}{n i:Nat}{s:bK}{r:Rm}{nr:dt}(x:cT w n s)(hw:w.rooms[i]?=some r)(hr:je n r nr):cT w n {s with rooms:=s.rooms.set i nr} where
 lr:=by simpa using x.lr
 rm:=fun j r2 rs2 h1 h2=>by
  rcases get_set h2 with⟨rfl,rfl⟩|⟨_,h2⟩
  ·rw[hw] at h1;cases h1;exact hr
  ·exact x.rm j r2 rs2 h1 h2
 lp:=x.lp
 ps:=x.ps
 ls:=x.ls
 sv:=x.sv
 lh:=x.lh
 hd:=x.hd
def cT.pass{w:dD}{n i:Nat}{s:bK}{p:Int×List Int}(x:cT w n s)(hp:p.2.length<=n):cT w n {s with passes:=s.passes.set i p} where
 lr:=x.lr
 rm:=x.rm
 lp:=by simpa using x.lp
 ps:=fun q hq=>by
  rcases QTq hq with hq|rfl
  ·exact x.ps q hq
  ·exact hp
 ls:=x.ls
 sv:=x.sv
 lh:=x.lh
 hd:=x.hd
def cT.share{w:dD}{n:Nat}{s:bK}{vs:List Int}(x:cT w n s)(hl:vs.length=s.shared.length)(hv:∀v∈vs,0<=v/\v<=9):cT w n {s with shared:=vs}:=⟨x.lr,x.rm,x.lp,x.ps,by rw[x.ls,←hl],hv,x.lh,x.hd⟩
def cT.hand{w:dD}{n h:Nat}{s:bK}{ts:List (Str×Nat)}{pr:List Rw}{vs:List Int}{fs:List cG}(x:cT w n s)(hw:w.af[h]?=some (ts,pr))(hr:jL w n h ts vs fs):cT w n {s with af:=s.af.set h (vs,fs)} where
 lr:=x.lr
 rm:=x.rm
 lp:=x.lp
 ps:=x.ps
 ls:=x.ls
 sv:=x.sv
 lh:=by simpa using x.lh
 hd:=fun j ts2 pr2 vs2 fs2 h1 h2=>by
  rcases get_set h2 with⟨rfl,e⟩|⟨_,h2⟩
  ·rw[hw] at h1;cases h1;cases e;exact hr
  ·exact x.hd j ts2 pr2 vs2 fs2 h1 h2
def iX{α:Type}{l:List α}{a:α}(h:l.getLast? =some a):l=l.dropLast++ [a]:=by
 cases l with
 |nil=>cases h
 | cons x y=>
   have hn:x::y≠[]:=by simp
   rw[List.getLast?_eq_some_getLast hn] at h
   cases h
   exact(List.dropLast_concat_getLast hn).symm
def jt.last{fs:List cG}{f f':cG}:∀{ini:List cG},jt (ini++ [f])->f'.room=f.room->jt (ini++ [f'])
 | [],h,e=>⟨by rw[e];exact h.1,fun _ z=>by cases z⟩
 | a::l,h,e=>⟨h.1,fun x hx=>by
   rcases mQa.mp hx with hx|hx
   · exact h.2 x (mQa.mpr (.inl hx))
   · rw[Qfq.mp hx,e];exact h.2 f (mQa.mpr (.inr (Qfq.mpr rfl)))⟩
def jt.push{f':cG}:∀{fs:List cG},jt fs->f'.room≠-1->jt (fs++ [f'])
 | [],h,_=>h.elim
 | a::l,h,e=>⟨h.1,fun x hx=>by
   rcases mQa.mp hx with hx|hx
   · exact h.2 x hx
   · rw[Qfq.mp hx];exact e⟩
def jt.pop{f2 f:cG}:∀{gs:List cG},jt (gs++ [f2,f])->jt (gs++ [f2])
 | [],h=>⟨h.1,fun _ z=>by cases z⟩
 | a::l,h=>⟨h.1,fun x hx=>h.2 x (by
   rcases mQa.mp hx with hx|hx
   · exact mQa.mpr (.inl hx)
   · exact mQa.mpr (.inr (by rw[Qfq.mp hx];simp)))⟩
def jt.two{f:cG}:∀{ini:List cG},jt (ini++ [f])->f.room≠-1->∃gs f2,ini=gs++ [f2]
 | [],h,e=>absurd h.1 e
 |a::l,h,e=>⟨(a::l).dropLast,(a::l).getLast (by simp),(List.dropLast_concat_getLast (by simp)).symm⟩
section
variable{w:dD}{n h:Nat}{ts:List (Str×Nat)}{vs:List Int}{fs:List cG}{f f' f2:cG}
def jL.setLast(x:jL w n h ts vs fs)(hf:fs.getLast? =some f)(e:f'.room=f.room)(i:Fm w h f'):jL w n h ts vs (fs.dropLast++ [f']):=by
 have hs:=iX hf
 have hd:=x.hd
 rw[hs] at hd
 refine⟨x.lv,x.vv,?_,fun g hg=> ?_,jt.last (fs:=fs) hd e,fun g hg=> ?_⟩
 ·have:=congrArg List.length hs
  have:=x.lf
  simp only[lQa,Qnq,QGq] at *
  omega
 ·rcases mQa.mp hg with hg|hg
  ·exact x.fr g (List.dropLast_subset _ hg)
  ·rw[Qfq.mp hg];exact i
 ·rw[List.dropLast_concat] at hg
  exact x.ch g hg
def jL.push(x:jL w n h ts vs fs)(hf:fs.getLast? =some f)(d:MD w h f)(e:f'.room≠-1)(i:Fm w h f'):jL w (n+1) h ts vs (fs++ [f']):=by
 refine⟨x.lv,x.vv,?_,fun g hg=> ?_,x.hd.push e,fun g hg=> ?_⟩
 ·have:=x.lf
  simp only[lQa,Qnq,QGq]
  omega
 ·rcases mQa.mp hg with hg|hg
  ·exact x.fr g hg
  ·rw[Qfq.mp hg];exact i
 ·rw[List.dropLast_concat,iX hf] at hg
  rcases mQa.mp hg with hg|hg
  ·exact x.ch g hg
  ·rw[Qfq.mp hg];exact d
def jL.pop{gs:List cG}(x:jL w n h ts vs (gs++ [f2,f])):jL w n h ts vs (gs++ [f2])/\MD w h f2:=by
 have e:(gs++ [f2,f]).dropLast=gs++ [f2]:=by rw[show gs++ [f2,f]=(gs++ [f2])++ [f] by simp,List.dropLast_concat]
 have hd:=x.ch
 rw[e] at hd
 refine⟨⟨x.lv,x.vv,?_,fun g hg=>x.fr g ?_,x.hd.pop,fun g hg=>hd g ?_⟩,hd f2 (by simp)⟩
 ·have:=x.lf
  simp only[lQa,Qnq,QGq] at *
  omega
 ·rcases mQa.mp hg with hg|hg
  ·exact mQa.mpr (.inl hg)
  ·exact mQa.mpr (.inr (by rw[Qfq.mp hg];simp))
 ·rw[List.dropLast_concat] at hg
  exact mQa.mpr (.inl hg)
def jL.vals{nv:List Int}(x:jL w n h ts vs fs)(hl:nv.length=vs.length)(hv:∀v∈nv,0<=v/\v<=9):jL w n h ts nv fs:=⟨by rw[x.lv,hl],hv,x.lf,x.fr,x.hd,x.ch⟩
def jL.last(x:jL w n h ts vs fs):∃f,fs.getLast? =some f/\Fm w h f:=by
 have:=x.hd
 cases fs with
 |nil=>exact this.elim
 | cons a l=>
   refine⟨_,List.getLast?_eq_some_getLast (by simp),x.fr _ (List.getLast_mem (by simp))⟩
end
def ku{w:dD}{h:Nat}{f:cG}{pr:List Rw}(hp:progOf w h f=some pr):(f.room= -1/\∃ts,w.af[h]?=some (ts,pr))\/∃(i j:Nat) (r:Rm) (dn:Str),f.room=i/\f.deed=j/\w.rooms[i]?=some r/\r.ae[j]?=some (dn,pr):=by
 unfold progOf at hp
 split at hp
 ·rename_i c
  obtain⟨⟨ts,pr'⟩,h1,h2⟩:=oQm.mp hp
  cases h2
  exact .inl ⟨c,ts,h1⟩
 ·split at hp
  ·rename_i c
   obtain⟨r,h1,h2⟩:=aq hp
   obtain⟨⟨dn,pr'⟩,h3,h4⟩:=oQm.mp h2
   cases h4
   exact .inr ⟨f.room.toNat,f.deed.toNat,r,dn,by omega,by omega,h1,h3⟩
  ·cases hp
def D_{w:dD}{h i j:Nat}{f:cG}{r:Rm}{dn:Str}{pr:List Rw}(h1:f.room=i)(h2:f.deed=j)(h3:w.rooms[i]?=some r)(h4:r.ae[j]?=some (dn,pr)):progOf w h f=some pr:=by
 unfold progOf
 rw[Quq (by omega),Qhq ⟨by omega,by omega⟩,h1,h2]
 show(w.rooms[i]?).bind _=_
 rw[h3]
 show(r.ae[j]?).map _=_
 rw[h4]
 rfl
noncomputable def DW(w:dD)(h:Nat)(f:cG):Option Sc:=if f.room= -1 then(w.af[h]?).map fun p=>⟨true,p.1.map (·.1)++w.shared.map (·.1),p.1.map (·.1)++w.shared.map (·.1),[],a9 w.rooms,w.passes.map (·.1)⟩
 else(w.rooms[f.room.toNat]?).map fun r=>⟨false,r.things.map (·.1)++gE,r.things.map (·.1),r.aa.map (·.1),a9 w.rooms,[]⟩
def EF{w:dD}{h:Nat}{f:cG}{pr:List Rw}(o:fE w)(hp:progOf w h f=some pr):∃sc,DW w h f=some sc/\uK sc pr:=by
 unfold DW
 rcases ku hp with⟨c,ts,h1⟩|⟨i,j,r,dn,h1,h2,h3,h4⟩
 ·rw[Qhq c,h1]
  exact⟨_,rfl,(o.hd _ (mQg h1)).pr⟩
 ·rw[Quq (by omega),h1]
  refine⟨_,by rw[show((i:Int)).toNat=i by omega,h3];rfl,((o.rm _ (mQg h3)).pr _ (mQg h4)).1⟩
def DG{w:dD}(o:fE w):cT w 1 (cE w) where
 lr:=by simp[cE]
 rm:=fun i r rs h1 h2=>by
  simp only[cE,gQm,h1,Option.map_some,Option.some.injEq] at h2
  subst h2
  have hr:=o.rm r (mQg h1)
  refine⟨by simp[dC,gf],by simp[dC],fun v hv=> ?_,by simp[dC],by simp[dC],fun l hl=> ?_⟩
  ·simp only[dC,gf,Qkq] at hv
   obtain⟨p,hp,rfl⟩:=hv
   have:=hr.tv p hp
   omega
  ·simp only[dC,Qkq] at hl
   obtain⟨p,hp,rfl⟩:=hl
   simp
 lp:=by simp[cE]
 ps:=fun p hp=>by
  simp only[cE,Qkq] at hp
  obtain⟨p,hp,rfl⟩:=hp
  simp
 ls:=by simp[cE,gf]
 sv:=fun v hv=>by
  simp only[cE,gf,Qkq] at hv
  obtain⟨p,hp,rfl⟩:=hv
  have:=o.sv p hp
  omega
 lh:=by simp[cE]
 hd:=fun h ts pr vs fs h1 h2=>by
  simp only[cE,gQm,h1,Option.map_some,Option.some.injEq] at h2
  cases h2
  have hr:=o.hd _ (mQg h1)
  refine⟨by simp[gf],fun v hv=> ?_,by simp,fun f hf=> ?_,⟨rfl,fun _ z=>by cases z⟩,fun f hf=>by cases hf⟩
  ·simp only[gf,Qkq] at hv
   obtain⟨p,hp,rfl⟩:=hv
   have:=hr.tv p hp
   omega
  ·rw[Qfq.mp hf]
   refine⟨⟨pr,?_,by decide,?_⟩,by decide,by decide⟩
   ·unfold progOf
    rw[Qhq (show FE.room= -1 from rfl),h1]
    rfl
   ·show(0:Int)<=_
    omega
section
variable{w:dD}{n h:Nat}{s:bK}{vs:List Int}{fs:List cG}{f:cG}{sc:Sc}
def cT.whand(x:cT w n s)(hs:s.af[h]?=some (vs,fs)):∃ts pr,w.af[h]?=some (ts,pr)/\jL w n h ts vs fs:=by
 have hl:h<w.af.length:=by rw[x.lh];exact(gQs.mp hs).1
 exact⟨_,_,gQe hl,x.hd h _ _ vs fs (gQe hl) hs⟩
def cT.wroom{i:Nat}{r:Rm}(x:cT w n s)(hw:w.rooms[i]?=some r):∃rs,s.rooms[i]?=some rs/\je n r rs:=by
 have hl:i<s.rooms.length:=by rw[←x.lr];exact(gQs.mp hw).1
 exact⟨_,gQe hl,x.rm i r _ hw (gQe hl)⟩
def lB{t:Sc}(hsc:DW w h f=some t):(f.room= -1/\∃ts pr,w.af[h]?=some (ts,pr)/\t=⟨true,ts.map (·.1)++w.shared.map (·.1),ts.map (·.1)++w.shared.map (·.1),[],a9 w.rooms,w.passes.map (·.1)⟩)∨
  (f.room≠-1/\∃r,w.rooms[f.room.toNat]?=some r/\t=⟨false,r.things.map (·.1)++gE,r.things.map (·.1),r.aa.map (·.1),a9 w.rooms,[]⟩):=by
 unfold DW at hsc
 split at hsc
 ·rename_i c
  obtain⟨⟨ts,pr⟩,h1,h2⟩:=oQm.mp hsc
  exact .inl ⟨c,ts,pr,h1,h2.symm⟩
 ·rename_i c
  obtain⟨r,h1,h2⟩:=oQm.mp hsc
  exact .inr ⟨c,r,h1,h2.symm⟩
def mw(x:Fm w h f)(c:f.room≠-1):f.room=(f.room.toNat:Int):=by
 obtain⟨pr,hp,_⟩:=x.pr
 rcases ku hp with⟨c',_⟩|⟨i,_,_,_,h1,_⟩
 ·exact absurd c' c
 ·omega
def mB{t:Tr}(o:fE w)(x:cT w n s)(hs:s.af[h]?=some (vs,fs))(hf:fs.getLast? =some f)(hsc:DW w h f=some sc)(ht:F9 sc t):∃v,(0<=v/\v<=9)/\BM w s h t v:=by
 obtain⟨ts,pr,hw,hi⟩:=x.whand hs
 have o2:=o.hd _ (mQg hw)
 have fi:=hi.fr f (List.mem_of_getLast? hf)
 have b3:=o.l3
 have b4:=o2.l1
 have ls:=x.ls
 rcases lB hsc with⟨c,ts',pr',hw',rfl⟩|⟨c,r,hr,rfl⟩
 ·rw[hw] at hw'
  cases hw'
  have nine:lY (DS w s ts vs):=lY.merge (iM x.sv) (iM hi.vv)
  refine⟨AS (numAt (DS w s ts vs)) (fun _=>0) t,?_,fun S Q q=>xa hw hs hf c ls hi.lv (by omega) (by dsimp only at b4;omega) x.sv hi.vv ht.1 (by have:=ht.2;omega) q⟩
  refine mD (ws:=ts.map (·.1)++w.shared.map (·.1)) (bs:= []) (fun y hy=> ?_) ht.1
  refine(oV nine (hG ?_)).2
  rcases mQa.mp hy with hy|hy
  ·exact .inr (iI hi.lv hy)
  ·exact .inl (iI ls hy)
 ·obtain⟨rs,hsr,ri⟩:=x.wroom hr
  have orm:=o.rm r (mQg hr)
  have b5:=orm.l1
  have b6:=orm.l2
  have nine:lY (vy r rs f.given):=(iM ri.vv).put fi.gv.1 fi.gv.2
  refine⟨AS (numAt (vy r rs f.given)) (zH r rs) t,?_,fun S Q q=>uZ hs hf (mw fi c) hr hsr ri.lv ri.lb (by omega) (by omega) ri.vv fi.gv ht.1 (by have:=ht.2;omega) q⟩
  refine mD (ws:=r.things.map (·.1)++gE) (bs:=r.aa.map (·.1)) (fun y hy=> ?_) ht.1
  refine(oV nine (my ?_)).2
  rcases mQa.mp hy with hy|hy
  ·exact .inr (iI ri.lv hy)
  ·left
   rw[Qfq.mp hy]
def nK{ns:List Str}{y:Str}{v:Int}{us:List Int}(h1:∀v∈us,0<=v/\v<=9)(h2:0<=v/\v<=9):(fT ns us y v).length=us.length/\∀u∈fT ns us y v,0<=u/\u<=9:=by
 unfold fT
 refine⟨by simp,fun z hz=> ?_⟩
 rcases QTq hz with hz|rfl
 ·exact h1 z hz
 ·exact h2
def cT.goes{m:Int}{pr:List Rw}(x:cT w n s)(hs:s.af[h]?=some (vs,fs))(hf:fs.getLast? =some f)(hp:progOf w h f=some pr)(h0:0<=m)(h1:m<=pr.length):cT w n {s with af:=s.af.set h (vs,fs.dropLast++ [{f with row:=m}])}:=by
 obtain⟨ts,pr',hw,hi⟩:=x.whand hs
 have fi:=hi.fr f (List.mem_of_getLast? hf)
 exact x.hand hw (hi.setLast hf rfl ⟨⟨pr,hp,h0,h1⟩,fi.gv,fi.tv⟩)
def cT.tells{v:Int}(x:cT w n s)(hs:s.af[h]?=some (vs,fs))(hf:fs.getLast? =some f)(hv:0<=v/\v<=9):cT w n {s with af:=s.af.set h (vs,fs.dropLast++ [{f with told:=v}])}:=by
 obtain⟨ts,pr',hw,hi⟩:=x.whand hs
 have fi:=hi.fr f (List.mem_of_getLast? hf)
 exact x.hand hw (hi.setLast hf rfl ⟨fi.pr,fi.gv,hv⟩)
def je.come{r:Rm}{rs:dt}{k:Int}(x:je n r rs):je (n+1) r (jv rs k):=by
 unfold jv
 have:=x.br
 split
 ·exact⟨x.lv,x.lb,x.vv,by show rs.row.length<=_;omega,Nat.le_succ_of_le x.bl,fun l hl=>Nat.le_succ_of_le (x.bb l hl)⟩
 ·exact⟨x.lv,x.lb,x.vv,by simp;omega,Nat.le_succ_of_le x.bl,fun l hl=>Nat.le_succ_of_le (x.bb l hl)⟩
def je.leave{r:Rm}{rs:dt}(x:je n r rs):je n r (c8 rs):=by
 obtain⟨vals,within,row,ag,aa⟩:=rs
 have h1:=x.br
 have h2:=x.bl
 unfold c8
 dsimp only at h1 h2⊢
 cases ag with
 |cons a l=>exact⟨x.lv,x.lb,x.vv,x.br,by simp at h2;show l.length<=n;omega,x.bb⟩
 | nil=>
   cases row with
   |cons a l=>exact⟨x.lv,x.lb,x.vv,by simp at h1;show l.length<=n;omega,x.bl,x.bb⟩
   |nil=>exact⟨x.lv,x.lb,x.vv,x.br,x.bl,x.bb⟩
def je.line{r:Rm}{rs:dt}{b:Nat}{l:List (Int×Int)}(x:je n r rs)(hl:l.length<=n):je n r {rs with aa:=rs.aa.set b l}:=⟨x.lv,by simp;exact x.lb,x.vv,x.br,x.bl,fun k hk=>by
 rcases QTq hk with hk|rfl
 ·exact x.bb k hk
 ·exact hl⟩
def je.call{r:Rm}{rs:dt}{b:Nat}{k:Int}{fr:Bool}(x:je n r rs):je (n+1) r (tT fr rs b k):=by
 unfold tT
 split
 ·rename_i p l e
  have hl:=x.bb _ (mQg e)
  have y:=(x.mono (Nat.le_succ n)).line (b:=b) (l:=l) (by simp at hl;omega)
  have z:=x.bl
  split
  ·exact y
  ·exact⟨y.lv,y.lb,y.vv,y.br,by simp;omega,y.bb⟩
 ·exact x.mono (Nat.le_succ n)
def F0{l:List (Int×Int)}{a b:Int}:(nq l a b).length=l.length+1:=by
 unfold nq
 have:=List.length_filter_le (fun p:Int×Int=>decide (p.1<=a)) l
 simp only[lQa,Qxq,List.length_drop,Qnq,QGq]
 omega
def HG{rn dn:Str}(o:fE w)(hg:(rn,dn)∈a9 w.rooms):rn∈w.rooms.map (·.name)/\∃r,w.rooms[g5 (w.rooms.map (·.name)) rn]?=some r/\dn∈r.ae.map (·.1):=by
 unfold a9 at hg
 obtain⟨r,hr,hd⟩:=QOq.mp hg
 obtain⟨p,hp,e⟩:=Qkq.mp hd
 cases e
 have hm:r.name∈w.rooms.map (·.name):=Qkq.mpr ⟨r,hr,rfl⟩
 refine⟨hm,r,?_,Qkq.mpr ⟨p,hp,rfl⟩⟩
 obtain⟨h1,h2⟩:=kR hm
 obtain⟨i,hi,e⟩:=List.getElem_of_mem hr
 have e2:(w.rooms.map (·.name))[i]?=some r.name:=by rw[gQm,gQe hi,e];rfl
 rw[lD o.nd h2 e2,gQe hi,e]
end
section
variable{w:dD}{n h:Nat}{s:bK}{vs:List Int}{fs:List cG}{f:cG}{sc:Sc}
def cT.mays(o:fE w)(x:cT w n s)(hn:n<=100):JQ w s:=by
 have b1:=o.l1
 have b2:=o.l2
 have b4:=o.l4
 have lr:=x.lr
 have lp:=x.lp
 have lh:=x.lh
 refine zB (fun S Q q=>pT hn (by omega) (by omega) x.ps (fun rs hrs=> ?_) q) (fun h hh=> ?_) (by omega)
 ·obtain⟨i,hi,e⟩:=List.getElem_of_mem hrs
  have hs:s.rooms[i]?=some rs:=by rw[gQe hi,e]
  have hw:w.rooms[i]?=some (w.rooms[i]'(by omega)):=gQe (by omega)
  have ri:=x.rm i _ rs hw hs
  have:=(o.rm _ (mQg hw)).l2
  have:=ri.lb
  exact⟨ri.br,ri.bl,by omega,ri.bb⟩
 ·obtain⟨⟨vs,fs⟩,hs⟩:∃p,s.af[h]?=some p:=⟨_,gQe hh⟩
  obtain⟨ts,pr,hw,hi⟩:=x.whand hs
  obtain⟨f,hf,fi⟩:=hi.last
  obtain⟨pr',hp,_⟩:=fi.pr
  exact⟨vs,fs,f,pr',hs,hf,hp⟩
end
theorem jO{α β:Type}{f:α->List β}:∀{l:List α} {i:Nat} {a:α},l[i]?=some a->(l.flatMap f).Perm (f a++(l.eraseIdx i).flatMap f)
 | [],_,_,h=>by simp at h
 | x::l,0,a,h=>by
   simp at h
   subst h
   exact List.Perm.refl _
 | x::l,i+1,a,h=>by
   have ih:=jO (f:=f) (l:=l) (i:=i) (by simpa using h)
   rw[QSq,List.eraseIdx_cons_succ,QSq]
   exact(List.Perm.append_left (f x) ih).trans (by
     rw[←Qvq,←Qvq]
     exact QJq _ List.perm_append_comm)
theorem we{α:Type}{b:α}:∀{l:List α} {i:Nat},(l.set i b).eraseIdx i=l.eraseIdx i
 | [],_=>rfl
 |_::_,0=>rfl
 | x::l,i+1=>by
   simp only[List.set_cons_succ,List.eraseIdx_cons_succ]
   rw[we]
def jF{α β:Type}{f:α->List β}{l:List α}{i:Nat}{a b:α}(h:l[i]?=some a):((l.set i b).flatMap f).Perm (f b++(l.eraseIdx i).flatMap f):=by
 have:=jO (f:=f) (l:=l.set i b) (i:=i) (Qyq (gQs.mp h).1)
 rw[we] at this
 exact this
structure Q2(w:dD)(N:Nat)(ps:List (Int×List Int))(rs:List dt)(fr:Nat->List Int):Prop where
 fo:∀g,g<N->(fr g).head? =some (-1)
 nd:(ps.flatMap (·.2)++rs.flatMap aY).Nodup
 hv:∀x∈ps.flatMap (·.2)++rs.flatMap aY,∃g:Nat,x=g/\g<N
 pv:∀p∈ps,(0<=p.1/\p.1<=9)/\(p.1=0\/p.2= [])
 pl:∀p∈ps,∀g:Nat,(g:Int)∈p.2->fr g= [-1]
 rl:∀(i:Nat) (r:dt),rs[i]?=some r->∀g:Nat,(g:Int)∈aY r->(fr g).getLast? =some (i:Int)
 r1:∀(i:Nat) (r:dt),rs[i]?=some r->r.within= -1->r.row= []/\r.ag= []
 r2:∀(i:Nat) (r:dt),rs[i]?=some r->r.within= -1\/∃g:Nat,r.within=g/\g<N/\(i:Int)∈fr g
 r3:∀(i:Nat) (r:dt) (rm:Rm),rs[i]?=some r->w.rooms[i]?=some rm->rm.ah="when free" ->r.ag= []
 r4:∀(i:Nat) (r:dt) (rm:Rm),rs[i]?=some r->w.rooms[i]?=some rm->∀(b:Nat) (l:List (Int×Int)) (nm so:Str),r.aa[b]?=some l->rm.aa[b]?=some (nm,so)->(l.map (·.1)).Pairwise (·<=·)/\(so="row" ->∀p∈l,p.1=0)
def hl(ps:List (Int×List Int))(rs:List dt):List Int:=ps.flatMap (·.2)++rs.flatMap aY
section
variable{w:dD}{N:Nat}{ps:List (Int×List Int)}{rs:List dt}{fr fr':Nat->List Int}{h:Nat}
def x9{i:Nat}{r nr:dt}(hr:rs[i]?=some r):∃rest,(hl ps rs).Perm (aY r++rest)/\(hl ps (rs.set i nr)).Perm (aY nr++rest):=by
 refine⟨ps.flatMap (·.2)++(rs.eraseIdx i).flatMap aY,?_,?_⟩
 ·exact(List.Perm.append_left _ (jO hr)).trans (by rw[←Qvq,←Qvq];exact QJq _ List.perm_append_comm)
 ·exact(List.Perm.append_left _ (jF hr)).trans (by rw[←Qvq,←Qvq];exact QJq _ List.perm_append_comm)
def xX{i:Nat}{p np:Int×List Int}(hp:ps[i]?=some p):∃rest,(hl ps rs).Perm (p.2++rest)/\(hl (ps.set i np) rs).Perm (np.2++rest):=by
 refine⟨(ps.eraseIdx i).flatMap (·.2)++rs.flatMap aY,?_,?_⟩
 ·rw[←Qvq];exact QJq _ (jO (f:=fun p:Int×List Int=>p.2) hp)
 ·rw[←Qvq];exact QJq _ (jF (f:=fun p:Int×List Int=>p.2) hp)
structure R2(w:dD)(N i:Nat)(fr:Nat->List Int)(r:dt):Prop where
 rl:∀g:Nat,(g:Int)∈aY r->(fr g).getLast? =some (i:Int)
 r1:r.within= -1->r.row= []/\r.ag= []
 r2:r.within= -1\/∃g:Nat,r.within=g/\g<N/\(i:Int)∈fr g
 r3:∀rm:Rm,w.rooms[i]?=some rm->rm.ah="when free" ->r.ag= []
 r4:∀rm:Rm,w.rooms[i]?=some rm->∀(b:Nat) (l:List (Int×Int)) (nm so:Str),r.aa[b]?=some l->rm.aa[b]?=some (nm,so)->(l.map (·.1)).Pairwise (·<=·)/\(so="row" ->∀p∈l,p.1=0)
def Q2.at(x:Q2 w N ps rs fr){i:Nat}{r:dt}(hr:rs[i]?=some r):R2 w N i fr r:=⟨x.rl i r hr,x.r1 i r hr,x.r2 i r hr,fun rm=>x.r3 i r rm hr,fun rm=>x.r4 i r rm hr⟩
def Q2.room(x:Q2 w N ps rs fr){i:Nat}{r nr:dt}(hr:rs[i]?=some r)(hn:R2 w N i fr nr)(hnd:∀rest:List Int,(aY r++rest).Nodup->(h:Int)∉aY r++rest->(aY nr++rest).Nodup)(hsub:∀y∈aY nr,y∈aY r\/y=(h:Int))(hN:h<N)(hh:(h:Int)∉hl ps rs):Q2 w N ps (rs.set i nr) fr:=by
 obtain⟨rest,p1,p2⟩:=x9 (ps:=ps) (nr:=nr) hr
 refine⟨x.fo,p2.nodup_iff.mpr (hnd rest (p1.nodup_iff.mp x.nd) fun z=>hh (p1.mem_iff.mpr z)),fun y hy=> ?_,x.pv,x.pl,fun j r' hj=> ?_,fun j r' hj=> ?_,fun j r' hj=> ?_,fun j r' rm hj=> ?_,fun j r' rm hj=> ?_⟩
 ·rcases mQa.mp (p2.mem_iff.mp hy) with hy|hy
  ·rcases hsub y hy with hy|rfl
   ·exact x.hv y (p1.mem_iff.mpr (mQa.mpr (.inl hy)))
   ·exact⟨h,rfl,hN⟩
  ·exact x.hv y (p1.mem_iff.mpr (mQa.mpr (.inr hy)))
 all_goals rcases get_set hj with⟨rfl,rfl⟩|⟨_,hj⟩
 ·exact hn.rl
 ·exact x.rl j r' hj
 ·exact hn.r1
 ·exact x.r1 j r' hj
 ·exact hn.r2
 ·exact x.r2 j r' hj
 ·exact hn.r3 rm
 ·exact x.r3 j r' rm hj
 ·exact hn.r4 rm
 ·exact x.r4 j r' rm hj
end
section
variable{w:dD}{N:Nat}{ps:List (Int×List Int)}{rs:List dt}{fr fr':Nat->List Int}{h:Nat}
def Q2.room0(x:Q2 w N ps rs fr){i:Nat}{r nr:dt}(hr:rs[i]?=some r)(hn:R2 w N i fr nr)(hnd:∀rest:List Int,(aY r++rest).Nodup->(aY nr++rest).Nodup)(hsub:∀y∈aY nr,y∈aY r):Q2 w N ps (rs.set i nr) fr:=by
 obtain⟨rest,p1,p2⟩:=x9 (ps:=ps) (nr:=nr) hr
 refine⟨x.fo,p2.nodup_iff.mpr (hnd rest (p1.nodup_iff.mp x.nd)),fun y hy=> ?_,x.pv,x.pl,fun j r' hj=> ?_,fun j r' hj=> ?_,fun j r' hj=> ?_,fun j r' rm hj=> ?_,fun j r' rm hj=> ?_⟩
 ·rcases mQa.mp (p2.mem_iff.mp hy) with hy|hy
  ·exact x.hv y (p1.mem_iff.mpr (mQa.mpr (.inl (hsub y hy))))
  ·exact x.hv y (p1.mem_iff.mpr (mQa.mpr (.inr hy)))
 all_goals rcases get_set hj with⟨rfl,rfl⟩|⟨_,hj⟩
 ·exact hn.rl
 ·exact x.rl j r' hj
 ·exact hn.r1
 ·exact x.r1 j r' hj
 ·exact hn.r2
 ·exact x.r2 j r' hj
 ·exact hn.r3 rm
 ·exact x.r3 j r' rm hj
 ·exact hn.r4 rm
 ·exact x.r4 j r' rm hj
def yd{a b rest:List Int}{k:Int}(p:b.Perm (k::a))(n:(a++rest).Nodup)(hk:k∉a++rest):(b++rest).Nodup:=by
 refine(QJq rest p).nodup_iff.mpr ?_
 rw[List.cons_append]
 exact List.nodup_cons.mpr ⟨hk,n⟩
def yQ{a b rest:List Int}{k:Int}(p:a.Perm (k::b))(n:(a++rest).Nodup):(b++rest).Nodup:=by
 have:=(QJq rest p).nodup_iff.mp n
 rw[List.cons_append] at this
 exact(List.nodup_cons.mp this).2
def sr(x:Q2 w N ps rs fr){i:Nat}{r:dt}(hr:rs[i]?=some r){y:Int}(hy:y∈aY r):y∈hl ps rs:=mQa.mpr (.inr (QOq.mpr ⟨r,mQg hr,hy⟩))
def leave_held(r:dt):(∃a,(aY r).Perm (a::aY (c8 r))/\(c8 r).within=a)\/(aY (c8 r)=aY r/\(c8 r).within= -1/\r.row= []/\r.ag= []):=by
 obtain⟨vals,within,row,ag,aa⟩:=r
 cases ag with
 | cons a l=>
   refine .inl ⟨a,?_,rfl⟩
   show(row++(a::l)++_).Perm (a::(row++l++_))
   rw[Qvq,Qvq]
   exact List.perm_middle
 | nil=>
   cases row with
   |cons a l=>exact .inl ⟨a,List.Perm.refl _,rfl⟩
   |nil=>exact .inr ⟨rfl,rfl,rfl,rfl⟩
def tH{r:dt}(h:r.ag= []):(c8 r).ag= []:=by
 obtain⟨vals,within,row,ag,aa⟩:=r
 cases h
 cases row <;>rfl
def qK(r:dt):(c8 r).aa=r.aa:=by
 obtain⟨vals,within,row,ag,aa⟩:=r
 cases ag with
 |cons a l=>rfl
 |nil=>cases row <;>rfl
def Q2.leave(x:Q2 w N ps rs fr){i:Nat}{r:dt}(hr:rs[i]?=some r):Q2 w N ps (rs.set i (c8 r)) fr:=by
 have ri:=x.at hr
 rcases leave_held r with⟨a,hp,hw⟩|⟨he,hw,h1,h2⟩
 ·have ha:a∈aY r:=hp.mem_iff.mpr (QBq ..)
  have hsub:∀y∈aY (c8 r),y∈aY r:=fun y hy=>hp.mem_iff.mpr (Qpq _ hy)
  obtain⟨g,rfl,hg⟩:=x.hv a (sr x hr ha)
  refine x.room0 hr ⟨fun g' hg'=>ri.rl g' (hsub _ hg'),fun z=>by rw[hw] at z;omega,.inr ⟨g,hw,hg,List.mem_of_getLast? (ri.rl g ha)⟩,fun rm h1 h2=>tH (ri.r3 rm h1 h2),fun rm h1 b l nm so hb hs=>ri.r4 rm h1 b l nm so (by rw[←qK];exact hb) hs⟩ (fun rest n=>yQ hp n) hsub
 ·refine x.room0 hr ⟨fun g' hg'=>ri.rl g' (by rw[←he];exact hg'),fun _=> ?_,.inl hw,fun rm h1 h2=>tH (ri.r3 rm h1 h2),fun rm h1 b l nm so hb hs=>ri.r4 rm h1 b l nm so (by rw[←qK];exact hb) hs⟩ (fun rest n=>by rw[he];exact n) (fun y hy=>by rw[←he];exact hy)
  obtain⟨vals,within,row,ag,aa⟩:=r
  cases h1
  cases h2
  exact⟨rfl,rfl⟩
def Q2.come(x:Q2 w N ps rs fr){i:Nat}{r:dt}(hr:rs[i]?=some r)(hN:h<N)(hh:(h:Int)∉hl ps rs)(hf:(fr h).getLast? =some (i:Int)):Q2 w N ps (rs.set i (jv r h)) fr:=by
 have ri:=x.at hr
 unfold jv
 by_cases c:r.within= -1
 ·rw[Qhq c]
  refine x.room0 hr ⟨ri.rl,fun z=>by have z:(h:Int)= -1:=z;omega,.inr ⟨h,rfl,hN,List.mem_of_getLast? hf⟩,ri.r3,ri.r4⟩ (fun rest n=>n) (fun y hy=>hy)
 ·rw[Quq c]
  have hp:(aY {r with row:=r.row++ [(h:Int)]}).Perm ((h:Int)::aY r):=by
   show((r.row++ [(h:Int)])++r.ag++_).Perm ((h:Int)::(r.row++r.ag++_))
   rw[Qvq,Qvq,Qvq]
   exact List.perm_middle
  have hsub:∀y∈aY {r with row:=r.row++ [(h:Int)]},y∈aY r\/y=(h:Int):=fun y hy=>by
   rcases Qsq.mp (hp.mem_iff.mp hy) with rfl|hy
   ·exact .inr rfl
   ·exact .inl hy
  refine x.room hr ⟨fun g hg=> ?_,fun z=>absurd z c,ri.r2,ri.r3,ri.r4⟩ (fun rest n hk=>yd hp n hk) hsub hN hh
  rcases hsub _ hg with hg|hg
  ·exact ri.rl g hg
  ·have:g=h:=by omega
   subst this
   exact hf
def tR{α:Type}{A B C:List α}:(A++(B++C)).Perm (B++(A++C)):=by
 rw[←Qvq,←Qvq]
 exact QJq _ List.perm_append_comm
def n0{r:dt}{b:Nat}{l nl:List (Int×Int)}(hb:r.aa[b]?=some l):∃rest,(aY r).Perm (l.map (·.2)++rest)/\(aY {r with aa:=r.aa.set b nl}).Perm (nl.map (·.2)++rest):=by
 refine⟨(r.row++r.ag)++(r.aa.eraseIdx b).flatMap fun l=>l.map (·.2),?_,?_⟩
 ·exact(List.Perm.append_left (r.row++r.ag) (jO (f:=fun l:List (Int×Int)=>l.map (·.2)) hb)).trans tR
 ·exact(List.Perm.append_left (r.row++r.ag) (jF (f:=fun l:List (Int×Int)=>l.map (·.2)) (b:=nl) hb)).trans tR
def D7{l:List (Int×Int)}{t k:Int}:((nq l t k).map (·.2)).Perm (k::l.map (·.2)):=by
 unfold nq
 generalize (l.filter fun p=>decide (p.1<=t)).length=n
 have e:l.map (·.2)=(l.take n).map (·.2)++(l.drop n).map (·.2):=by rw[←Qzq,List.take_append_drop]
 rw[e,Qvq,Qzq]
 exact List.perm_middle
theorem tO{t:Int}:∀{l:List (Int×Int)},(l.map (·.1)).Pairwise (·<=·)->(∀p∈l.take (l.filter fun p=>decide (p.1<=t)).length,p.1<=t)/\∀p∈l.drop (l.filter fun p=>decide (p.1<=t)).length,t<p.1
 | [],_=>⟨fun p hp=>by simp at hp,fun p hp=>by simp at hp⟩
 | a::l,hs=>by
   rw[QDq,List.pairwise_cons] at hs
   by_cases c:a.1<=t
   · rw[List.filter_cons_of_pos (by simpa using c),Qnq,List.take_succ_cons,List.drop_succ_cons]
     obtain⟨h1,h2⟩:=tO (t:=t) hs.2
     refine⟨fun p hp=> ?_,h2⟩
     rcases Qsq.mp hp with rfl|hp
     · exact c
     · exact h1 p hp
   · have all:∀p∈a::l,t<p.1:=fun p hp=>by
       rcases Qsq.mp hp with rfl|hp
       · omega
       · have:=hs.1 p.1 (Qkq.mpr ⟨p,hp,rfl⟩)
         omega
     have hnil:((a::l).filter fun p=>decide (p.1<=t))= []:=List.filter_eq_nil_iff.mpr fun p hp=>by
       have:=all p hp
       simpa using this
     rw[hnil]
     exact⟨fun p hp=>by simp at hp,fun p hp=>all p (by simpa using hp)⟩
def y9{l:List (Int×Int)}{t k:Int}(hs:(l.map (·.1)).Pairwise (·<=·)):((nq l t k).map (·.1)).Pairwise (·<=·):=by
 obtain⟨h1,h2⟩:=tO (t:=t) hs
 unfold nq
 generalize (l.filter fun p=>decide (p.1<=t)).length=n at h1 h2⊢
 rw[Qvq,Qzq,Qzq,List.pairwise_append]
 have ht:((l.take n).map (·.1)).Pairwise (·<=·):=by rw[List.map_take];exact hs.sublist (List.take_sublist ..)
 have hd:((l.drop n).map (·.1)).Pairwise (·<=·):=by rw[List.map_drop];exact hs.sublist (List.drop_sublist ..)
 refine⟨ht,?_,fun a ha b hb=> ?_⟩
 ·show(t::(l.drop n).map (·.1)).Pairwise (·<=·)
  rw[List.pairwise_cons]
  refine⟨fun b hb=> ?_,hd⟩
  obtain⟨p,hp,rfl⟩:=Qkq.mp hb
  have:=h2 p hp
  omega
 ·obtain⟨p,hp,rfl⟩:=Qkq.mp ha
  have e1:=h1 p hp
  rcases Qsq.mp (show b∈t::(l.drop n).map (·.1) from hb) with rfl|hb
  ·exact e1
  ·obtain⟨q,hq,rfl⟩:=Qkq.mp hb
   have:=h2 q hq
   omega
def FU{l:List (Int×Int)}{t k:Int}{p:Int×Int}(h:p∈nq l t k):p∈l\/p=(t,k):=by
 unfold nq at h
 rcases mQa.mp h with h|h
 ·rcases mQa.mp h with h|h
  ·exact .inl (List.mem_of_mem_take h)
  ·exact .inr (Qfq.mp h)
 ·exact .inl (List.mem_of_mem_drop h)
def Q2.wait(x:Q2 w N ps rs fr){i b:Nat}{r:dt}{rm:Rm}{l:List (Int×Int)}{t:Int}{nm so:Str}(hr:rs[i]?=some r)(hm:w.rooms[i]?=some rm)(hb:r.aa[b]?=some l)(hs:rm.aa[b]?=some (nm,so))(ht:so="row" ->t=0)(hN:h<N)(hh:(h:Int)∉hl ps rs)(hf:(fr h).getLast? =some (i:Int)):
  Q2 w N ps (rs.set i (c8 {r with aa:=r.aa.set b (nq l t h)})) fr:=by
 have ri:=x.at hr
 obtain⟨rest,p1,p2⟩:=n0 (nl:=nq l t h) hb
 have hp:(aY {r with aa:=r.aa.set b (nq l t h)}).Perm ((h:Int)::aY r):=by
  refine p2.trans ((QJq rest D7).trans ?_)
  rw[List.cons_append]
  exact List.Perm.cons _ p1.symm
 have hsub:∀y∈aY {r with aa:=r.aa.set b (nq l t h)},y∈aY r\/y=(h:Int):=fun y hy=>by
  rcases Qsq.mp (hp.mem_iff.mp hy) with rfl|hy
  ·exact .inr rfl
  ·exact .inl hy
 have x1:Q2 w N ps (rs.set i {r with aa:=r.aa.set b (nq l t h)}) fr:=by
  refine x.room hr ⟨fun g hg=> ?_,ri.r1,ri.r2,ri.r3,fun rm' hm' b' l' nm' so' hb' hs'=> ?_⟩ (fun rest n hk=>yd hp n hk) hsub hN hh
  ·rcases hsub _ hg with hg|hg
   ·exact ri.rl g hg
   ·have:g=h:=by omega
    subst this
    exact hf
  ·rcases get_set hb' with⟨rfl,rfl⟩|⟨_,hb'⟩
   ·rw[hm] at hm'
    cases hm'
    rw[hs] at hs'
    cases hs'
    obtain⟨e1,e2⟩:=ri.r4 rm hm b' l nm so hb hs
    refine⟨y9 e1,fun z p hp=> ?_⟩
    rcases FU hp with hp|rfl
    ·exact e2 z p hp
    ·exact ht z
   ·exact ri.r4 rm' hm' b' l' nm' so' hb' hs'
 have:=x1.leave (i:=i) (Qyq (gQs.mp hr).1)
 rw[List.set_set] at this
 exact this
def Q2.all(x:Q2 w N ps rs fr){i b:Nat}{r:dt}{l:List (Int×Int)}(hr:rs[i]?=some r)(hb:r.aa[b]?=some l):Q2 w N ps (rs.set i {r with aa:=r.aa.set b []}) fr:=by
 have ri:=x.at hr
 obtain⟨rest,p1,p2⟩:=n0 (nl:= []) hb
 have hsub:∀y∈aY {r with aa:=r.aa.set b []},y∈aY r:=fun y hy=>p1.mem_iff.mpr (mQa.mpr (.inr (by simpa using p2.mem_iff.mp hy)))
 refine x.room0 hr ⟨fun g hg=>ri.rl g (hsub _ hg),ri.r1,ri.r2,ri.r3,fun rm' hm' b' l' nm' so' hb' hs'=> ?_⟩ (fun rest' n=> ?_) hsub
 ·rcases get_set hb' with⟨rfl,rfl⟩|⟨_,hb'⟩
  ·exact⟨.nil,fun _ p hp=>by cases hp⟩
  ·exact ri.r4 rm' hm' b' l' nm' so' hb' hs'
 ·have n1:=(QJq rest' p1).nodup_iff.mp n
  refine(QJq rest' p2).nodup_iff.mpr ?_
  rw[Qvq] at n1
  exact(List.nodup_append.mp n1).2.1
def Q2.call(x:Q2 w N ps rs fr){i b:Nat}{r:dt}{rm:Rm}{l:List (Int×Int)}(hr:rs[i]?=some r)(hm:w.rooms[i]?=some rm)(hb:r.aa[b]?=some l)(hN:h<N)(hh:(h:Int)∉hl ps rs)(hf:(fr h).getLast? =some (i:Int)):
  Q2 w N ps (rs.set i (tT (decide (rm.ah="when free")) r b h)) fr:=by
 have ri:=x.at hr
 unfold tT
 rw[hb]
 cases l with
 | nil=>
   have e:rs.set i r=rs:=by
     apply List.ext_getElem?
     intro j
     rw[List.getElem?_set]
     split
     · rename_i c
       subst c
       rw[hr]
       have:=(gQs.mp hr).1
       simp[this]
     · rfl
   rw[e]
   exact x
 | cons p l=>
   obtain⟨rest,p1,p2⟩:=n0 (nl:=l) hb
   have hp:(aY r).Perm (p.2::aY {r with aa:=r.aa.set b l}):=by
     refine p1.trans ?_
     rw[QDq,List.cons_append]
     exact List.Perm.cons _ p2.symm
   have hg:p.2∈aY r:=hp.mem_iff.mpr (QBq ..)
   have hsub:∀y∈aY {r with aa:=r.aa.set b l},y∈aY r:=fun y hy=>hp.mem_iff.mpr (Qpq _ hy)
   have b4:∀rm':Rm,w.rooms[i]?=some rm'->∀(b':Nat) (l':List (Int×Int)) (nm' so':Str),(r.aa.set b l)[b']?=some l'->rm'.aa[b']?=some (nm',so')->(l'.map (·.1)).Pairwise (·<=·)/\(so'="row" ->∀p∈l',p.1=0):=fun rm' hm' b' l' nm' so' hb' hs'=>by
     rcases get_set hb' with⟨rfl,rfl⟩|⟨_,hb'⟩
     · obtain⟨e1,e2⟩:=ri.r4 rm' hm' b' _ nm' so' hb hs'
       rw[QDq,List.pairwise_cons] at e1
       exact⟨e1.2,fun z q hq=>e2 z q (Qpq _ hq)⟩
     · exact ri.r4 rm' hm' b' l' nm' so' hb' hs'
   dsimp only
   by_cases c:rm.ah="when free"
   · rw[Qeq c,Qhq rfl]
     exact x.room0 hr ⟨fun g hg=>ri.rl g (hsub _ hg),ri.r1,ri.r2,ri.r3,b4⟩ (fun rest n=>yQ hp n) hsub
   · rw[Qdq c,Quq (by decide)]
     have hp2:(aY {r with aa:=r.aa.set b l,within:=p.2,ag:=r.ag++ [(h:Int)]}).Perm ((h:Int)::aY {r with aa:=r.aa.set b l}):=by
       show(r.row++(r.ag++ [(h:Int)])++_).Perm ((h:Int)::(r.row++r.ag++_))
       rw[←Qvq,Qvq]
       exact List.perm_middle
     have hsub2:∀y∈aY {r with aa:=r.aa.set b l,within:=p.2,ag:=r.ag++ [(h:Int)]},y∈aY r\/y=(h:Int):=fun y hy=>by
       rcases Qsq.mp (hp2.mem_iff.mp hy) with rfl|hy
       · exact .inr rfl
       · exact .inl (hsub y hy)
     obtain⟨g,hge,hgN⟩:=x.hv p.2 (sr x hr hg)
     refine x.room hr ⟨fun k hk=> ?_,fun z=> ?_,.inr ⟨g,hge,hgN,List.mem_of_getLast? (ri.rl g (by rw[←hge];exact hg))⟩,fun rm' hm' z=> ?_,b4⟩ (fun rest n hk=> ?_) hsub2 hN hh
     · rcases hsub2 _ hk with hk|hk
       · exact ri.rl k hk
       · have:k=h:=by omega
         subst this
         exact hf
     · have z:p.2= -1:=z
       omega
     · rw[hm] at hm'
       cases hm'
       exact absurd z c
     · refine yd hp2 (yQ hp n) fun z=>hk ?_
       rcases mQa.mp z with z|z
       · exact mQa.mpr (.inl (hsub _ z))
       · exact mQa.mpr (.inr z)
end
section
variable{w:dD}{N:Nat}{ps:List (Int×List Int)}{rs:List dt}{fr fr':Nat->List Int}{h:Nat}
def Q2.take(x:Q2 w N ps rs fr){j:Nat}{p:Int×List Int}(hp:ps[j]?=some p)(hN:h<N)(hh:(h:Int)∉hl ps rs)(hf:fr h= [-1]):Q2 w N (ps.set j (ip p h)) rs fr:=by
 obtain⟨⟨v0,v9⟩,v1⟩:=x.pv p (mQg hp)
 obtain⟨rest,p1,p2⟩:=xX (rs:=rs) (np:=ip p h) hp
 have key:(ip p h).2=p.2\/(ip p h).2=p.2++ [(h:Int)]:=by
  unfold ip
  split
  ·exact .inl rfl
  ·exact .inr rfl
 have hsub:∀y∈(ip p h).2,y∈p.2\/y=(h:Int):=fun y hy=>by
  rcases key with e|e
  ·rw[e] at hy;exact .inl hy
  ·rw[e] at hy
   rcases mQa.mp hy with hy|hy
   ·exact .inl hy
   ·exact .inr (Qfq.mp hy)
 refine⟨x.fo,p2.nodup_iff.mpr ?_,fun y hy=> ?_,fun q hq=> ?_,fun q hq g hg=> ?_,x.rl,x.r1,x.r2,x.r3,x.r4⟩
 ·have n:=p1.nodup_iff.mp x.nd
  rcases key with e|e
  ·rw[e];exact n
  ·rw[e]
   exact yd (a:=p.2) (k:=(h:Int)) (by rw[←List.append_nil p.2];simpa using List.perm_middle (l₁:=p.2) (a:=(h:Int)) (l₂:= [])) n fun z=>hh (p1.mem_iff.mpr z)
 ·rcases mQa.mp (p2.mem_iff.mp hy) with hy|hy
  ·rcases hsub y hy with hy|rfl
   ·exact x.hv y (p1.mem_iff.mpr (mQa.mpr (.inl hy)))
   ·exact⟨h,rfl,hN⟩
  ·exact x.hv y (p1.mem_iff.mpr (mQa.mpr (.inr hy)))
 ·rcases QTq hq with hq|rfl
  ·exact x.pv q hq
  ·unfold ip
   split
   ·rename_i c
    refine⟨⟨by show 0<=p.1-1;omega,by show p.1-1<=9;omega⟩,.inr ?_⟩
    rcases v1 with v1|v1
    ·omega
    ·exact v1
   ·rename_i c
    exact⟨⟨v0,v9⟩,.inl (by show p.1=0;omega)⟩
 ·rcases QTq hq with hq|rfl
  ·exact x.pl q hq g hg
  ·rcases hsub _ hg with hg|hg
   ·exact x.pl p (mQg hp) g hg
   ·have:g=h:=by omega
    subst this
    exact hf
def Q2.give(x:Q2 w N ps rs fr){j:Nat}{p:Int×List Int}(hp:ps[j]?=some p):Q2 w N (ps.set j (gC p)) rs fr:=by
 obtain⟨⟨v0,v9⟩,v1⟩:=x.pv p (mQg hp)
 obtain⟨rest,p1,p2⟩:=xX (rs:=rs) (np:=gC p) hp
 have hpl:=x.pl p (mQg hp)
 obtain⟨v,l⟩:=p
 have hsub:∀y∈(gC (v,l)).2,y∈l:=fun y hy=>by
  unfold gC at hy
  cases l with
  |nil=>cases hy
  |cons a l=>exact Qpq _ hy
 refine⟨x.fo,p2.nodup_iff.mpr ?_,fun y hy=> ?_,fun q hq=> ?_,fun q hq g hg=> ?_,x.rl,x.r1,x.r2,x.r3,x.r4⟩
 ·have n:=p1.nodup_iff.mp x.nd
  unfold gC
  cases l with
  |nil=>exact n
  |cons a l=>exact yQ (k:=a) (List.Perm.refl _) n
 ·rcases mQa.mp (p2.mem_iff.mp hy) with hy|hy
  ·exact x.hv y (p1.mem_iff.mpr (mQa.mpr (.inl (hsub y hy))))
  ·exact x.hv y (p1.mem_iff.mpr (mQa.mpr (.inr hy)))
 ·rcases QTq hq with hq|rfl
  ·exact x.pv q hq
  ·unfold gC
   cases l with
   | nil=>
     refine⟨?_,.inr rfl⟩
     show 0<=(if 9<v+1 then 9 else v+1)/\(if 9<v+1 then 9 else v+1)<=9
     have v0:0<=v:=v0
     split <;>omega
   | cons a l=>
     refine⟨⟨v0,v9⟩,.inl ?_⟩
     rcases v1 with v1|v1
     · exact v1
     · cases v1
 ·rcases QTq hq with hq|rfl
  ·exact x.pl q hq g hg
  ·exact hpl g (hsub _ hg)
def Q2.frames(x:Q2 w N ps rs fr)(hne:∀g,g≠h->fr' g=fr g)(hh:(h:Int)∉hl ps rs)(hw:∀(i:Nat) (r:dt),rs[i]?=some r->r.within=(h:Int)->(i:Int)∈fr' h)(h0:(fr' h).head? =some (-1)):Q2 w N ps rs fr':=by
 have ne:∀g:Nat,(g:Int)∈hl ps rs->fr' g=fr g:=fun g hg=>hne g fun z=>hh (by rw[←z];exact hg)
 refine⟨fun g hg=> ?_,x.nd,x.hv,x.pv,fun p hp g hg=> ?_,fun i r hr g hg=> ?_,x.r1,fun i r hr=> ?_,x.r3,x.r4⟩
 ·by_cases c:g=h
  ·subst c
   exact h0
  ·rw[hne g c]
   exact x.fo g hg
 ·rw[ne g (mQa.mpr (.inl (QOq.mpr ⟨p,hp,hg⟩)))]
  exact x.pl p hp g hg
 ·rw[ne g (sr x hr hg)]
  exact x.rl i r hr g hg
 ·rcases x.r2 i r hr with z|⟨g,e,hg,hi⟩
  ·exact .inl z
  ·refine .inr ⟨g,e,hg,?_⟩
   by_cases c:g=h
   ·subst c
    exact hw i r hr e
   ·rw[hne g c]
    exact hi
end
def rc(f:cG):Int:=if f.room= -1 then(if f.deed= -1/\f.given=0/\f.told=0 then -1 else -2) else f.room
def mI{f:cG}(h:f.room≠-1):rc f=f.room:=Quq h
def xQ(s:bK)(g:Nat):List Int:=((s.af[g]?).map fun p=>p.2.map rc).getD []
def pE(w:dD)(s:bK):Prop:=Q2 w s.af.length s.passes s.rooms (xQ s)
section
variable{w:dD}{n h:Nat}{s:bK}{vs:List Int}{fs:List cG}{f:cG}
def ic(hs:s.af[h]?=some (vs,fs)):xQ s h=fs.map rc:=by
 unfold xQ
 rw[hs]
 rfl
def xV{p:List Int×List cG}{g:Nat}(hg:g≠h):xQ {s with af:=s.af.set h p} g=xQ s g:=by
 unfold xQ
 rw[QKq (Ne.symm hg)]
def xG{p:List Int×List cG}(hl:h<s.af.length):xQ {s with af:=s.af.set h p} h=p.2.map rc:=by
 unfold xQ
 rw[Qyq hl]
 rfl
def pE.quiet(x:pE w s){nv:List Int}{nf:List cG}(hs:s.af[h]?=some (vs,fs))(e:nf.map rc=fs.map rc):pE w {s with af:=s.af.set h (nv,nf)}:=by
 have hl:=(gQs.mp hs).1
 have ef:xQ {s with af:=s.af.set h (nv,nf)}=xQ s:=by
  funext g
  by_cases c:g=h
  ·subst c
   rw[xG hl,ic hs]
   exact e
  ·exact xV c
 unfold pE
 rw[ef]
 show Q2 w (s.af.set h (nv,nf)).length s.passes s.rooms (xQ s)
 rw[List.length_set]
 exact x
def pE.share(x:pE w s){us:List Int}:pE w {s with shared:=us}:=x
def pE.vals(x:pE w s){i:Nat}{r:dt}{us:List Int}(hr:s.rooms[i]?=some r):pE w {s with rooms:=s.rooms.set i {r with vals:=us}}:=by
 have ri:=Q2.at x hr
 exact Q2.room0 x hr ⟨ri.rl,ri.r1,ri.r2,ri.r3,ri.r4⟩ (fun rest n=>n) (fun y hy=>hy)
def pE.begun(o:fE w):pE w (cE w):=by
 have hr:∀(i:Nat) (r:dt),(cE w).rooms[i]?=some r->∃rm,w.rooms[i]?=some rm/\r=dC rm:=fun i r hr=>by
  simp only[cE,gQm] at hr
  obtain⟨rm,h1,h2⟩:=oQm.mp hr
  exact⟨rm,h1,h2.symm⟩
 have bl:∀rm:Rm,∀l∈(dC rm).aa,l= []:=fun rm l hl=>by
  simp only[dC,Qkq] at hl
  obtain⟨_,_,e⟩:=hl
  exact e.symm
 have hh:∀rm:Rm,aY (dC rm)= []:=fun rm=>by
  unfold aY
  have:(dC rm).aa.flatMap (fun l=>l.map (·.2))= []:=List.flatMap_eq_nil_iff.mpr fun l hl=>by rw[bl rm l hl];rfl
  rw[this]
  rfl
 have e0:hl (cE w).passes (cE w).rooms= []:=by
  unfold hl
  rw[List.append_eq_nil_iff,List.flatMap_eq_nil_iff,List.flatMap_eq_nil_iff]
  refine⟨fun p hp=> ?_,fun r hr'=> ?_⟩
  ·simp only[cE,Qkq] at hp
   obtain⟨q,_,rfl⟩:=hp
   rfl
  ·simp only[cE,Qkq] at hr'
   obtain⟨q,_,rfl⟩:=hr'
   exact hh q
 have e1:(cE w).passes.flatMap (·.2)++(cE w).rooms.flatMap aY= []:=e0
 refine⟨fun g hg=> ?_,by rw[e1];exact .nil,(fun x hx=>by rw[e1] at hx;cases hx),?_,fun p hp g hg=> ?_,fun i r hr' g hg=> ?_,fun i r hr' _=> ?_,fun i r hr'=> ?_,fun i r rm hr' _ _=> ?_,fun i r rm hr' _ b l nm so hb _=> ?_⟩
 ·have hg':g<w.af.length:=by simpa [cE] using hg
  unfold xQ
  simp only[cE,gQm,gQe hg',Option.map_some,Option.getD_some]
  rfl
 ·intro p hp
  simp only[cE,Qkq] at hp
  obtain⟨q,hq,rfl⟩:=hp
  have:=o.pv q hq
  exact⟨⟨by show(0:Int)<=(q.2:Int);omega,by show(q.2:Int)<=9;omega⟩,.inr rfl⟩
 ·simp only[cE,Qkq] at hp
  obtain⟨q,_,rfl⟩:=hp
  cases hg
 ·obtain⟨rm,_,rfl⟩:=hr i r hr'
  rw[hh] at hg
  cases hg
 ·obtain⟨rm,_,rfl⟩:=hr i r hr'
  exact⟨rfl,rfl⟩
 ·obtain⟨rm,_,rfl⟩:=hr i r hr'
  exact .inl rfl
 ·obtain⟨rm,_,rfl⟩:=hr i r hr'
  rfl
 ·obtain⟨rm,_,rfl⟩:=hr i r hr'
  rw[bl rm l (mQg hb)]
  exact⟨.nil,fun _ p hp=>by cases hp⟩
end
section
variable{w:dD}{n h:Nat}{s:bK}{vs:List Int}{fs:List cG}{f:cG}{sc:Sc}
def mz{f':cG}(hf:fs.getLast? =some f)(e:rc f'=rc f):(fs.dropLast++ [f']).map rc=fs.map rc:=by
 conv=>rhs;rw[iX hf]
 rw[Qzq,Qzq]
 show _++ [rc f']=_++ [rc f]
 rw[e]
def CZ{y:Str}{v:Int}(o:fE w)(x:cT w n s)(q:pE w s)(hs:s.af[h]?=some (vs,fs))(hf:fs.getLast? =some f)(hsc:DW w h f=some sc)(hy:y∈sc.ps)(hv:0<=v/\v<=9):∃s',Puts w s h y v s'/\cT w n s'/\pE w s':=by
 obtain⟨ts,pr,hw,hi⟩:=x.whand hs
 have o2:=o.hd _ (mQg hw)
 have fi:=hi.fr f (List.mem_of_getLast? hf)
 have b1:=o.l1
 have b3:=o.l3
 have b4:=o2.l1
 have b7:=o.l4
 have lr:=x.lr
 have lh:=x.lh
 rcases lB hsc with⟨c,ts',pr',hw',rfl⟩|⟨c,r,hr,rfl⟩
 ·rw[hw] at hw'
  cases hw'
  refine⟨xg w s h ts vs fs y v,fun S Q q=>Ip hw hs hf c x.ls hi.lv (by omega) (by dsimp only at b4;omega) (by omega) hy q,?_⟩
  unfold xg
  split
  ·obtain⟨k1,k2⟩:=nK (ns:=w.shared.map (·.1)) (y:=y) x.sv hv
   exact⟨x.share k1 k2,q.share⟩
  ·obtain⟨k1,k2⟩:=nK (ns:=ts.map (·.1)) (y:=y) hi.vv hv
   exact⟨x.hand hw (hi.vals k1 k2),q.quiet hs rfl⟩
 ·obtain⟨rs,hsr,ri⟩:=x.wroom hr
  have orm:=o.rm r (mQg hr)
  have b5:=orm.l1
  refine⟨_,fun S Q q=>F3 hs hf (mw fi c) hr hsr ri.lv (by omega) (by omega) hy q,?_⟩
  obtain⟨k1,k2⟩:=nK (ns:=r.things.map (·.1)) (y:=y) ri.vv hv
  exact⟨x.room hr ⟨by rw[ri.lv,←k1],ri.lb,k2,ri.br,ri.bl,ri.bb⟩,q.vals hsr⟩
def DV(hi:jt fs)(hf:fs.getLast? =some f)(c:f.room= -1)(h0:(fs.map rc).head? =some (-1)):fs.map rc= [-1]:=by
 have hs:=iX hf
 rw[hs] at hi h0⊢
 cases hd:fs.dropLast with
 | nil=>
   rw[hd] at h0
   rw[List.nil_append]
   have h0:some (rc f)=some (-1):=h0
   show [rc f]= [-1]
   rw[Option.some.inj h0]
 | cons a l=>
   rw[hd] at hi
   exact absurd c (hi.2 f (mQa.mpr (.inr (Qfq.mpr rfl))))
def Hd{r:Rw}{pr:List Rw}(o:fE w)(x:cT w n s)(q2:pE w s)(hnot:(h:Int)∉held s)(hn:n<=100)(hs:s.af[h]?=some (vs,fs))(hf:fs.getLast? =some f)(hp:progOf w h f=some pr)(h1:1<=f.row)(hrow:pr[(f.row-1).toNat]?=some r):∃s',Kz w s h r s'/\cT w (n+1) s'/\pE w s':=by
 obtain⟨sc,hsc,hok⟩:=EF o hp
 have rok:=hok r (mQg hrow)
 obtain⟨ts,pr',hw,hi⟩:=x.whand hs
 have fi:=hi.fr f (List.mem_of_getLast? hf)
 have hl:h<s.af.length:=(gQs.mp hs).1
 have b1:=o.l1
 have b2:=o.l2
 have b3:=o.l3
 have b4:=o.l4
 have lr:=x.lr
 have lp:=x.lp
 have lh:=x.lh
 have lf:=hi.lf
 have x1:=x.mono (Nat.le_succ n)
 have flast:f.room≠-1->(xQ s h).getLast? =some f.room:=fun c=>by rw[ic hs,List.getLast?_map,hf];exact congrArg some (mI c)
 have f0:=q2.fo h hl
 have inRoom:sc.own=false->∃(i:Nat) (r:Rm) (rs:dt),f.room=i/\w.rooms[i]?=some r/\s.rooms[i]?=some rs/\je n r rs/\yu (a9 w.rooms) r/\sc.bs=r.aa.map (·.1):=fun ho=>by
  rcases lB hsc with⟨c,ts',pr',hw',rfl⟩|⟨c,r,hr,rfl⟩
  ·cases ho
  ·obtain⟨rs,hsr,ri⟩:=x.wroom hr
   exact⟨_,r,rs,mw fi c,hr,hsr,ri,o.rm r (mQg hr),rfl⟩
 have onOwn:sc.own=true->sc.ts=w.passes.map (·.1)/\xQ s h= [-1]:=fun ho=>by
  rcases lB hsc with⟨c,ts',pr',hw',rfl⟩|⟨c,r,hr,rfl⟩
  ·exact⟨rfl,by rw[ic hs] at f0⊢;exact DV hi.hd hf c f0⟩
  ·cases ho
 have passAt:∀y,y∈w.passes.map (·.1)->∀ps:List (Int×List Int),w.passes.length=ps.length->∃p,ps[g5 (w.passes.map (·.1)) y]?=some p:=fun y hy ps hl=>by
  have:=(kR hy).1
  rw[lQm] at this
  exact⟨_,gQe (by omega)⟩
 have takeL:∀p:Int×List Int,p.2.length<=n->(ip p h).2.length<=n+1:=fun p hp=>by
  unfold ip
  split
  ·show p.2.length<=_;omega
  ·simp;omega
 have giveL:∀p:Int×List Int,p.2.length<=n->(gC p).2.length<=n:=fun p hp=>by
  obtain⟨v,l⟩:=p
  unfold gC
  cases l with
  |nil=>simp
  |cons a l=>simp at hp;show l.length<=n;omega
 cases r with
 | put y t=>
   obtain⟨v,hv,hr⟩:=mB o x hs hf hsc rok.2
   obtain⟨s',hp',hi',hq'⟩:=CZ o x q2 hs hf hsc rok.1 hv
   exact⟨s',fun S Q q=>Dg hr hp' q,hi'.mono (Nat.le_succ n),hq'⟩
 | unl t m=>
   obtain⟨v,hv,hr⟩:=mB o x hs hf hsc rok.1
   refine⟨_,fun S Q q=>xE hr hs hf (by omega) (by omega) q,?_⟩
   split
   · exact⟨x1.goes hs hf hp (by omega) (by have:=rok.2;omega),q2.quiet hs (mz hf rfl)⟩
   · exact⟨x1,q2⟩
 |go m=>exact⟨_,fun S Q q=>Gx hs hf (by omega) (by omega) q,x1.goes hs hf hp (by omega) (by have:m<=pr.length:=rok;omega),q2.quiet hs (mz hf rfl)⟩
 | do_ g rn dn t=>
   obtain⟨v,hv,hr⟩:=mB o x hs hf hsc rok.2.2
   have hgs:sc.gs=a9 w.rooms:=by
     rcases lB hsc with⟨c,ts',pr',hw',rfl⟩|⟨c,r,hr,rfl⟩ <;>rfl
   have hgo:=rok.2.1
   rw[hgs] at hgo
   obtain⟨hrn,r,hwr,hdn⟩:=HG o hgo
   obtain⟨rs,hsr,ri⟩:=x.wroom hwr
   have orm:=o.rm r (mQg hwr)
   have b5:=orm.l3
   have b6:=ri.br
   refine⟨_,fun S Q q=>EG hr hs hrn hwr hsr hdn (by omega) (by omega) (by omega) (by omega) (by omega) (by omega) q,?_⟩
   have hlt:=kR hdn
   have hdl:=hlt.1
   rw[lQm] at hdl
   obtain⟨⟨dn',pr2⟩,hd2⟩:∃p,r.ae[g5 (r.ae.map (·.1)) dn]?=some p:=⟨_,gQe hdl⟩
   have pf:progOf w h ⟨(g5 (w.rooms.map (·.name)) rn:Nat),(g5 (r.ae.map (·.1)) dn:Nat),0,v,0⟩=some pr2:=D_ rfl rfl hwr hd2
   have hh:=hi.push (f':=⟨(g5 (w.rooms.map (·.name)) rn:Nat),(g5 (r.ae.map (·.1)) dn:Nat),0,v,0⟩) hf ⟨pr,g,rn,dn,t,hp,h1,hrow⟩ (by show((g5 (w.rooms.map (·.name)) rn:Nat):Int)≠-1;omega) ⟨⟨pr2,pf,by show(0:Int)<=0;omega,by show(0:Int)<=_;omega⟩,hv,by show(0:Int)<=0/\(0:Int)<=9;omega⟩
   refine⟨(x1.hand hw hh).room hwr ri.come,?_⟩
   generalize g5 (r.ae.map (·.1)) dn=dd
   generalize g5 (w.rooms.map (·.name)) rn=i at hsr
   have eo:xQ {s with af:=s.af.set h (vs,fs++ [(⟨i,dd,0,v,0⟩:cG)]),rooms:=s.rooms.set i (jv rs h)} h=fs.map rc++ [(i:Int)]:=by
     have:=xG (s:={s with rooms:=s.rooms.set i (jv rs h)}) (h:=h) (p:=(vs,fs++ [(⟨i,dd,0,v,0⟩:cG)])) hl
     rw[Qzq] at this
     rw[show [(i:Int)]= [(⟨i,dd,0,v,0⟩:cG)].map rc by show _= [rc _];rw[mI (by show(i:Int)≠-1;omega)]]
     exact this
   have q3:Q2 w s.af.length s.passes s.rooms (xQ {s with af:=s.af.set h (vs,fs++ [(⟨i,dd,0,v,0⟩:cG)]),rooms:=s.rooms.set i (jv rs h)}):=by
     refine Q2.frames q2 (h:=h) (fun g hg=> ?_) hnot (fun j r' hj e=> ?_) ?_
     · exact xV (s:={s with rooms:=s.rooms.set i (jv rs h)}) hg
     · rw[eo]
       rcases q2.r2 j r' hj with z|⟨g,e',_,hm⟩
       · omega
       · have:g=h:=by omega
         subst this
         rw[ic hs] at hm
         exact mQa.mpr (.inl hm)
     · rw[eo]
       rw[ic hs] at f0
       cases hfm:fs.map rc with
       |nil=>rw[hfm] at f0;cases f0
       |cons a l=>rw[hfm] at f0;exact f0
   have q4:=q3.come (h:=h) hsr hl hnot (by rw[eo];simp)
   unfold pE
   show Q2 w (s.af.set h _).length s.passes (s.rooms.set i (jv rs h)) _
   rw[List.length_set]
   exact q4
 | wait y t=>
   obtain⟨i,r,rs,hri,hwr,hsr,ri,orm,hbs⟩:=inRoom rok.1
   obtain⟨v,hv,hr⟩:=mB o x hs hf hsc rok.2.2
   have hy:=rok.2.1
   rw[hbs] at hy
   have b6:=orm.l2
   have lb:=ri.lb
   obtain⟨k1,k2⟩:=kR hy
   rw[lQm] at k1
   rw[gQm] at k2
   obtain⟨⟨y',so⟩,k3,k4⟩:=oQm.mp k2
   have k4:y'=y:=k4
   subst k4
   obtain⟨line,hl'⟩:∃l,rs.aa[g5 (r.aa.map (·.1)) y']?=some l:=⟨_,gQe (by omega)⟩
   have ll:=ri.bb line (mQg hl')
   refine⟨_,fun S Q q=>AX hs hf hri hwr hsr (by omega) lb (by omega) hy k3 hl' (by omega) hr q,?_⟩
   refine⟨x1.room hwr (((ri.mono (Nat.le_succ n)).line (by rw[F0];omega)).leave),?_⟩
   exact Q2.wait q2 (h:=h) hsr hwr hl' k3 (fun z=>by rw[z,Quq (by decide +kernel)]) hl hnot (by rw[flast (by omega),hri])
 | call y=>
   obtain⟨i,r,rs,hri,hwr,hsr,ri,orm,hbs⟩:=inRoom rok.1
   have hy:=rok.2
   rw[hbs] at hy
   have b6:=orm.l2
   have b7:=ri.bl
   have lb:=ri.lb
   have k1:=(kR hy).1
   rw[lQm] at k1
   obtain⟨line,hl'⟩:∃l,rs.aa[g5 (r.aa.map (·.1)) y]?=some l:=⟨_,gQe (by omega)⟩
   refine⟨_,fun S Q q=>Bi hs hf hri hwr hsr (by omega) ri.lb (by omega) (by omega) hy q,?_⟩
   exact⟨x1.room hwr ri.call,Q2.call q2 (h:=h) hsr hwr hl' hl hnot (by rw[flast (by omega),hri])⟩
 | all y=>
   obtain⟨i,r,rs,hri,hwr,hsr,ri,orm,hbs⟩:=inRoom rok.1
   have hy:=rok.2
   rw[hbs] at hy
   have b6:=orm.l2
   have lb:=ri.lb
   have k1:=(kR hy).1
   rw[lQm] at k1
   obtain⟨line,hl'⟩:∃l,rs.aa[g5 (r.aa.map (·.1)) y]?=some l:=⟨_,gQe (by omega)⟩
   refine⟨_,fun S Q q=>Di hs hf hri hwr hsr (by omega) ri.lb (by omega) hy q,?_⟩
   exact⟨x1.room hwr ((ri.mono (Nat.le_succ n)).line (by simp)),Q2.all q2 hsr hl'⟩
 | tell t=>
   obtain⟨v,hv,hr⟩:=mB o x hs hf hsc rok.2
   exact⟨_,fun S Q q=>Bc hr hs hf (by omega) (by omega) q,x1.tells hs hf hv,q2.quiet hs (mz hf (by
     have hrn:f.room≠-1:=by obtain⟨i,r,rs,hri,_⟩:=inRoom rok.1;omega
     rw[mI hrn];exact mI (f:={f with told:=v}) hrn))⟩
 | take y=>
   have hy:=rok.2
   rw[(onOwn rok.1).1] at hy
   obtain⟨p,hp'⟩:=passAt y hy s.passes lp
   have pl:=x.ps p (mQg hp')
   exact⟨_,fun S Q q=>BS hy hp' (by omega) (by omega) (by omega) q,x1.pass (takeL p pl),Q2.take q2 hp' hl hnot (onOwn rok.1).2⟩
 | give y=>
   have hy:=rok.2
   rw[(onOwn rok.1).1] at hy
   obtain⟨p,hp'⟩:=passAt y hy s.passes lp
   have pl:=x.ps p (mQg hp')
   exact⟨_,fun S Q q=>B2 hy hp' (by omega) (by omega) q,x1.pass (Nat.le_succ_of_le (giveL p pl)),Q2.give q2 hp'⟩
 | pass y z=>
   have hy:=rok.2.1
   have hz:=rok.2.2
   rw[(onOwn rok.1).1] at hy hz
   obtain⟨p,hp'⟩:=passAt y hy s.passes lp
   have pl:=x.ps p (mQg hp')
   have x2:cT w n _:=x.pass (i:=g5 (w.passes.map (·.1)) y) (giveL p pl)
   obtain⟨p2,hp2⟩:=passAt z hz (s.passes.set (g5 (w.passes.map (·.1)) y) (gC p)) (by simpa using lp)
   have pl2:=x2.ps p2 (mQg hp2)
   have q3:=Q2.give q2 hp'
   refine⟨_,fun S Q q=>Bt hy hz hp' (by omega) (by omega) (by omega) hp2 q,(x2.mono (Nat.le_succ n)).pass (takeL p2 pl2),Q2.take q3 hp2 hl ?_ (onOwn rok.1).2⟩
   intro zz
   obtain⟨rest,e1,e2⟩:=xX (rs:=s.rooms) (np:=gC p) hp'
   refine hnot (e1.mem_iff.mpr ?_)
   rcases mQa.mp (e2.mem_iff.mp zz) with zz|zz
   · refine mQa.mpr (.inl ?_)
     obtain⟨v,l⟩:=p
     unfold gC at zz
     cases l with
     |nil=>cases zz
     |cons a l=>exact Qpq _ zz
   · exact mQa.mpr (.inr zz)
 |say t=>exact⟨s,fun S Q q=>Dl (sd:=.non) q,x1,q2⟩
def G_(o:fE w)(x:cT w n s)(q2:pE w s)(hn:n<=100)(hm:h∈t_ w s)(hs:s.af[h]?=some (vs,fs))(hf:fs.getLast? =some f):∃s' e,wI w s h s' e/\cT w (n+1) s'/\pE w s':=by
 obtain⟨ts,prh,hw,hi⟩:=x.whand hs
 have fi:=hi.fr f (List.mem_of_getLast? hf)
 obtain⟨pr,hp,hr0,hr1⟩:=fi.pr
 have hl:h<s.af.length:=(gQs.mp hs).1
 have b1:=o.l1
 have b4:=o.l4
 have lr:=x.lr
 have lh:=x.lh
 have lf:=hi.lf
 have mm:=(List.mem_filter.mp hm).2
 rw[QCq] at mm
 have hnot:(h:Int)∉held s:=by
  intro z
  have:=mm.1
  rw[Qeq z] at this
  cases this
 have nb:¬(f.room= -1/\f.row=pr.length):=by
  rintro⟨c1,c2⟩
  have hb:Af w s h=true:=by
   unfold Af Fz
   rw[hs]
   show(match fs.getLast? with|some f=>_|none=>_)=_
   rw[hf]
   simp only[hp,Option.getD_some,c1,c2,decide_true,Bool.and_true]
  rw[hb] at mm
  exact absurd mm.2 (by decide)
 have row:∀(r:Rw) (e:Option Int),Here s h f->pr[f.row.toNat]?=some r->JP w s h r e->∃s' e,wI w s h s' e/\cT w (n+1) s'/\pE w s':=fun r e here hrow he=>by
  have hlt:=(gQs.mp hrow).1
  have x2:=x.goes hs hf hp (m:=f.row+1) (by omega) (by omega)
  have q3:pE w {s with af:=s.af.set h (vs,fs.dropLast++ [{f with row:=f.row+1}])}:=q2.quiet hs (mz hf rfl)
  obtain⟨s',hd,hi',hq'⟩:=Hd (f:={f with row:=f.row+1}) (r:=r) (pr:=pr) o x2 q3 hnot hn (Qyq hl) (by simp) hp (by show 1<=f.row+1;omega) (by show pr[(f.row+1-1).toNat]?=_;rw[show f.row+1-1=f.row by omega];exact hrow)
  exact⟨s',e,E8 hs hf here hp hr0 hrow (by omega) (by omega) he hd,hi',hq'⟩
 obtain⟨sc,hsc,hok⟩:=EF o hp
 have says:∀r,pr[f.row.toNat]?=some r->∃e,JP w s h r e:=fun r hrow=>by
  have rok:=hok r (mQg hrow)
  cases r with
  | say t=>
    obtain⟨v,hv,hr⟩:=mB o x hs hf hsc rok.2
    exact⟨some v,v,rfl,hr⟩
  |_=>exact⟨none,rfl⟩
 by_cases c:f.room= -1
 ·have hlt:f.row.toNat<pr.length:=by
   have:f.row≠pr.length:=fun z=>nb ⟨c,z⟩
   omega
  have hrow:pr[f.row.toNat]?=some (pr[f.row.toNat]):=gQe hlt
  obtain⟨e,he⟩:=says _ hrow
  exact row _ e (.inl c) hrow he
 ·rcases ku hp with⟨c',_⟩|⟨i,j,r,dn,h1,h2,h3,h4⟩
  ·exact absurd c' c
  obtain⟨rs,hsr,ri⟩:=x.wroom h3
  have br:=ri.br
  have flast:(xQ s h).getLast? =some (i:Int):=by rw[ic hs,List.getLast?_map,hf,←h1];exact congrArg some (mI c)
  by_cases cw:rs.within=h
  ·have here:Here s h f:=.inr ⟨i,rs,h1,hsr,cw⟩
   by_cases ce:f.row=pr.length
   ·have hsp:=iX hf
    have hd:=hi.hd
    rw[hsp] at hd
    obtain⟨gs,f2,hg⟩:=hd.two c
    have hfs:fs=gs++ [f2,f]:=by rw[hsp,hg];simp
    subst hfs
    obtain⟨hi2,did⟩:=hi.pop
    obtain⟨pr2,g,rn,dn2,t,p1,p2,p3⟩:=did
    have x2:cT w n {s with rooms:=s.rooms.set i (c8 rs),af:=s.af.set h (vs,gs++ [f2])}:=(x.hand hw hi2).room h3 ri.leave
    have ql:=Q2.leave q2 hsr
    have hnot2:(h:Int)∉W28.hl s.passes (s.rooms.set i (c8 rs)):=by
     intro z
     obtain⟨rest,e1,e2⟩:=x9 (ps:=s.passes) (nr:=c8 rs) hsr
     refine hnot (e1.mem_iff.mpr ?_)
     rcases mQa.mp (e2.mem_iff.mp z) with z|z
     ·refine mQa.mpr (.inl ?_)
      rcases leave_held rs with⟨a,hpm,_⟩|⟨he,_⟩
      ·exact hpm.mem_iff.mpr (Qpq _ z)
      ·rw[←he];exact z
     ·exact mQa.mpr (.inr z)
    have q3:pE w {s with rooms:=s.rooms.set i (c8 rs),af:=s.af.set h (vs,gs++ [f2])}:=by
     have eo:xQ {s with rooms:=s.rooms.set i (c8 rs),af:=s.af.set h (vs,gs++ [f2])} h=(gs++ [f2]).map rc:=xG (s:={s with rooms:=s.rooms.set i (c8 rs)}) hl
     unfold pE
     show Q2 w (s.af.set h _).length s.passes (s.rooms.set i (c8 rs)) _
     rw[List.length_set]
     refine Q2.frames ql (h:=h) (fun g hg=>xV (s:={s with rooms:=s.rooms.set i (c8 rs)}) hg) hnot2 (fun j r' hj e=> ?_) ?_
     ·rw[eo]
      rcases get_set hj with⟨rfl,rfl⟩|⟨hne,hj⟩
      ·exfalso
       rcases leave_held rs with⟨a,hpm,hwa⟩|⟨_,hwa,_⟩
       ·rw[hwa] at e
        refine hnot (sr (fr:=xQ s) q2 hsr ?_)
        rw[←e]
        exact hpm.mem_iff.mpr (QBq ..)
       ·rw[hwa] at e
        omega
      ·rcases q2.r2 j r' hj with z|⟨g',e',_,hmem⟩
       ·omega
       ·have:g'=h:=by omega
        subst this
        rw[ic hs,show gs++ [f2,f]=(gs++ [f2])++ [f] by simp,Qzq] at hmem
        rcases mQa.mp hmem with hmem|hmem
        ·exact hmem
        ·have hmem:=Qfq.mp (show(j:Int)∈[rc f] from hmem)
         rw[mI c,h1] at hmem
         exact absurd (by omega:j=i) hne
     ·rw[eo]
      have f0:=q2.fo h hl
      rw[ic hs] at f0
      cases gs with
      |nil=>exact f0
      |cons a l=>exact f0
    obtain⟨sc2,hsc2,hok2⟩:=EF o p1
    have rok:=hok2 _ (mQg p3)
    cases g with
    | none=>
      exact⟨_,none,zd hs hf here hp ce fun S Q q=>q_ hs h1 hsr (by omega) (by omega) p1 p2 p3 (fun _ e=>e.symm) q,x2.mono (Nat.le_succ n),q3⟩
    | some y=>
      obtain⟨s',hp',hi',hq'⟩:=CZ (y:=y) (v:=f.told) o x2 q3 (Qyq hl) (by simp) hsc2 (rok.1 y rfl) fi.tv
      exact⟨s',none,zd hs hf here hp ce fun S Q q=>q_ hs h1 hsr (by omega) (by omega) p1 p2 p3 (fun _ e=>by rw[e];exact hp') q,hi'.mono (Nat.le_succ n),hq'⟩
   ·have hlt:f.row.toNat<pr.length:=by omega
    have hrow:pr[f.row.toNat]?=some (pr[f.row.toNat]):=gQe hlt
    obtain⟨e,he⟩:=says _ hrow
    exact row _ e here hrow he
  ·exact⟨_,none,Ee hs hf h1 hsr cw (by omega) (by omega),(x.mono (Nat.le_succ n)).room h3 ri.come,Q2.come q2 (h:=h) hsr hl hnot flast⟩
end
end W28
namespace DL
open PySem PySem.Spec L2
section
variable{Γ:de}{S:aH}
def CD{f:eF}{Q:D->aH->Prop}(h:E f Γ S fun p S1=>p.2.isL=true/\∃bs,DI p.1=some bs/\Q (.bl (bs.all id)) S1):E (sT f) Γ S Q:=by
 obtain⟨p,S1,e1,l,bs,e2,q⟩:=h
 exact⟨_,S1,by unfold sT;rw[e1];simp only[Qbq];rw[Qhq l,e2];rfl,q⟩
def Fo{i j:Int}{Q:D->Prop}(h:Ge i j)(q:Q (.int (i^j.toNat))):Op (yi S (.int i) (.int j)) Q:=⟨_,by simp only[yi,intD];rw[Qhq h],q⟩
def Kh{i j:Int}{Q:D->Prop}(h:IntMulOk i j)(q:Q (.int (i*j))):Op (nW S (.int i) (.int j)) Q:=⟨_,by simp only[nW,intD];rw[Qhq h],q⟩
end
theorem Aj:∀n:Nat,DI (List.replicate n (.bl true))=some (List.replicate n true)
 |0=>rfl
 |n+1=>by simp only[QNq,DI];rw[Aj n];rfl
end DL
namespace W28
open PySem PySem.Spec L2 DL
section
variable{S S0:aH}{Q:Res->aH->Prop}
def Es(l:List Nat):l.map AN=(l.map fun h:Nat=>(h:Int)).map D.int:=by rw[QPq];rfl
def kd{l:List Nat}:∀d∈l.map AN,(∀k,d≠.ref k)/\cp 0 d=true:=fun d hd=>by
 obtain⟨a,_,rfl⟩:=Qkq.mp hd
 exact⟨fun k z=>(nomatch z),rfl⟩
def G4{k i:Nat}{l:List Nat}{last:Int}(x:Ex k S0 S)(hi:i≠k)(hS:S[i]?=some (.lst (l.map AN)))(h0:0<l.length)(h1:l.length<1000)
  (h:∀(m:Nat) (S':aH),m∈l->Ex k S0 S'->Ex k S S'->S'.length=S.length->Q (.d (.int m)) S'):Fn kD [.ref k,.ref i,.int last] S Q:=by
 have y:Ex k S S:=by obtain⟨a,b,c,hh⟩:=x.pot;exact Ex.refl hh
 have pick:∀S1,Ex k S S1->S1.length=S.length->T (cA (ay bN (aj (ak 0) (aj (ak 1) au)))) [some (.ref k),some (.ref i),some (.int last)] S1 (fun o=>match o with
   |.nx _ S'=>Op (settle S .non S') fun p=>Q p.1 p.2|.rt d S'=>Op (settle S d S') fun p=>Q p.1 p.2|.rl l S'=>Op (dF S l S') fun p=>Q p.1 p.2|_=>False):=fun S1 y1 hl=>by
  symm
  refine fB (xs:=l.map AN) y1 hi (y1.keep _ _ hi hS) (by simpa using h0) (by simpa using h1) kd (fun d hd=>dH (kd d hd).2) fun d S' hd e1 e2 hl2=> ?_
  obtain⟨m,hm,rfl⟩:=Qkq.mp hd
  dsimp only
  refine lT e1 x.lt (kd _ hd).1 (dH (kd _ hd).2) fun a b c=> ?_
  exact h m _ hm x.set y.set (by simp)
 refine cg ?_
 unfold uQ
 apply bV (eY (uI (fJ (xA ?_))))
 refine b9 hS ?_
 refine⟨_,_,rfl,by rw[Es];exact bZ _,?_⟩
 rw[jk]
 show if decide (last∈l.map fun h:Nat=>(h:Int))=true then _ else _
 by_cases c:last∈l.map fun h:Nat=>(h:Int)
 ·rw[Qeq c,Qhq rfl]
  obtain⟨m,hm,rfl⟩:=Qkq.mp c
  symm
  apply bR y (by decide) (by decide) fun d S' hd e1 e2 hl2=> ?_
  refine er ?_
  dsimp only
  by_cases c2:(d:Int)=0
  ·rw[Qeq c2,Qhq rfl]
   symm
   refine lT e1 x.lt (fun k z=>(nomatch z)) rfl fun a b c=> ?_
   exact h m _ hm x.set y.set (by simp)
  ·rw[Qdq c2,Quq (by decide)]
   refine cu ?_
   exact pick S' e1 hl2
 ·rw[Qdq c,Quq (by decide)]
  rw[Quq (by decide)]
  refine cu ?_
  exact pick S y rfl
end
end W28
namespace DL
open PySem PySem.Spec L2
theorem C0{α:Type}(d:α):∀n:Nat,(List.replicate n [d]).flatten=List.replicate n d
 |0=>rfl
 |n+1=>by rw[QNq,QNq,List.flatten_cons,C0 d n];rfl
def yc{Γ:de}{S:aH}{f:eF}{g:bH}{Q:List D->aH->Prop}(h:E f Γ S fun p S1=>E g Γ S1 fun r S2=>∃(n:Nat) (d:D),r=.int n/\p.1= [d]/\(p.2.isM=true/\p.2.stays S2 p.1/\n<=1000)/\Q (List.replicate n d) S2):E (uX f g) Γ S Q:=by
 obtain⟨p,S1,e1,r,S2,e2,n,d,rfl,h0,⟨h1,h2,h3⟩,q⟩:=h
 refine⟨_,S2,?_,q⟩
 unfold uX
 rw[e1]
 simp only[Qbq]
 rw[e2]
 simp only[Qbq]
 rw[Qhq ⟨h1,h2,by omega,by omega,by rw[h0];simp only[Qnq,QGq,Int.toNat_natCast];exact nQl (bD (by omega))⟩]
 rw[h0,show((n:Int)).toNat=n by omega,C0]
theorem zip_map{α β:Type}(f:α->D)(g:β->D):∀(xs:List α) (ys:List β),Ag (xs.map f) (ys.map g)=(xs.zip ys).map fun p=>D.tup [f p.1,g p.2]
 | [],_=>rfl
 |_::_,[]=>rfl
 | x::xs,y::ys=>by
   have:=zip_map f g xs ys
   simp only[Ag,QDq,List.zipWith_cons_cons,List.zip_cons_cons] at this⊢
   rw[this]
end DL
namespace W28
open PySem PySem.Spec L2 DL
def eQ(l:List Int)(h:Int):Nat:=(l.map V.int).countP fun z=>jE z (.int h)
def pB{l:List Int}{h:Int}:eQ l h<=l.length:=by
 unfold eQ
 refine QAq (List.countP_le_length ..) ?_
 simp
def gu{l:List Int}{h:Int}:eQ l h=0↔h∉l:=by
 induction l with
 |nil=>simp[eQ]
 | cons a l ih=>
   unfold eQ at ih⊢
   rw[QDq,List.countP_cons]
   by_cases c:a=h
   · subst c
     simp[jE]
   · have c':¬h=a:=fun z=>c z.symm
     have e:jE (.int a) (.int h)=false:=by simp[jE,c]
     rw[e]
     simp only[Qsq,not_or,c',not_false_eq_true,true_and]
     simpa using ih
def jg(h:Nat)(p:(Str×Nat)×(Int×List Int)):List D:=List.replicate (eQ p.2.2 h) (.tup [.str "pass",.str p.1.1])
noncomputable def jm(h:Nat)(nm:Str)(p:(Str×Str)×List (Int×Int)):List D:=List.replicate (p.2.filter fun q=>decide (q.2=(h:Int))).length (.tup [.str "bell",.str nm,.str p.1.1])
noncomputable def jB(h:Nat)(p:Rm×dt):List D:=List.replicate (eQ p.2.row h) (.tup [.str "row",.str p.1.name])++List.replicate (eQ p.2.ag h) (.tup [.str "late",.str p.1.name])
def fF(h:Nat)(p:Rm×dt):List D:=jB h p++(p.1.aa.zip p.2.aa).flatMap (jm h p.1.name)
def dg(w:dD)(s:bK)(h:Nat):List D:=(w.passes.zip s.passes).flatMap (jg h)++(w.rooms.zip s.rooms).flatMap (fF h)
def rZ{n:Nat}{d:D}(h:cp 0 d=true):∀x∈List.replicate n d,cp 0 x=true:=fun x hx=>by rw[List.eq_of_mem_replicate hx];exact h
def wa(w:dD)(s:bK)(h:Nat):cc 0 (dg w s h)=true:=by
 refine sf fun d hd=> ?_
 unfold dg at hd
 rcases mQa.mp hd with hd|hd
 ·obtain⟨p,_,hp⟩:=QOq.mp hd
  exact rZ rfl d hp
 ·obtain⟨p,_,hp⟩:=QOq.mp hd
  unfold fF jB at hp
  rcases mQa.mp hp with hp|hp
  ·rcases mQa.mp hp with hp|hp
   ·exact rZ rfl d hp
   ·exact rZ rfl d hp
  ·obtain⟨q,_,hq⟩:=QOq.mp hp
   exact rZ rfl d hq
section
variable{w:dD}{n:Nat}{s:bK}{S:aH}{Q:Res->aH->Prop}
def cT.zroom(x:cT w n s){j:Nat}{p:Rm×dt}(h:(w.rooms.zip s.rooms)[j]?=some p):w.rooms[j]?=some p.1/\s.rooms[j]?=some p.2/\je n p.1 p.2:=by
 rw[List.getElem?_zip_eq_some] at h
 exact⟨h.1,h.2,x.rm j _ _ h.1 h.2⟩
def vz(x:cT w n s){h:Nat}{p:(Str×Nat)×(Int×List Int)}(hp:p∈w.passes.zip s.passes):(jg h p).length<=n:=by
 have:=x.ps p.2 (List.of_mem_zip (show(p.1,p.2)∈_ from hp)).2
 unfold jg
 rw[QIq]
 exact QAq pB this
def vK{h:Nat}{p:Rm×dt}(ri:je n p.1 p.2):(jB h p).length<=2*n:=by
 have h1:=ri.br
 have h2:=ri.bl
 have h3:=pB (l:=p.2.row) (h:=h)
 have h4:=pB (l:=p.2.ag) (h:=h)
 unfold jB
 simp only[lQa,QIq]
 omega
def vN{h:Nat}{nm:Str}{p:Rm×dt}(ri:je n p.1 p.2){q:(Str×Str)×List (Int×Int)}(hq:q∈p.1.aa.zip p.2.aa):(jm h nm q).length<=n:=by
 have:=ri.bb q.2 (List.of_mem_zip (show(q.1,q.2)∈_ from hq)).2
 have h2:=List.length_filter_le (fun q:Int×Int=>decide (q.2=(h:Int))) q.2
 unfold jm
 rw[QIq]
 omega
def tq(o:fE w)(x:cT w n s)(hn:n<=100){h m:Nat}{p:Rm×dt}{j:Nat}(hp:(w.rooms.zip s.rooms)[j]?=some p):(((p.1.aa.zip p.2.aa).take m).flatMap (jm h p.1.name)).length<=600:=by
 obtain⟨h1,h2,ri⟩:=x.zroom hp
 have hb:=(o.rm p.1 (mQg h1)).l2
 have:=i_ (f:=jm h p.1.name) (n:=n) (l:=(p.1.aa.zip p.2.aa).take m) fun q hq=>vN ri (List.mem_of_mem_take hq)
 have h6:((p.1.aa.zip p.2.aa).take m).length<=6:=by
  rw[Qxq,List.length_zip]
  omega
 have h7:n*((p.1.aa.zip p.2.aa).take m).length<=100*6:=Nat.mul_le_mul hn h6
 omega
def DC(o:fE w)(x:cT w n s)(hn:n<=100){h:Nat}{p:Rm×dt}(hp:p∈w.rooms.zip s.rooms):(fF h p).length<=800:=by
 obtain⟨j,hj,e⟩:=List.getElem_of_mem hp
 have hp':(w.rooms.zip s.rooms)[j]?=some p:=by rw[gQe hj,e]
 have h1:=tq o x hn (h:=h) (m:=(p.1.aa.zip p.2.aa).length) hp'
 rw[QEq] at h1
 have h2:=vK (h:=h) (x.zroom hp').2.2
 unfold fF
 rw[lQa]
 omega
def uo(o:fE w)(x:cT w n s)(hn:n<=100){h m:Nat}:(((w.passes.zip s.passes).take m).flatMap (jg h)).length<=600:=by
 have hb:=o.l2
 have:=i_ (f:=jg h) (n:=n) (l:=(w.passes.zip s.passes).take m) fun q hq=>vz x (List.mem_of_mem_take hq)
 have h6:((w.passes.zip s.passes).take m).length<=6:=by
  rw[Qxq,List.length_zip]
  omega
 have h7:n*((w.passes.zip s.passes).take m).length<=100*6:=Nat.mul_le_mul hn h6
 omega
def BC(o:fE w)(x:cT w n s)(hn:n<=100){h m:Nat}:(((w.rooms.zip s.rooms).take m).flatMap (fF h)).length<=2400:=by
 have hb:=o.l1
 have:=i_ (f:=fF h) (n:=800) (l:=(w.rooms.zip s.rooms).take m) fun q hq=>DC o x hn (List.mem_of_mem_take hq)
 have h6:((w.rooms.zip s.rooms).take m).length<=3:=by
  rw[Qxq,List.length_zip]
  omega
 omega
def Gg{h:Nat}(o:fE w)(x:cT w n s)(hn:n<=100)(q:Q (.l (dg w s h)) S):Fn jh [w.d,s.d,.int h] S Q:=by
 have lr:=x.lr
 have lp:=x.lp
 refine cg ?_
 unfold qX
 symm
 refine⟨by decide,?_⟩
 apply bV (hX (mj ?_))
 refine av rfl ?_
 apply bS (ds:=w.passes.map uV) ?_
 refine av rfl ?_
 refine bS (ds:=s.passes.map vw) ?_
 refine⟨⟨trivial,by simp only[lQm];omega⟩,?_⟩
 rw[zip_map]
 refine⟨fun j Γ' S'=>(∃a b c d e,Γ'= [some w.d,some s.d,some (.int h),some (.ref S.length),a,b,c,d,e])/\S'=S++ [.lst (((w.passes.zip s.passes).take j).flatMap (jg h))],⟨⟨_,_,_,_,_,rfl⟩,rfl⟩,fun _ _ _ _=>⟨trivial,trivial⟩,?_,?_⟩
 ·rintro j d Γ' S' hd ⟨⟨a,b,c,d1,e,rfl⟩,rfl⟩
  rw[gQm] at hd
  obtain⟨p,hp,rfl⟩:=oQm.mp hd
  have pl:=uo o x hn (h:=h) (m:=j)
  have cl:=vz x (h:=h) (mQg hp)
  have cl2:eQ p.2.2 h<=n:=by unfold jg at cl;rw[QIq] at cl;exact cl
  refine eK rfl (ax (a_ (ax (a_ (bu ?_)))))
  apply jb (wz ?_)
  refine⟨_,_,rfl,aP,?_⟩
  apply oU (yc ?_)
  apply av (d:=.str p.1.1) rfl ?_
  refine⟨by show 2<=_;decide,?_⟩
  symm
  refine⟨by show 1<=_;decide,?_⟩
  apply xZ ?_
  refine av (d:=cD p.2.2) rfl ?_
  apply⟨p.2.2.map D.int,rfl,?_⟩
  refine⟨_,_,rfl,bZ _,?_⟩
  refine⟨eQ p.2.2 h,_,rfl,rfl,⟨rfl,trivial,by omega⟩,?_⟩
  refine⟨_,aP,⟨rfl,?_⟩,⟨_,_,_,_,_,rfl⟩,?_⟩
  ·rw[QIq]
   exact jI (by omega)
  ·rw[fA hp]
   simp[jg]
 rintro Γ' S' ⟨⟨a,b,c,d1,e,rfl⟩,rfl⟩
 rw[lQm,QEq]
 have pl:=uo o x hn (h:=h) (m:=(w.passes.zip s.passes).length)
 rw[QEq] at pl
 unfold dg at q
 have blow:=wa w s h
 unfold dg at blow
 generalize (w.passes.zip s.passes).flatMap (jg h)=P at pl q blow⊢
 apply bV (hX (mj ?_))
 refine av rfl ?_
 apply bS (ds:=w.rooms.map Rm.d) ?_
 refine av rfl ?_
 refine bS (ds:=s.rooms.map dt.d) ?_
 refine⟨⟨trivial,by simp only[lQm];omega⟩,?_⟩
 rw[zip_map]
 refine⟨fun j Γ' S'=>(∃a b c d e,Γ'= [some w.d,some s.d,some (.int h),some (.ref S.length),a,b,c,d,e])/\S'=S++ [.lst (P++((w.rooms.zip s.rooms).take j).flatMap (fF h))],⟨⟨_,_,_,_,_,rfl⟩,by simp⟩,fun _ _ _ _=>⟨trivial,trivial⟩,?_,?_⟩
 ·rintro j d Γ' S' hd ⟨⟨a,b,c,d1,e,rfl⟩,rfl⟩
  rw[gQm] at hd
  obtain⟨p,hp,rfl⟩:=oQm.mp hd
  obtain⟨hp1,hp2,ri⟩:=x.zroom hp
  have ml:=BC o x hn (h:=h) (m:=j)
  have rl:=vK (h:=h) ri
  have br:=ri.br
  have bl:=ri.bl
  have lb:=ri.lb
  have c1:=pB (l:=p.2.row) (h:=h)
  have c2:=pB (l:=p.2.ag) (h:=h)
  have nx:=fA (f:=fF h) hp
  generalize ((w.rooms.zip s.rooms).take j).flatMap (fF h)=R at ml nx⊢
  refine eK rfl (ax (a_ (ax (a_ (bu ?_)))))
  apply bV (jb (wz ?_))
  refine⟨_,_,rfl,aP,?_⟩
  apply oU (zK (oU (yc ?_)))
  apply av (d:=.str p.1.name) rfl ?_
  refine⟨by show 2<=_;decide,?_⟩
  symm
  refine⟨by show 1<=_;decide,?_⟩
  apply xZ ?_
  refine av (d:=cD p.2.row) rfl ?_
  apply⟨p.2.row.map D.int,rfl,?_⟩
  refine⟨_,_,rfl,bZ _,?_⟩
  refine⟨eQ p.2.row h,_,rfl,rfl,⟨rfl,trivial,by omega⟩,?_⟩
  apply oU (yc ?_)
  apply av (d:=.str p.1.name) rfl ?_
  refine⟨by show 2<=_;decide,?_⟩
  symm
  refine⟨by show 1<=_;decide,?_⟩
  apply xZ ?_
  refine av (d:=cD p.2.ag) rfl ?_
  apply⟨p.2.ag.map D.int,rfl,?_⟩
  refine⟨_,_,rfl,bZ _,?_⟩
  refine⟨eQ p.2.ag h,_,rfl,rfl,⟨rfl,trivial,by omega⟩,?_⟩
  refine⟨⟨rfl,rfl,trivial,by simp only[QIq];exact jI (by omega)⟩,?_⟩
  refine⟨_,aP,⟨rfl,?_⟩,?_⟩
  ·simp only[lQa,QIq]
   exact jI (by omega)
  have e1:(S++ [O.lst (P++R)]).set S.length (.lst (P++R++(List.replicate (eQ p.2.row h) (.tup [.str "row",.str p.1.name])++List.replicate (eQ p.2.ag h) (.tup [.str "late",.str p.1.name]))))=S++ [.lst (P++R++jB h p)]:=by simp[jB]
  rw[e1]
  apply hX (mj ?_)
  refine av rfl ?_
  apply bS (ds:=p.1.aa.map Ey) ?_
  refine av rfl ?_
  refine bS (ds:=p.2.aa.map eC) ?_
  refine⟨⟨trivial,by simp only[lQm];omega⟩,?_⟩
  rw[zip_map]
  refine⟨fun m Γ' S'=>(∃a c d,Γ'= [some w.d,some s.d,some (.int h),some (.ref S.length),a,some p.2.d,some p.1.d,c,d])/\S'=S++ [.lst (P++R++jB h p++((p.1.aa.zip p.2.aa).take m).flatMap (jm h p.1.name))],⟨⟨_,_,_,rfl⟩,by simp⟩,fun _ _ _ _=>⟨trivial,trivial⟩,?_,?_⟩
  ·rintro m d Γ' S' hd ⟨⟨a,c,d1,rfl⟩,rfl⟩
   rw[gQm] at hd
   obtain⟨b,hb,rfl⟩:=oQm.mp hd
   have bbl:=tq o x hn (h:=h) (m:=m) hp
   have one:=vN (h:=h) (nm:=p.1.name) ri (mQg hb)
   have lln:=ri.bb b.2 (List.of_mem_zip (show(b.1,b.2)∈_ from mQg hb)).2
   have ffl:=List.length_filter_le (fun q:Int×Int=>decide (q.2=(h:Int))) b.2
   refine eK rfl (ax (a_ (ax (a_ (bu ?_)))))
   apply jb (wz ?_)
   refine⟨_,_,rfl,aP,?_⟩
   apply oU (yc ?_)
   apply av (d:=.str p.1.name) rfl ?_
   apply av (d:=.str b.1.1) rfl ?_
   refine⟨by show 3<=_;decide,?_⟩
   symm
   refine⟨by show 1<=_;decide,?_⟩
   apply Mh (oU (pD (α:=Int×Int) (fun Γ'=>∃a,Γ'= [a,some (.int h)]) pairD pairD (fun q=>decide (q.2=(h:Int))) ⟨none,rfl⟩ (u5 ?_)))
   refine bS (ds:=b.2.map pairD) ?_
   refine⟨b.2,rfl,trivial,by omega,fun q hq Γ' hΓ=> ?_,?_⟩
   ·obtain⟨a,rfl⟩:=hΓ
    apply a_ ⟨rfl,⟨_,rfl⟩,?_⟩
    apply av (d:=.int q.2) rfl ?_
    refine er ?_
    apply⟨rfl,rfl,fun _=> ?_⟩
    exact⟨rfl,rfl⟩
   refine⟨(b.2.filter fun q=>decide (q.2=(h:Int))).length,_,by rw[lQm],rfl,⟨rfl,trivial,by omega⟩,?_⟩
   refine⟨_,aP,⟨rfl,?_⟩,⟨_,_,_,rfl⟩,?_⟩
   ·simp only[lQa,QIq]
    exact jI (by omega)
   ·rw[fA hb]
    simp[jm]
  ·rintro Γ' S' ⟨⟨a,c,d1,rfl⟩,rfl⟩
   rw[lQm,QEq]
   refine⟨⟨_,_,_,_,_,rfl⟩,?_⟩
   rw[nx]
   simp[fF]
 ·rintro Γ' S' ⟨⟨a,b,c,d1,e,rfl⟩,rfl⟩
  rw[lQm,QEq]
  symm
  exact E7 nE.refl.app (Qmq _) aP blow q
end
def uS(w:dD)(h:Nat):Nat:=((w.af[h]?).map fun p=>p.2.length).getD 0
def MS(w:dD)(i:Int):Str:=((w.rooms[i.toNat]?).map (·.name)).getD ""
def wit(s:bK)(i:Int):Int:=((s.rooms[i.toNat]?).map (·.within)).getD (-1)
noncomputable def sY(w:dD)(s:bK)(h:Nat)(f:cG):Str:=if f.room= -1 then(if f.row=(uS w h:Int) then "done" else "out") else(if wit s f.room=(h:Int) then "within" else "called")
def wq(w:dD)(s:bK)(h:Nat)(f:cG):D:=if f.room= -1 then .tup [.str (sY w s h f)] else .tup [.str (sY w s h f),.str (MS w f.room)]
def qo(w:dD)(s:bK)(h:Nat)(f:cG):D:=match dg w s h with
 |d::_=>d
 | []=>wq w s h f
section
variable{w:dD}{n h:Nat}{s:bK}{S:aH}{Q:Res->aH->Prop}{vs:List Int}{fs:List cG}{f:cG}
def Cq{b:Bool}{Q:D->Prop}(q:Q (.int (if b then 1 else 0))):Op (intOfD [.bl b]) Q:=⟨_,rfl,q⟩
def cT.at(x:cT w n s)(hs:s.af[h]?=some (vs,fs))(hf:fs.getLast? =some f):f.room= -1\/∃(i:Nat) (r:Rm) (rs:dt),f.room=i/\w.rooms[i]?=some r/\s.rooms[i]?=some rs/\MS w f.room=r.name/\wit s f.room=rs.within:=by
 obtain⟨ts,pr,hw,hi⟩:=x.whand hs
 have fi:=hi.fr f (List.mem_of_getLast? hf)
 obtain⟨pr',hp,_⟩:=fi.pr
 rcases ku hp with⟨c,_⟩|⟨i,j,r,dn,h1,h2,h3,h4⟩
 ·exact .inl c
 ·obtain⟨rs,hsr,ri⟩:=x.wroom h3
  refine .inr ⟨i,r,rs,h1,h3,hsr,?_,?_⟩
  ·unfold MS
   rw[h1,show((i:Int)).toNat=i by omega,h3]
   rfl
  ·unfold wit
   rw[h1,show((i:Int)).toNat=i by omega,hsr]
   rfl
def Ir(x:cT w n s)(hs:s.af[h]?=some (vs,fs))(hf:fs.getLast? =some f)(q:Q (.d (.str (sY w s h f))) S):Fn kH [w.d,s.d,.int h] S Q:=by
 obtain⟨ts,pr,hw,hi⟩:=x.whand hs
 have hol:uS w h=pr.length:=by unfold uS;rw[hw];rfl
 refine cg ?_
 unfold sO
 symm
 apply av rfl ?_
 refine av (d:=AR (vs,fs)) (a8 (by rw[gQm,hs];rfl)) ?_
 symm
 refine av rfl ?_
 apply lR ?_
 refine⟨1,rfl,?_⟩
 refine av (d:=f.d) (oz (by rw[List.getLast?_map,hf];rfl)) ?_
 refine eK rfl (ax (a_ (ax (a_ (ax (a_ (ax (a_ (ax (a_ (bu ?_)))))))))))
 unfold sY at q
 rcases x.at hs hf with c|⟨i,r,rs,h1,h3,hsr,e1,e2⟩
 ·rw[Qhq c] at q
  symm
  rw[Qeq (show f.room<0 by omega),Qhq rfl]
  symm
  refine⟨by show 2<=_;decide,?_⟩
  symm
  apply av rfl ?_
  refine av (d:=mW (ts,pr)) (a8 (by rw[gQm,hw];rfl)) ?_
  symm
  apply av rfl ?_
  apply er ?_
  refine Cq ?_
  rw[lQm]
  rw[hol] at q
  by_cases c2:f.row=(pr.length:Int)
  ·rw[Qhq c2] at q
   rw[Qeq c2]
   refine eU aP (d:=.str "done") rfl ?_
   exact mQ nE.refl.app (fun k z=>(nomatch z)) rfl q
  ·rw[Quq c2] at q
   rw[Qdq c2]
   refine eU aP (d:=.str "out") rfl ?_
   exact mQ nE.refl.app (fun k z=>(nomatch z)) rfl q
 ·rw[Quq (by omega),e2] at q
  symm
  rw[Qdq (show¬f.room<0 by omega),Quq (by decide),h1]
  apply cu ?_
  refine⟨by show 2<=_;decide,?_⟩
  symm
  apply av rfl ?_
  refine av (d:=rs.d) (a8 (by rw[gQm,hsr];rfl)) ?_
  symm
  apply av (d:=.int rs.within) rfl ?_
  apply er ?_
  refine Cq ?_
  by_cases c2:rs.within=(h:Int)
  ·rw[Qhq c2] at q
   rw[Qeq c2]
   refine eU aP (d:=.str "within") rfl ?_
   exact mQ nE.refl.app (fun k z=>(nomatch z)) rfl q
  ·rw[Quq c2] at q
   rw[Qdq c2]
   refine eU aP (d:=.str "called") rfl ?_
   exact mQ nE.refl.app (fun k z=>(nomatch z)) rfl q
def wH{d:D}(h1:d∈dg w s h):∃(a:Str) (ss:List Str),d=.tup ((a::ss).map D.str)/\a∈(["pass","row","late","bell"]:List Str)/\ss.length<=2:=by
 unfold dg at h1
 rcases mQa.mp h1 with hd|hd
 ·obtain⟨p,_,hp⟩:=QOq.mp hd
  exact⟨"pass",[p.1.1],List.eq_of_mem_replicate hp,by simp,by simp⟩
 ·obtain⟨p,_,hp⟩:=QOq.mp hd
  unfold fF jB at hp
  rcases mQa.mp hp with hp|hp
  ·rcases mQa.mp hp with hp|hp
   ·exact⟨"row",[p.1.name],List.eq_of_mem_replicate hp,by simp,by simp⟩
   ·exact⟨"late",[p.1.name],List.eq_of_mem_replicate hp,by simp,by simp⟩
  ·obtain⟨q,_,hq⟩:=QOq.mp hp
   exact⟨"bell",[p.1.name,q.1.1],List.eq_of_mem_replicate hq,by simp,by simp⟩
end
def headD(l:List D):D:=match l with
 |d::_=>d
 | []=>.non
def jU{α:Type}{f:α->List D}{l:List α}{n:Nat}{a:α}{d:D}{r:List D}(h0:(l.take n).flatMap f= [])(ha:l[n]?=some a)(hd:f a=d::r):∃t,l.flatMap f=d::t:=by
 have e:l=l.take n++a::l.drop (n+1):=by
  have hn:=(gQs.mp ha).1
  rw[gQe hn] at ha
  cases ha
  rw[←QWq hn,List.take_append_drop]
 rw[e,List.flatMap_append,h0,QSq,hd]
 exact⟨_,rfl⟩
def r_{α:Type}{n:Nat}{d:α}(h:n≠0):∃t,List.replicate n d=d::t:=by
 cases n with
 |zero=>exact absurd rfl h
 |succ n=>exact⟨_,QNq⟩
def wc{h:Nat}{l:List (Int×Int)}:(l.filter fun q=>decide (q.2=(h:Int))).length=0↔(h:Int)∉l.map (·.2):=by
 rw[List.length_eq_zero_iff,List.filter_eq_nil_iff]
 constructor
 ·intro g z
  obtain⟨q,hq,e⟩:=Qkq.mp z
  exact g q hq (Qeq e)
 ·intro g q hq z
  exact g (Qkq.mpr ⟨q,hq,of_decide_eq_true z⟩)
section
variable{w:dD}{n h:Nat}{s:bK}{S:aH}{Q:Res->aH->Prop}{vs:List Int}{fs:List cG}{f:cG}
def Ff(o:fE w)(x:cT w n s)(hn:n<=100)(q:Q (.d (headD (dg w s h))) S):Fn fU [w.d,s.d,.int h] S Q:=by
 have lr:=x.lr
 have lp:=x.lp
 have found:∀{d:D} {t:List D} {R:Res->aH->Prop},dg w s h=d::t->(∀k,d≠.ref k)->cp 0 d=true->Op (settle S d S) fun p=>Q p.1 p.2:=fun{d t R} e h1 h2=>by
  rw[e] at q
  exact cU h1 h2 q
 refine cg ?_
 unfold k0
 apply bV (hX (mj ?_))
 refine av rfl ?_
 apply bS (ds:=w.passes.map uV) ?_
 refine av rfl ?_
 refine bS (ds:=s.passes.map vw) ?_
 refine⟨⟨trivial,by simp only[lQm];omega⟩,?_⟩
 rw[zip_map]
 refine⟨fun j Γ' S'=>(∃a b c d e f g i k,Γ'= [some w.d,some s.d,some (.int h),a,b,c,d,e,f,g,i,k])/\S'=S/\((w.passes.zip s.passes).take j).flatMap (jg h)= [],⟨⟨_,_,_,_,_,_,_,_,_,rfl⟩,rfl,rfl⟩,fun _ _ _ _=>⟨trivial,trivial⟩,?_,?_⟩
 ·rintro j d Γ' S' hd ⟨⟨a,b,c,d1,e,f1,g,i,k,rfl⟩,rfl,h0⟩
  rw[gQm] at hd
  obtain⟨p,hp,rfl⟩:=oQm.mp hd
  refine eK rfl (ax (eK rfl (ax (a_ (ax (a_ (bu ?_)))))))
  refine ax (eK rfl (ax (a_ (ax (a_ (bu ?_))))))
  refine bu ?_
  apply eY (fJ (xA ?_))
  refine bS (ds:=p.2.2.map D.int) ?_
  refine⟨_,_,rfl,bZ _,?_⟩
  rw[jk]
  show if decide ((h:Int)∈p.2.2)=true then _ else _
  by_cases cm:(h:Int)∈p.2.2
  ·rw[Qeq cm,Qhq rfl]
   symm
   refine⟨by show 2<=_;decide,?_⟩
   obtain⟨t,ht⟩:=r_ (n:=eQ p.2.2 h) (d:=D.tup [.str "pass",.str p.1.1]) fun z=>gu.mp z cm
   obtain⟨t2,ht2⟩:=jU h0 hp (show jg h p=_::_ from ht)
   exact found (R:=Q) (show dg w s h=_::(t2++_) by unfold dg;rw[ht2];rfl) (fun k z=>(nomatch z)) rfl
  ·rw[Qdq cm,Quq (by decide)]
   refine cu ?_
   refine⟨⟨_,_,_,_,_,_,_,_,_,rfl⟩,rfl,?_⟩
   rw[fA hp,h0]
   unfold jg
   rw[gu.mpr cm]
   rfl
 rintro Γ' S' ⟨⟨a,b,c,d1,e,f1,g,i,k,rfl⟩,rfl,h0⟩
 rw[lQm,QEq] at h0
 have hB:dg w s h=(w.rooms.zip s.rooms).flatMap (fF h):=by unfold dg;rw[h0];rfl
 apply bV (hX (mj ?_))
 refine av rfl ?_
 apply bS (ds:=w.rooms.map Rm.d) ?_
 refine av rfl ?_
 refine bS (ds:=s.rooms.map dt.d) ?_
 refine⟨⟨trivial,by simp only[lQm];omega⟩,?_⟩
 rw[zip_map]
 refine⟨fun j Γ' S2=>(∃a b c d e f g i k,Γ'= [some w.d,some s.d,some (.int h),a,b,c,d,e,f,g,i,k])/\S2=S'/\((w.rooms.zip s.rooms).take j).flatMap (fF h)= [],⟨⟨_,_,_,_,_,_,_,_,_,rfl⟩,rfl,rfl⟩,fun _ _ _ _=>⟨trivial,trivial⟩,?_,?_⟩
 ·rintro j d Γ' S2 hd ⟨⟨a,b,c,d1,e,f1,g,i,k,rfl⟩,rfl,h1⟩
  rw[gQm] at hd
  obtain⟨p,hp,rfl⟩:=oQm.mp hd
  obtain⟨hp1,hp2,ri⟩:=x.zroom hp
  have lb:=ri.lb
  refine eK rfl (ax (a_ (ax (a_ (bu ?_)))))
  apply bV (eY (fJ (xA ?_)))
  refine av rfl ?_
  refine bS (ds:=p.2.row.map D.int) ?_
  refine⟨_,_,rfl,bZ _,?_⟩
  rw[jk]
  show if decide ((h:Int)∈p.2.row)=true then _ else _
  by_cases cm:(h:Int)∈p.2.row
  ·rw[Qeq cm,Qhq rfl]
   symm
   apply av (d:=.str p.1.name) rfl ?_
   refine⟨by show 2<=_;decide,?_⟩
   obtain⟨t,ht⟩:=r_ (n:=eQ p.2.row h) (d:=D.tup [.str "row",.str p.1.name]) fun z=>gu.mp z cm
   obtain⟨t2,ht2⟩:=jU h1 hp (show fF h p=_::_ by unfold fF jB;rw[ht];rfl)
   exact found (R:=Q) (hB.trans ht2) (fun k z=>(nomatch z)) rfl
  rw[Qdq cm,Quq (by decide)]
  refine cu ?_
  have z1:List.replicate (eQ p.2.row h) (D.tup [.str "row",.str p.1.name])= []:=by rw[gu.mpr cm];rfl
  apply bV (eY (fJ (xA ?_)))
  refine av rfl ?_
  refine bS (ds:=p.2.ag.map D.int) ?_
  refine⟨_,_,rfl,bZ _,?_⟩
  rw[jk]
  show if decide ((h:Int)∈p.2.ag)=true then _ else _
  by_cases cl:(h:Int)∈p.2.ag
  ·rw[Qeq cl,Qhq rfl]
   symm
   apply av (d:=.str p.1.name) rfl ?_
   refine⟨by show 2<=_;decide,?_⟩
   obtain⟨t,ht⟩:=r_ (n:=eQ p.2.ag h) (d:=D.tup [.str "late",.str p.1.name]) fun z=>gu.mp z cl
   obtain⟨t2,ht2⟩:=jU h1 hp (show fF h p=_::_ by unfold fF jB;rw[z1,ht];rfl)
   exact found (R:=Q) (hB.trans ht2) (fun k z=>(nomatch z)) rfl
  rw[Qdq cl,Quq (by decide)]
  refine cu ?_
  have z2:jB h p= []:=by unfold jB;rw[z1,gu.mpr cl];rfl
  have hbr:fF h p=(p.1.aa.zip p.2.aa).flatMap (jm h p.1.name):=by unfold fF;rw[z2];rfl
  apply hX (mj ?_)
  refine av rfl ?_
  apply bS (ds:=p.1.aa.map Ey) ?_
  refine av rfl ?_
  refine bS (ds:=p.2.aa.map eC) ?_
  refine⟨⟨trivial,by simp only[lQm];omega⟩,?_⟩
  rw[zip_map]
  refine⟨fun m Γ' S3=>(∃a b c d g i k,Γ'= [some w.d,some s.d,some (.int h),a,b,c,d,some p.1.d,some p.2.d,g,i,k])/\S3=S2/\((p.1.aa.zip p.2.aa).take m).flatMap (jm h p.1.name)= [],⟨⟨_,_,_,_,_,_,_,rfl⟩,rfl,rfl⟩,fun _ _ _ _=>⟨trivial,trivial⟩,?_,?_⟩
  ·rintro m d Γ' S3 hd ⟨⟨a,b,c,d1,g,i,k,rfl⟩,rfl,h2⟩
   rw[gQm] at hd
   obtain⟨bb,hb,rfl⟩:=oQm.mp hd
   have lln:=ri.bb bb.2 (List.of_mem_zip (show(bb.1,bb.2)∈_ from mQg hb)).2
   refine eK rfl (ax (eK rfl (ax (a_ (ax (a_ (bu ?_)))))))
   refine ax (a_ (bu ?_))
   apply eY (fJ (xA ?_))
   refine qz (by omega) ?_
   dsimp only
   refine⟨_,_,rfl,bZ _,?_⟩
   rw[jk]
   show if decide ((h:Int)∈bb.2.map (·.2))=true then _ else _
   by_cases cb:(h:Int)∈bb.2.map (·.2)
   ·rw[Qeq cb,Qhq rfl]
    symm
    apply av (d:=.str p.1.name) rfl ?_
    refine⟨by show 3<=_;decide,?_⟩
    obtain⟨t,ht⟩:=r_ (n:=(bb.2.filter fun q=>decide (q.2=(h:Int))).length) (d:=D.tup [.str "bell",.str p.1.name,.str bb.1.1]) fun z=>wc.mp z cb
    obtain⟨t3,ht3⟩:=jU h2 hb (show jm h p.1.name bb=_::_ from ht)
    obtain⟨t2,ht2⟩:=jU h1 hp (hbr.trans ht3)
    exact found (R:=Q) (hB.trans ht2) (fun k z=>(nomatch z)) rfl
   ·rw[Qdq cb,Quq (by decide)]
    refine cu ?_
    refine⟨⟨_,_,_,_,_,_,_,rfl⟩,rfl,?_⟩
    rw[fA hb,h2]
    unfold jm
    rw[wc.mpr cb]
    rfl
  ·rintro Γ' S3 ⟨⟨a,b,c,d1,g,i,k,rfl⟩,rfl,h2⟩
   rw[lQm,QEq] at h2
   refine⟨⟨_,_,_,_,_,_,_,_,_,rfl⟩,rfl,?_⟩
   rw[fA hp,h1,hbr,h2]
   rfl
 ·rintro Γ' S2 ⟨⟨a,b,c,d1,e,f1,g,i,k,rfl⟩,rfl,h1⟩
  rw[lQm,QEq] at h1
  rw[hB,h1] at q
  symm
  exact cU (fun k z=>(nomatch z)) rfl q
def Ea(o:fE w)(x:cT w n s)(hn:n<=100)(hs:s.af[h]?=some (vs,fs))(hf:fs.getLast? =some f)(q:Q (.d (qo w s h f)) S):Fn sh [w.d,s.d,.int h] S Q:=by
 have bl:=wa w s h
 have bm:∀d∈dg w s h,_:=fun d hd=>wH hd
 obtain⟨ts,pr,hw,hi⟩:=x.whand hs
 have hol:uS w h=pr.length:=by unfold uS;rw[hw];rfl
 refine cg ?_
 unfold CN
 symm
 apply Ff o x hn ?_
 refine IG ?_
 unfold qo at q
 cases hb:dg w s h with
 | cons d l=>
   rw[hb] at q bl bm
   obtain⟨a,ss,rfl,_⟩:=bm d (QBq ..)
   apply aV (fun _=> ?_) (fun c=>by cases c)
   exact cU (fun k z=>(nomatch z)) (by simp only[cc,QCq] at bl;exact bl.1) q
 | nil=>
   rw[hb] at q
   refine aV (fun c=>by cases c) (fun _=>cu ?_)
   have q:Q (.d (wq w s h f)) S:=q
   unfold wq sY at q
   symm
   apply b_ hs hf ?_
   apply av (d:=.int f.room) rfl ?_
   refine er ?_
   rcases x.at hs hf with c|⟨i,r,rs,h1,h3,hsr,e1,e2⟩
   · rw[Qhq c,Qhq c,hol] at q
     rw[Qeq c]
     refine aV (fun _=> ?_) (fun c=>by cases c)
     have hp:progOf w h f=some pr:=by unfold progOf;rw[Qhq c,hw];rfl
     symm
     apply av (d:=.int f.row) rfl ?_
     apply fQ hp ?_
     refine er ?_
     rw[lQm]
     by_cases c2:f.row=(pr.length:Int)
     · rw[Qhq c2] at q
       rw[Qeq c2]
       apply aV (fun _=> ?_) (fun c=>by cases c)
       refine⟨by show 1<=_;decide,?_⟩
       exact cU (fun k z=>(nomatch z)) rfl q
     · rw[Quq c2] at q
       rw[Qdq c2]
       apply aV (fun c=>by cases c) (fun _=> ?_)
       refine⟨by show 1<=_;decide,?_⟩
       exact cU (fun k z=>(nomatch z)) rfl q
   · have cn:¬f.room= -1:=by omega
     rw[Quq cn,Quq cn,e1,e2] at q
     rw[Qdq cn,h1]
     apply aV (fun c=>by cases c) (fun _=>cu ?_)
     apply av rfl ?_
     refine av (d:=r.d) (a8 (by rw[gQm,h3];rfl)) ?_
     symm
     apply av (d:=.str r.name) rfl ?_
     apply av rfl ?_
     refine av (d:=rs.d) (a8 (by rw[gQm,hsr];rfl)) ?_
     symm
     apply av (d:=.int rs.within) rfl ?_
     refine er ?_
     by_cases c2:rs.within=(h:Int)
     · rw[Qhq c2] at q
       rw[Qeq c2]
       apply aV (fun _=> ?_) (fun c=>by cases c)
       refine⟨by show 2<=_;decide,?_⟩
       exact cU (fun k z=>(nomatch z)) rfl q
     · rw[Quq c2] at q
       rw[Qdq c2]
       apply aV (fun c=>by cases c) (fun _=> ?_)
       refine⟨by show 2<=_;decide,?_⟩
       exact cU (fun k z=>(nomatch z)) rfl q
end
end W28
namespace DL
open PySem PySem.Spec L2
def F1{S:aH}{k:Nat}{ds:List D}{Q:List D×Tag->Prop}(hS:S[k]?=some (.frz ds))(q:Q (ds,.fz k)):Op (uf S (.ref k)) Q:=⟨_,by simp only[uf,hS],q⟩
def Lv{S:aH}{k:Nat}{ds:List D}{i:Int}{d:D}{Q:D->Prop}(hS:S[k]?=some (.frz ds))(h:k8 ds i=some d)(q:Q d):Op (aQ S (.ref k) (.int i)) Q:=⟨_,by simp only[aQ,hS];exact h,q⟩
def L4{i:Int}{Q:D->Prop}(q:Q (.int (if i<0 then -i else i))):Op (Hz [.int i]) Q:=⟨_,rfl,q⟩
def E5{b:Bool}{Q:D->Prop}(q:Q (.int (if b then 1 else 0))):Op (intOfD [.bl b]) Q:=⟨_,rfl,q⟩
def As{j:Nat}{n:Nat}{d:D}(h:(jR 0 (j:Int))[n]?=some d):d=.int n/\n<j:=by
 have hl:n<j:=by
  have:=(gQs.mp h).1
  unfold jR at this
  simpa using this
 unfold jR at h
 rw[gQm,List.getElem?_range (by simpa using hl)] at h
 cases h
 exact⟨by simp,hl⟩
end DL
namespace W28
open PySem PySem.Spec L2 DL
section
variable{S:aH}{Q:Res->aH->Prop}
def Kr{ns:List Int}{k:Nat}(hS:S[0]?=some (.frz (ns.map D.int)))(q:∀a b:Int,Q (.l [.int a,.int b,.int 0]) S):Fn mJ [.ref 0,.int k] S Q:=by
 refine cg ?_
 unfold vY
 have key:∀c0:Int,T (aG (bj 3 (aC nW (aC rF (ak 2) (aC nW (aC yi (cF (.int 10)) (cF (.int 60))) (aC yi (cF (.int 10)) (cF (.int 60))))) (yP intOfD (aj (aC Mp (ak 2) (aC yi (cF (.int 10)) (cF (.int 18)))) au))))
   (Gv (bP (aj (ak 3) (aj (aC rF (aC cM (aC cM (ak 2) (aC nW (cF (.int 104729)) (ak 1))) (cF (.int 7))) (cF (.int 2305843009213693951))) (aj (cF (.int 0)) au))))))
   [some (.ref 0),some (.int k),some (.int c0),none] S (fun o=>match o with
   |.nx _ S'=>Op (settle S .non S') fun p=>Q p.1 p.2|.rt d S'=>Op (settle S d S') fun p=>Q p.1 p.2|.rl l S'=>Op (dF S l S') fun p=>Q p.1 p.2|_=>False):=by
  intro c0
  symm
  apply Fo ⟨by decide,by decide,by decide⟩ ?_
  apply Fo ⟨by decide,by decide,by decide⟩ ?_
  refine Kh (IntMulOk.of_bits (by decide +kernel) (by decide +kernel)) ?_
  refine t9 (show(0:Int)<10^(60:Int).toNat*10^(60:Int).toNat by decide +kernel) ?_
  generalize c0%(10^(60:Int).toNat*10^(60:Int).toNat)=c1
  symm
  refine Fo ⟨by decide,by decide,by decide⟩ ?_
  generalize (10:Int)^(18:Int).toNat=c2
  symm
  refine E5 ?_
  have hb:Ig c1 (if decide (c2<=c0)=true then 1 else 0):=by
   right
   split <;>decide
  generalize (if decide (c2<=c0)=true then(1:Int) else 0)=c3 at hb⊢
  apply vW hb ?_
  apply vW (.inl ⟨by decide,by decide⟩) ?_
  apply t9 (by decide) ?_
  refine⟨by show 3<=_;decide,?_⟩
  exact E_ rfl (q _ _)
 symm
 apply F1 hS ?_
 rw[lQm]
 by_cases c:(k:Int)<ns.length
 ·rw[Qeq c,Qhq rfl]
  have hk:k<ns.length:=by omega
  symm
  refine Lv hS (a8 (x:=.int ns[k]) (by rw[gQm,gQe hk];rfl)) ?_
  symm
  refine L4 ?_
  exact key _
 ·rw[Qdq c,Quq (by decide)]
  refine cu ?_
  exact key 0
end
end W28
namespace DL
open PySem PySem.Spec L2
theorem zV:∀l:List Int,rS (l.map V.int) (l.map V.int)=true
 | []=>rfl
 | a::l=>by
   have:=zV l
   simp[rS,jE,this]
theorem vV:∀l:List Str,rS (l.map V.str) (l.map V.str)=true
 | []=>rfl
 | a::l=>by
   have:=vV l
   simp[rS,jE,this]
def Lj{Γ:de}{S:aH}{neg:Bool}{f g:eF}{Q:D->aH->Prop}(h:E f Γ S fun p S1=>E g Γ S1 fun r S2=>(p.2.isL=true/\r.2.isL=true/\p.2.stays S2 p.1)/\∃us vs,ff p.1=some us/\ff r.1=some vs/\Q (.bl (if neg then !rS us vs else rS us vs)) S2):E (eqQ neg f g) Γ S Q:=by
 obtain⟨p,S1,e1,r,S2,e2,hc,us,vs,h1,h2,q⟩:=h
 exact⟨_,S2,by unfold eqQ;rw[e1];simp only[Qbq];rw[e2];simp only[Qbq];rw[Qhq hc,h1,h2];rfl,q⟩
def K5{Γ:de}{S:aH}{f:eF}{Q:D->aH->Prop}(h:E f Γ S fun p S1=>p.2.isL=true/\∃bs,DI p.1=some bs/\Q (.bl (bs.any id)) S1):E (Ih f) Γ S Q:=by
 obtain⟨p,S1,e1,l,bs,e2,q⟩:=h
 exact⟨_,S1,by unfold Ih;rw[e1];simp only[Qbq];rw[Qhq l,e2];rfl,q⟩
theorem vP:∀n:Nat,DI (List.replicate n (.bl false))=some (List.replicate n false)
 |0=>rfl
 |n+1=>by simp only[QNq,DI];rw[vP n];rfl
def mL{α:Type}(xs:List α):DI (xs.map fun _=>D.bl true)=some (List.replicate xs.length true):=by rw[List.map_const',Aj]
def BP{α:Type}(xs:List α):DI (xs.map fun _=>D.bl false)=some (List.replicate xs.length false):=by rw[List.map_const',vP]
def Fc{S:aH}{i j:Int}{Q:D->Prop}(q:Q (.bl (decide (i=j)))):Op (m4 false S (.int i) (.int j)) Q:=⟨_,by simp[m4,fm,sL,yL],q⟩
def pS{S:aH}{i j:Str}{Q:D->Prop}(q:Q (.bl (decide (i=j)))):Op (m4 false S (.str i) (.str j)) Q:=⟨_,by simp[m4,fm,sL,yL],q⟩
def Ma{Γ:de}{S:aH}{f g:bH}{Q:D->aH->Prop}(h:E f Γ S fun d S1=>∃k,d=.bl k/\if k=true then Q (.bl true) S1 else E g Γ S1 Q):E (LR f g) Γ S Q:=by
 obtain⟨d,S1,e1,k,rfl,q⟩:=h
 cases k with
 |true=>exact⟨_,S1,by unfold LR;rw[e1];rfl,q⟩
 |false=>obtain⟨j,S2,e2,q⟩:=(q:E g Γ S1 Q);exact⟨j,S2,by unfold LR;rw[e1];exact e2,q⟩
end DL
namespace W28
open PySem PySem.Spec L2 DL
def lO{l m:List Int}{h:Int}:eQ (l++m) h=eQ l h+eQ m h:=by
 unfold eQ
 rw[Qzq,List.countP_append]
theorem uA{h:Int}:∀{l:List Int},l.Nodup->eQ l h<=1
 | [],_=>Nat.zero_le _
 | a::l,n=>by
   rw[List.nodup_cons] at n
   have ih:=uA (h:=h) n.2
   have e:eQ (a::l) h=eQ l h+if jE (.int a) (.int h)=true then 1 else 0:=by
     unfold eQ
     rw[QDq,List.countP_cons]
   rw[e]
   by_cases c:a=h
   · subst c
     have:eQ l a=0:=gu.mpr n.1
     rw[this]
     split <;>omega
   · have:jE (.int a) (.int h)=false:=by simp[jE,c]
     rw[this]
     simpa using ih
def AG{l:List (Int×Int)}{h:Nat}:(l.filter fun q=>decide (q.2=(h:Int))).length=eQ (l.map (·.2)) h:=by
 induction l with
 |nil=>rfl
 | cons a l ih=>
   have e:eQ ((a::l).map (·.2)) h=eQ (l.map (·.2)) h+if jE (.int a.2) (.int h)=true then 1 else 0:=by
     unfold eQ
     rw[QDq,QDq,List.countP_cons]
   rw[e,←ih]
   by_cases c:a.2=(h:Int)
   · rw[List.filter_cons_of_pos (by simpa using c)]
     simp[jE,c]
   · rw[List.filter_cons_of_neg (by simpa using c)]
     simp[jE,c]
theorem sF{α β γ:Type}{f:α×β->List D}{g:β->List Int}{h:Int}(hfg:∀p,(f p).length=eQ (g p.2) h):∀{xs:List α} {ys:List β},xs.length=ys.length->((xs.zip ys).flatMap f).length=eQ (ys.flatMap g) h
 | [],[],_=>rfl
 | x::xs,y::ys,hl=>by
   rw[List.zip_cons_cons,QSq,QSq,lQa,lO,hfg (x,y),sF (γ:=γ) hfg (by simpa using hl)]
def Df{w:dD}{n h:Nat}{s:bK}(x:cT w n s):(dg w s h).length=eQ (held s) h:=by
 unfold dg held
 rw[lQa,lO]
 have h1:((w.passes.zip s.passes).flatMap (jg h)).length=eQ (s.passes.flatMap (·.2)) h:=sF (γ:=Unit) (g:=fun p:Int×List Int=>p.2) (fun p=>by unfold jg;rw[QIq]) x.lp
 have h2:∀(ws:List Rm) (ss:List dt),ws.length=ss.length->(∀(i:Nat) (r:Rm) (rs:dt),ws[i]?=some r->ss[i]?=some rs->r.aa.length=rs.aa.length)->((ws.zip ss).flatMap (fF h)).length=eQ (ss.flatMap aY) h:=by
  intro ws
  induction ws with
  |nil=>intro ss hl _;cases ss with|nil=>rfl|cons _ _=>cases hl
  | cons r ws ih=>
    intro ss hl hb
    cases ss with
    |nil=>cases hl
    | cons rs ss=>
      rw[List.zip_cons_cons,QSq,QSq,lQa,lO,ih ss (by simpa using hl) fun i a b h1 h2=>hb (i+1) a b (by simpa using h1) (by simpa using h2)]
      congr 1
      unfold fF jB aY
      rw[lQa,lQa,QIq,QIq,lO,lO]
      congr 1
      exact sF (γ:=Unit) (f:=jm h r.name) (g:=fun l:List (Int×Int)=>l.map (·.2)) (fun p=>by unfold jm;rw[QIq,AG]) (hb 0 r rs rfl rfl)
 rw[h1,h2 w.rooms s.rooms x.lr fun i r rs h1 h2=>(x.rm i r rs h1 h2).lb]
def A8{w:dD}{s:bK}{h:Nat}{d:D}{l:List D}(hb:dg w s h=d::l):(∃p∈w.passes.zip s.passes,d=.tup [.str "pass",.str p.1.1]/\(h:Int)∈p.2.2)\/∃(i:Nat) (p:Rm×dt) (a:Str) (ss:List Str),(w.rooms.zip s.rooms)[i]?=some p/\d=.tup ((a::p.1.name::ss).map D.str)/\a∈(["row","late","bell"]:List Str)/\ss.length<=1/\(h:Int)∈aY p.2:=by
 have hd:d∈dg w s h:=by rw[hb];exact QBq ..
 have pos:∀{n:Nat} {e:D},d∈List.replicate n e->d=e/\n≠0:=fun hm=>⟨List.eq_of_mem_replicate hm,fun z=>by rw[z] at hm;cases hm⟩
 have cn:∀{l:List Int},eQ l h≠0->(h:Int)∈l:=fun{l} hc=>Decidable.byContradiction fun z=>hc (gu.mpr z)
 unfold dg at hd
 rcases mQa.mp hd with hd|hd
 ·obtain⟨p,hp,hm⟩:=QOq.mp hd
  obtain⟨e,hc⟩:=pos hm
  exact .inl ⟨p,hp,e,cn hc⟩
 ·obtain⟨p,hp,hm⟩:=QOq.mp hd
  obtain⟨i,hi,e⟩:=List.getElem_of_mem hp
  have hp':(w.rooms.zip s.rooms)[i]?=some p:=by rw[gQe hi,e]
  refine .inr ?_
  unfold fF jB at hm
  unfold aY
  rcases mQa.mp hm with hm|hm
  ·rcases mQa.mp hm with hm|hm
   ·obtain⟨e,hc⟩:=pos hm
    exact⟨i,p,"row",[],hp',e,by simp,by simp,mQa.mpr (.inl (mQa.mpr (.inl (cn hc))))⟩
   ·obtain⟨e,hc⟩:=pos hm
    exact⟨i,p,"late",[],hp',e,by simp,by simp,mQa.mpr (.inl (mQa.mpr (.inr (cn hc))))⟩
  ·obtain⟨q,hq,hm⟩:=QOq.mp hm
   unfold jm at hm
   obtain⟨e,hc⟩:=pos hm
   rw[AG] at hc
   exact⟨i,p,"bell",[q.1.1],hp',e,by simp,by simp,mQa.mpr (.inr (QOq.mpr ⟨q.2,(List.of_mem_zip (show(q.1,q.2)∈_ from hq)).2,cn hc⟩))⟩
section
variable{w:dD}{n h:Nat}{s:bK}{S:aH}{Q:Res->aH->Prop}{vs:List Int}{fs:List cG}{f:cG}
def uY(o:fE w)(x:cT w n s)(q2:pE w s)(hn:n<=100)(hs:s.af[h]?=some (vs,fs))(q:Q (.d (.bl true)) S):Fn fj [w.d,s.d,.int h] S Q:=by
 have hhl:h<s.af.length:=(gQs.mp hs).1
 obtain⟨ts,pr,hw,hi⟩:=x.whand hs
 obtain⟨f,hf,fi⟩:=hi.last
 have f0:=q2.fo h hhl
 rw[ic hs] at f0
 have lf:=hi.lf
 have hle:(dg w s h).length<=1:=by rw[Df x];exact uA q2.nd
 obtain⟨g0,tl,hfs,hg0,htl⟩:∃g0 tl,fs=g0::tl/\rc g0= -1/\∀f∈tl,f.room≠-1:=by
  have hr:=hi.hd
  cases fs with
  |nil=>exact hr.elim
  |cons a l=>exact⟨a,l,rfl,Option.some.inj (show some (rc a)=some (-1) from f0),hr.2⟩
 have hg:g0.room= -1/\g0.deed= -1/\g0.given=0/\g0.told=0:=by
  unfold rc at hg0
  split at hg0
  ·rename_i c
   split at hg0
   ·rename_i c2
    exact⟨c,c2⟩
   ·cases hg0
  ·rename_i c
   exact absurd hg0 c
 obtain⟨c1,c2,c3,c4⟩:=hg
 refine cg ?_
 unfold jW
 symm
 apply Gg o x hn ?_
 apply Ea o x hn hs hf ?_
 apply av rfl ?_
 refine av (d:=AR (vs,fs)) (a8 (by rw[gQm,hs];rfl)) ?_
 symm
 apply av (d:=.tup (fs.map cG.d)) rfl ?_
 apply b9 aP ?_
 rw[Qdq (show¬((1:Int)<((dg w s h).length:Nat)) by omega)]
 apply aV (fun c=>by cases c) (fun _=> ?_)
 apply jH ?_
 refine av (d:=g0.d) (by rw[hfs];exact va) ?_
 apply cY (cZ ?_)
 apply⟨_,rfl,_,rfl,?_⟩
 apply lR ?_
 apply⟨1,rfl,?_⟩
 apply lR ?_
 apply⟨1,rfl,?_⟩
 refine⟨by show 2<=_;decide,?_⟩
 refine zP (us:= [.int g0.room,.int g0.deed]) (vs:= [.int (-1),.int (-1)]) rfl rfl ?_
 rw[c1,c2]
 apply aV (fun c=>by cases c) (fun _=> ?_)
 apply jH ?_
 refine av (d:=g0.d) (by rw[hfs];exact va) ?_
 apply cZ ?_
 apply⟨_,rfl,cY ⟨_,rfl,?_⟩⟩
 refine⟨by show 2<=_;decide,?_⟩
 refine zP (us:= [.int g0.given,.int g0.told]) (vs:= [.int 0,.int 0]) rfl rfl ?_
 rw[c3,c4]
 refine aV (fun c=>by cases c) (fun _=>cu ?_)
 refine bV (eY (vM (K5 (oU ?_))))
 refine iP (α:=cG) (fun Γ'=>∃a,Γ'= [a]) cG.d (fun _=>.bl false) ⟨none,rfl⟩ ?_
 apply qT (jH ?_)
 apply cZ ?_
 refine⟨_,rfl,cY ⟨_,rfl,?_⟩⟩
 have ecut:jQ (fs.map cG.d) (some 1) none=tl.map cG.d:=by
  rw[show(some (1:Int))=some ((1:Nat):Int) from rfl,hfs,ja (by simp)]
  rfl
 rw[ecut]
 refine bS ?_
 have htl':tl.length<=1000:=by have:=congrArg List.length hfs;simp at this;omega
 refine⟨tl,rfl,trivial,htl',fun g hg Γ' hΓ=> ?_,?_⟩
 ·obtain⟨a,rfl⟩:=hΓ
  apply a_ ⟨rfl,⟨_,rfl⟩,?_⟩
  apply av (d:=.int g.room) rfl ?_
  have hgm:g∈fs:=by rw[hfs];exact Qpq _ hg
  have:=mw (hi.fr g hgm) (htl g hg)
  exact⟨by rw[Qdq (by omega)],rfl⟩
 refine⟨rfl,_,BP tl,?_⟩
 refine lu ?_
 refine aV (fun c=>by simp at c) (fun _=>cu ?_)
 apply bV (eY (fJ (Io ?_)))
 refine b9 aP ?_
 refine⟨⟨rfl,aP⟩,?_⟩
 cases hb:dg w s h with
 | nil=>
   refine aV (fun _=> ?_) (fun c=>by cases c)
   have est:qo w s h f=wq w s h f:=by unfold qo;rw[hb]
   rw[est]
   have efd:∃l,wq w s h f=.tup (.str (sY w s h f)::l):=by
     unfold wq
     split <;>exact⟨_,rfl⟩
   obtain⟨l,efd⟩:=efd
   rw[efd]
   symm
   apply av (d:=.str (sY w s h f)) va ?_
   apply Ir x hs hf ?_
   refine pS ?_
   rw[Qeq rfl]
   exact mQ nE.refl.app (fun k z=>(nomatch z)) rfl q
 | cons d l=>
   refine aV (fun c=>by cases c) (fun _=>cu ?_)
   have est:qo w s h f=d:=by unfold qo;rw[hb]
   rw[est]
   obtain⟨a1,ss1,ed,_,_⟩:=wH (show d∈dg w s h by rw[hb];exact QBq ..)
   symm
   refine eU aP (d:=d) va ?_
   rw[ed]
   symm
   refine zP (i6 _) (i6 _) ?_
   rw[vV]
   refine aV (fun c=>by cases c) (fun _=>cu ?_)
   rw[←ed]
   rcases A8 hb with⟨p,hp,rfl,hm⟩|⟨i,p,a,ss,hp,rfl,ha,hl,hm⟩
   · have hfr:=q2.pl p.2 (List.of_mem_zip (show(p.1,p.2)∈_ from hp)).2 h hm
     rw[ic hs] at hfr
     have hlen:fs.length=1:=by have:=congrArg List.length hfr;simpa using this
     symm
     apply av (d:=.str "pass") rfl ?_
     refine pS ?_
     rw[Qeq rfl]
     apply aV (fun _=> ?_) (fun c=>by cases c)
     refine Fc ?_
     rw[Qeq (by rw[lQm,hlen];rfl)]
     exact mQ nE.refl.app (fun k z=>(nomatch z)) rfl q
   · obtain⟨hp1,hp2,ri⟩:=x.zroom hp
     have hfr:=q2.rl i p.2 hp2 h hm
     rw[ic hs,List.getLast?_map,hf] at hfr
     have hrc:rc f=(i:Int):=Option.some.inj hfr
     have hroom:f.room=(i:Int):=by
       unfold rc at hrc
       split at hrc
       · split at hrc <;>omega
       · exact hrc
     have hlen:1<fs.length:=by
       rw[hfs] at hf⊢
       cases tl with
       | nil=>
         have hf:some g0=some f:=hf
         cases hf
         omega
       |cons b l'=>simp
     have hnp:¬a=("pass":Str):=by
       simp only[Qsq,QXq,or_false] at ha
       rcases ha with rfl|rfl|rfl <;>decide +kernel
     symm
     apply av (d:=.str a) va ?_
     refine pS ?_
     rw[Qdq hnp]
     refine aV (fun c=>by cases c) (fun _=>cu ?_)
     apply qE (Bd ?_)
     refine⟨_,rfl,?_⟩
     rw[lQm,Qeq (show(1:Int)<(fs.length:Nat) by omega),Qhq rfl]
     symm
     apply av rfl ?_
     apply lR ?_
     refine⟨1,rfl,?_⟩
     refine av (d:=f.d) (oz (by rw[List.getLast?_map,hf];rfl)) ?_
     symm
     refine av (d:=.int f.room) rfl ?_
     rw[hroom]
     refine av (d:=p.1.d) (a8 (by rw[gQm,hp1];rfl)) ?_
     symm
     apply av (d:=.str p.1.name) rfl ?_
     refine av (d:=.str p.1.name) (a8 (j:=1) rfl) ?_
     refine pS ?_
     rw[Qeq rfl]
     exact mQ nE.refl.app (fun k z=>(nomatch z)) rfl q
def HV{Γ:de}{S:aH}{o o':rq}{f g h:bH}{Q:D->aH->Prop}(w:E f Γ S fun x S1=>E g Γ S1 fun y S2=>Op (o S2 x y) fun d=>∃k,d=.bl k/\if k=true then E h Γ S2 fun z S3=>Op (o' S3 y z) fun d'=>Q d' S3 else Q (.bl false) S2):E (jG o o' f g h) Γ S Q:=by
 obtain⟨x,S1,e1,y,S2,e2,d,e3,k,rfl,q⟩:=w
 cases k with
 | true=>
   rw[Qhq rfl] at q
   obtain⟨z,S3,e4,d',e5,q⟩:=q
   exact⟨d',S3,by unfold jG;rw[e1];simp only[Qbq,e2,e3,e4,e5],q⟩
 | false=>
   rw[Quq (by decide)] at q
   exact⟨_,S2,by unfold jG;rw[e1];simp only[Qbq,e2,e3],q⟩
def zE{Γ:de}{S:aH}{f:eF}{Q:D->aH->Prop}(h:E f Γ S fun p S1=>∃us:List Int,p.1=us.map D.int/\p.2.stays S1 p.1/\us.length<=1000/\(∀v∈us,0<=v/\v<=9)/\Q (.bl true) S1):E (sT (gA (bX [none] (i0 f) (bQ 0) cz (jG Ed Ed (cF (.int 0)) (ak 0) (cF (.int 9)))))) Γ S Q:=by
 refine CD (oU (iP (α:=Int) (fun Γ'=>∃a,Γ'= [a]) D.int (fun _=>.bl true) ⟨none,rfl⟩ ?_))
 refine h.mono fun p S1 ⟨us,e1,st,hl,hv,q⟩=>⟨us,e1,st,hl,fun v hm Γ' hΓ=> ?_,rfl,_,mL us,by simpa using q⟩
 obtain⟨a,rfl⟩:=hΓ
 refine a_ ⟨rfl,⟨_,rfl⟩,?_⟩
 obtain⟨h0,h9⟩:=hv v hm
 apply HV ?_
 refine⟨_,rfl,?_⟩
 rw[Qeq h0,Qhq rfl]
 symm
 exact⟨by rw[Qeq h9],rfl⟩
def vo{i:Nat}{r:Rm}{rs:dt}(o:fE w)(x:cT w n s)(q2:pE w s)(hn:n<=60)(hr:w.rooms[i]?=some r)(hsr:s.rooms[i]?=some rs)(q:Q (.d (.bl true)) S):Fn ft [w.d,s.d,.int i] S Q:=by
 have ri:=x.rm i r rs hr hsr
 have orm:=o.rm r (mQg hr)
 have qi:=Q2.at q2 hsr
 have br:=ri.br
 have bl:=ri.bl
 have lv:=ri.lv
 have lb:=ri.lb
 have l1:=orm.l1
 have l2:=orm.l2
 refine cg ?_
 unfold j6
 symm
 apply av rfl ?_
 refine av (d:=rs.d) (a8 (by rw[gQm,hsr];rfl)) ?_
 refine eK rfl (ax (a_ (ax (a_ (ax (a_ (ax (a_ (ax (a_ (bu ?_)))))))))))
 have rest:T (aG (eL (gB (aK (aC (m4 false) (aC aQ (aC aQ (aC aQ (ak 0) (cF (.int 0))) (ak 2)) (cF (.int 1))) (cF (.str "when free")))) (aK (aC (m4 true) (ak 6) (bg au)))) (cA (cF (.bl false))) fR)
   (aG (iC (pY (aX (aC aQ (aC aQ (aC aQ (ak 0) (cF (.int 0))) (ak 2)) (cF (.int 3)))) (aX (ak 7))) (iA (nG 2 (aJ (iA (nG 2 (aJ (bQ 8) (aJ (bQ 9) dr)))) (aJ (bQ 10) dr)))) (aG (bj 11 (cO (bX [none,none] (i0 (aX (ak 10))) (iA (nG 2 (aJ (bQ 0) (aJ (bQ 1) dr)))) cz (ak 0))))
   (eL (GM (aK (eqQ true (aX (ak 11)) (gA (DJ (aX (ak 11)))))) (gB (aK (aC (m4 false) (ak 9) (cF (.str "row")))) (kc (anyI (aX (ak 11)))))) (cA (cF (.bl false))) fR)))
   (cA (sT (gA (bX [none] (i0 (aX (ak 3))) (bQ 0) cz (jG Ed Ed (cF (.int 0)) (ak 0) (cF (.int 9)))))))))
   [some w.d,some s.d,some (.int i),some (cD rs.vals),some (.int rs.within),some (cD rs.row),some (cD rs.ag),some (.tup (rs.aa.map eC)),none,none,none,none] S (fun o=>match o with
   |.nx _ S'=>Op (settle S .non S') fun p=>Q p.1 p.2|.rt d S'=>Op (settle S d S') fun p=>Q p.1 p.2|.rl l S'=>Op (dF S l S') fun p=>Q p.1 p.2|_=>False):=by
  have aa:T (aG (iC (pY (aX (aC aQ (aC aQ (aC aQ (ak 0) (cF (.int 0))) (ak 2)) (cF (.int 3)))) (aX (ak 7))) (iA (nG 2 (aJ (iA (nG 2 (aJ (bQ 8) (aJ (bQ 9) dr)))) (aJ (bQ 10) dr)))) (aG (bj 11 (cO (bX [none,none] (i0 (aX (ak 10))) (iA (nG 2 (aJ (bQ 0) (aJ (bQ 1) dr)))) cz (ak 0))))
    (eL (GM (aK (eqQ true (aX (ak 11)) (gA (DJ (aX (ak 11)))))) (gB (aK (aC (m4 false) (ak 9) (cF (.str "row")))) (kc (anyI (aX (ak 11)))))) (cA (cF (.bl false))) fR)))
    (cA (sT (gA (bX [none] (i0 (aX (ak 3))) (bQ 0) cz (jG Ed Ed (cF (.int 0)) (ak 0) (cF (.int 9))))))))
    [some w.d,some s.d,some (.int i),some (cD rs.vals),some (.int rs.within),some (cD rs.row),some (cD rs.ag),some (.tup (rs.aa.map eC)),none,none,none,none] S (fun o=>match o with
    |.nx _ S'=>Op (settle S .non S') fun p=>Q p.1 p.2|.rt d S'=>Op (settle S d S') fun p=>Q p.1 p.2|.rl l S'=>Op (dF S l S') fun p=>Q p.1 p.2|_=>False):=by
   apply bV (hX (mj ?_))
   apply av rfl ?_
   refine av (d:=r.d) (a8 (by rw[gQm,hr];rfl)) ?_
   symm
   refine av rfl ?_
   apply bS (ds:=r.aa.map Ey) ?_
   refine⟨⟨trivial,by simp only[lQm];omega⟩,?_⟩
   rw[zip_map]
   refine⟨fun _ Γ' S'=>(∃a b c d,Γ'= [some w.d,some s.d,some (.int i),some (cD rs.vals),some (.int rs.within),some (cD rs.row),some (cD rs.ag),some (.tup (rs.aa.map eC)),a,b,c,d])/\nE S S',⟨⟨_,_,_,_,rfl⟩,nE.refl⟩,fun _ _ _ _=>⟨trivial,trivial⟩,?_,?_⟩
   ·rintro j d Γ' S' hd ⟨⟨a,b,c,d1,rfl⟩,hb⟩
    rw[gQm] at hd
    obtain⟨p,hp,rfl⟩:=oQm.mp hd
    have hp':=hp
    rw[List.getElem?_zip_eq_some] at hp'
    obtain⟨k1,k2⟩:=qi.r4 r hr j p.2 p.1.1 p.1.2 hp'.2 hp'.1
    have kl:=ri.bb p.2 (mQg hp'.2)
    refine eK rfl (ax (eK rfl (ax (a_ (ax (a_ (bu ?_)))))))
    refine ax (a_ (bu ?_))
    refine bV (Cu (LV ?_))
    apply iP (α:=Int×Int) (fun Γ'=>∃a b,Γ'= [a,b]) pairD (fun p=>.int p.1) ⟨none,none,rfl⟩ ?_
    refine bS (ds:=p.2.map pairD) ?_
    refine⟨p.2,rfl,trivial,by omega,fun z hz Γ' hΓ=> ?_,?_⟩
    ·obtain⟨a,b,rfl⟩:=hΓ
     refine eK rfl (ax (a_ (ax (a_ (bu ?_)))))
     apply⟨rfl,⟨_,_,rfl⟩,?_⟩
     exact⟨rfl,rfl⟩
    have em:p.2.map (fun p=>D.int p.1)=(p.2.map (·.1)).map D.int:=by rw[QPq];rfl
    rw[em]
    apply eY (KS (fJ (Lj ?_)))
    refine b9 aP ?_
    apply oU (JC ?_)
    refine b9 aP ?_
    refine⟨rfl,p.2.map (·.1),rfl,⟨by rw[lQm];omega,k1⟩,?_⟩
    refine⟨⟨rfl,rfl,aP⟩,_,_,bZ _,bZ _,?_⟩
    rw[zV]
    refine aV (fun c=>by cases c) (fun _=> ?_)
    apply uI ?_
    refine pS ?_
    by_cases cr:p.1.2=("row":Str)
    ·rw[Qeq cr]
     refine aV (fun _=> ?_) (fun c=>by cases c)
     apply vM (Jh ?_)
     refine b9 aP ?_
     refine⟨rfl,p.2.map (·.1),rfl,?_⟩
     refine lu ?_
     have hz:(p.2.map (·.1)).any (· !=0)=false:=by
      rw[List.any_eq_false]
      intro v hv
      obtain⟨z,hz,rfl⟩:=Qkq.mp hv
      simp[k2 cr z hz]
     rw[hz]
     refine aV (fun c=>by cases c) (fun _=>cu ?_)
     exact⟨⟨_,_,_,_,rfl⟩,hb.app⟩
    ·rw[Qdq cr]
     refine aV (fun c=>by cases c) (fun _=> ?_)
     refine aV (fun c=>by cases c) (fun _=>cu ?_)
     exact⟨⟨_,_,_,_,rfl⟩,hb.app⟩
   ·rintro Γ' S' ⟨⟨a,b,c,d1,rfl⟩,hb⟩
    apply qE (zE ?_)
    refine bS (ds:=rs.vals.map D.int) ?_
    refine⟨rs.vals,rfl,trivial,by omega,ri.vv,?_⟩
    exact mQ hb (fun k z=>(nomatch z)) rfl q
  symm
  apply av rfl ?_
  refine av (d:=r.d) (a8 (by rw[gQm,hr];rfl)) ?_
  symm
  apply av (d:=.str r.ah) rfl ?_
  refine pS ?_
  by_cases c:r.ah="when free"
  ·rw[Qeq c]
   refine aV (fun _=> ?_) (fun c=>by cases c)
   have hl0:=qi.r3 r hr c
   symm
   refine⟨by decide,?_⟩
   refine zP (us:=rs.ag.map V.int) (vs:= []) (bZ _) rfl ?_
   rw[hl0]
   refine aV (fun c=>by cases c) (fun _=>cu ?_)
   rw[hl0] at aa
   exact aa
  ·rw[Qdq c]
   refine aV (fun c=>by cases c) (fun _=> ?_)
   refine aV (fun c=>by cases c) (fun _=>cu ?_)
   exact aa
 rcases qi.r2 with hw|⟨g,hw,hgN,hgi⟩
 ·obtain⟨e1,e2⟩:=qi.r1 hw
  symm
  rw[Qeq (show rs.within<0 by omega)]
  apply aV (fun _=> ?_) (fun c=>by cases c)
  refine et (i:=rs.row.map D.int) (j:=rs.ag.map D.int) (by simp only[lQm];exact jI (by omega)) ?_
  symm
  refine⟨by decide,?_⟩
  refine zP (us:=(rs.row++rs.ag).map V.int) (vs:= []) (by rw[←Qzq];exact bZ _) rfl ?_
  rw[e1,e2]
  refine aV (fun c=>by cases c) (fun _=>cu ?_)
  rw[e1,e2] at rest
  symm
  rw[Qdq (show¬(0:Int)<=rs.within by omega)]
  refine aV (fun c=>by cases c) (fun _=> ?_)
  refine aV (fun c=>by cases c) (fun _=>cu ?_)
  exact rest
 ·symm
  rw[Qdq (show¬rs.within<0 by omega)]
  refine aV (fun c=>by cases c) (fun _=> ?_)
  apply aV (fun c=>by cases c) (fun _=>cu ?_)
  rw[Qeq (show(0:Int)<=rs.within by omega)]
  refine aV (fun _=> ?_) (fun c=>by cases c)
  obtain⟨⟨vs,fs⟩,hs⟩:∃p,s.af[g]?=some p:=⟨_,gQe hgN⟩
  obtain⟨ts,pr,hwh,hi⟩:=x.whand hs
  have lf:=hi.lf
  rw[ic hs] at hgi
  obtain⟨f,hfm,hrc⟩:=Qkq.mp hgi
  have hroom:f.room=(i:Int):=by
   unfold rc at hrc
   split at hrc
   ·split at hrc <;>omega
   ·exact hrc
  apply fJ (xA ?_)
  apply iP (α:=cG) (fun Γ'=>∃a,Γ'= [a]) cG.d (fun f=>.int f.room) ⟨none,rfl⟩ ?_
  apply av rfl ?_
  rw[hw]
  refine av (d:=AR (vs,fs)) (a8 (by rw[gQm,hs];rfl)) ?_
  symm
  refine av rfl ?_
  refine bS (ds:=fs.map cG.d) ?_
  refine⟨fs,rfl,trivial,by omega,fun z hz Γ' hΓ=> ?_,?_⟩
  ·obtain⟨a,rfl⟩:=hΓ
   apply a_ ⟨rfl,⟨_,rfl⟩,?_⟩
   exact av (d:=.int z.room) rfl ⟨rfl,rfl⟩
  have em:fs.map (fun f=>D.int f.room)=(fs.map (·.room)).map D.int:=by rw[QPq];rfl
  rw[em]
  refine⟨_,_,rfl,bZ _,?_⟩
  rw[jk,Qeq (Qkq.mpr ⟨f,hfm,hroom⟩)]
  refine aV (fun c=>by cases c) (fun _=>cu ?_)
  rw[hw] at rest
  exact rest
def Fv(o:fE w)(x:cT w n s)(q2:pE w s)(hn:n<=60)(q:Q (.d (.bl true)) S):Fn jw [w.d,s.d] S Q:=by
 have b1:=o.l1
 have b2:=o.l2
 have b3:=o.l3
 have b4:=o.l4
 have lr:=x.lr
 have lp:=x.lp
 have lh:=x.lh
 have ls:=x.ls
 refine cg ?_
 unfold qO
 refine bV (eY (BD (vM (CD (oU ?_)))))
 apply pD (α:=Nat) (fun Γ'=>∃a,Γ'= [a,some w.d,some s.d]) (fun(i:Nat)=>D.int (0+(i:Int))) (fun _=>.bl true) (fun _=>true) ⟨none,rfl⟩ ?_
 apply av rfl ?_
 refine⟨(w.af.length:Nat),by rw[lQm],by omega,?_⟩
 refine⟨List.range w.af.length,by simp only[jR];rfl,trivial,by simp;omega,fun g hg Γ' hΓ=> ?_,?_⟩
 ·obtain⟨a,rfl⟩:=hΓ
  have hg:=List.mem_range.mp hg
  obtain⟨⟨vs,fs⟩,hs⟩:∃p,s.af[g]?=some p:=⟨_,gQe (by omega)⟩
  refine a_ ⟨rfl,⟨_,rfl⟩,t8 ⟨rfl,rfl,fun _=> ?_⟩⟩
  rw[Int.zero_add]
  symm
  exact uY o x q2 (by omega) hs ⟨rfl,rfl⟩
 rw[List.filter_eq_self.mpr (fun _ _=>rfl)]
 refine⟨rfl,_,mL _,?_⟩
 refine lu ?_
 refine aV (fun c=>by simp at c) (fun _=>cu ?_)
 apply bV (eY (BD (vM (zE ?_))))
 apply av rfl ?_
 apply iP (α:=Int×List Int) (fun Γ'=>∃a,Γ'= [a]) vw (fun p=>.int p.1) ⟨none,rfl⟩ ?_
 refine av rfl ?_
 refine bS (ds:=s.passes.map vw) ?_
 refine⟨s.passes,rfl,trivial,by omega,fun p hp Γ' hΓ=> ?_,?_⟩
 ·obtain⟨a,rfl⟩:=hΓ
  apply a_ ⟨rfl,⟨_,rfl⟩,?_⟩
  exact av (d:=.int p.1) rfl ⟨rfl,rfl⟩
 have em:s.passes.map (fun p=>D.int p.1)=(s.passes.map (·.1)).map D.int:=by rw[QPq];rfl
 rw[em]
 symm
 refine et (i:=s.shared.map D.int) (by simp only[lQm];exact jI (by omega)) ?_
 refine bS ?_
 refine⟨s.shared++s.passes.map (·.1),by rw[Qzq],trivial,by simp;omega,fun v hv=> ?_,?_⟩
 ·rcases mQa.mp hv with hv|hv
  ·exact x.sv v hv
  ·obtain⟨p,hp,rfl⟩:=Qkq.mp hv
   exact(q2.pv p hp).1
 refine lu ?_
 refine aV (fun c=>by cases c) (fun _=>cu ?_)
 refine bV (eY (BD (vM (CD (oU ?_)))))
 apply iP (α:=Int×List Int) (fun Γ'=>∃a,Γ'= [a]) vw (fun _=>.bl true) ⟨none,rfl⟩ ?_
 refine av rfl ?_
 refine bS (ds:=s.passes.map vw) ?_
 refine⟨s.passes,rfl,trivial,by omega,fun p hp Γ' hΓ=> ?_,?_⟩
 ·obtain⟨a,rfl⟩:=hΓ
  refine a_ ⟨rfl,⟨_,rfl⟩,?_⟩
  have pv:=(q2.pv p hp).2
  apply Ma ?_
  apply av (d:=.int p.1) rfl ?_
  refine Fc ?_
  refine⟨_,rfl,?_⟩
  by_cases c:p.1=0
  ·rw[Qeq c,Qhq rfl]
   exact⟨rfl,rfl⟩
  ·rw[Qdq c,Quq (by decide)]
   have hl0:p.2= []:=pv.resolve_left c
   symm
   apply av (d:=cD p.2) rfl ?_
   refine⟨by decide,?_⟩
   refine K0 (us:=p.2.map V.int) (vs:= []) (bZ _) rfl ?_
   rw[hl0]
   exact⟨rfl,rfl⟩
 refine⟨rfl,_,mL _,?_⟩
 refine lu ?_
 refine aV (fun c=>by simp at c) (fun _=>cu ?_)
 refine qE (CD (oU ?_))
 apply pD (α:=Nat) (fun Γ'=>∃a,Γ'= [a,some w.d,some s.d]) (fun(i:Nat)=>D.int (0+(i:Int))) (fun _=>.bl true) (fun _=>true) ⟨none,rfl⟩ ?_
 apply av rfl ?_
 refine⟨(w.rooms.length:Nat),by rw[lQm],by omega,?_⟩
 refine⟨List.range w.rooms.length,by simp only[jR];rfl,trivial,by simp;omega,fun g hg Γ' hΓ=> ?_,?_⟩
 ·obtain⟨a,rfl⟩:=hΓ
  have hg:=List.mem_range.mp hg
  refine a_ ⟨rfl,⟨_,rfl⟩,t8 ⟨rfl,rfl,fun _=> ?_⟩⟩
  rw[Int.zero_add]
  symm
  exact vo o x q2 hn (gQe hg) (gQe (by omega)) ⟨rfl,rfl⟩
 rw[List.filter_eq_self.mpr (fun _ _=>rfl)]
 refine⟨rfl,_,mL _,?_⟩
 have:(List.replicate (List.range w.rooms.length).length true).all id=true:=by simp
 rw[this]
 exact cU (fun k z=>(nomatch z)) rfl q
end
def Gs:∀ns:List Int,ns.length<=63->∃S',G1 [.ref 0] [.frz (ns.map D.int)]=some (.d (.bl true),S'):=by
 intro ns hns
 suffices h:Fn G1 [.ref 0] [.frz (ns.map D.int)] fun r _=>r=.d (.bl true) by
  obtain⟨r,S',e,rfl⟩:=h
  exact⟨S',e⟩
 refine cg ?_
 unfold Le
 refine bV (hX ?_)
 apply II ?_
 apply F1 rfl ?_
 apply Gb ?_
 refine Iv ?_
 obtain⟨m,hm,hm4⟩:∃m:Nat,(if (if (5:Int)<((ns.map D.int).length:Nat) then(5:Int) else((ns.map D.int).length:Nat))>(1:Int) then(if (5:Int)<((ns.map D.int).length:Nat) then(5:Int) else((ns.map D.int).length:Nat)) else 1)=(m:Int)/\m<=5:=by
  refine⟨(if (if (5:Int)<((ns.map D.int).length:Nat) then(5:Int) else((ns.map D.int).length:Nat))>(1:Int) then(if (5:Int)<((ns.map D.int).length:Nat) then(5:Int) else((ns.map D.int).length:Nat)) else 1).toNat,?_,?_⟩ <;>(repeat' split) <;>omega
 refine⟨m,congrArg D.int hm,by omega,?_⟩
 refine⟨fun n Γ' S'=>(∃a1 a2 a3 a4 a5 a6 a7,Γ'= [some (.ref 0),a1,a2,a3,a4,a5,a6,a7])/\S'[0]?=some (.frz (ns.map D.int)),⟨⟨_,_,_,_,_,_,_,rfl⟩,rfl⟩,fun _ _ _ _=>trivial,?_,?_⟩
 ·rintro n d Γ' S hd ⟨⟨a1,a2,a3,a4,a5,a6,a7,rfl⟩,hS⟩
  obtain⟨rfl,_⟩:=As hd
  apply a_ ?_
  apply Kr hS fun pa pb=> ?_
  have pot0:Ex S.length (S++ [pA pa pb 0]) (S++ [pA pa pb 0]):=Ex.refl aP
  have hS0:(S++ [pA pa pb 0])[0]?=some (.frz (ns.map D.int)):=bh hS
  have h0:0≠S.length:=by
   have:=(gQs.mp hS).1
   omega
  show Fn eM [.ref S.length] (S++ [pA pa pb 0]) _
  generalize S.length=kp at pot0 h0⊢
  generalize S++ [pA pa pb 0]=S1 at pot0 hS0⊢
  apply xw pot0 fun w S2 ok x2 _ _=> ?_
  apply FK ok ?_
  apply lR ?_
  refine⟨1,rfl,?_⟩
  apply hX (II ?_)
  refine⟨(40:Nat),rfl,by decide,?_⟩
  refine⟨fun j Γ' S'=>(∃(s:bK) (last:Int) (b6 b7:Option D),Γ'= [some (.ref 0),some (.int n),some (.ref kp),some w.d,some s.d,some (.int last),b6,b7]/\cT w (1+j) s/\pE w s)/\Ex kp S1 S',?_,fun _ _ _ _=>trivial,?_,?_⟩
  ·exact⟨⟨cE w,-1,_,_,rfl,DG ok,pE.begun ok⟩,x2⟩
  ·rintro j d Γ' S' hd ⟨⟨s,last,b6,b7,rfl,hinv,hq2⟩,hex⟩
   obtain⟨rfl,hj⟩:=As (j:=40) hd
   refine a_ ?_
   have hm:=hinv.mays ok (by omega)
   symm
   apply Fv ok hinv hq2 (by omega) ?_
   refine lu ?_
   refine aV (fun c=>by cases c) (fun _=>cu ?_)
   have hkl:kp<S'.length:=hex.lt
   symm
   apply hm _ _ ?_
   apply b9 aP ?_
   apply⟨⟨rfl,aP⟩,?_⟩
   by_cases hm0:t_ w s= []
   ·rw[hm0]
    refine aV (fun c=>by cases c) (fun _=>cu ?_)
    exact⟨⟨s,last,_,_,rfl,hinv.mono (by omega),hq2⟩,hex.app⟩
   ·have hpos:0<(t_ w s).length:=List.length_pos_iff.mpr hm0
    have hne:(!((t_ w s).map AN).isEmpty)=true:=by
     cases hc:t_ w s with
     |nil=>exact absurd hc hm0
     |cons a l=>rfl
    rw[hne,Qhq rfl]
    have hml:(t_ w s).length<=4:=by
     have h1:=List.length_filter_le (fun h:Nat=> !decide ((h:Int)∈held s)&& !Af w s h) (List.range s.af.length)
     have h2:=hinv.lh
     have h3:=ok.l4
     rw[QVq] at h1
     unfold t_
     omega
    symm
    refine G4 (S0:=S1) hex.app (by omega) aP hpos (by omega) fun h S4 hh e1 _ _=> ?_
    have hhl:h<s.af.length:=List.mem_range.mp (List.mem_filter.mp hh).1
    obtain⟨⟨vs,fs⟩,hs⟩:∃p,s.af[h]?=some p:=⟨_,gQe hhl⟩
    obtain⟨ts,pr,hw,hi⟩:=hinv.whand hs
    obtain⟨f,hf,fi⟩:=hi.last
    obtain⟨s',e,hst,hi',hq'⟩:=G_ ok hinv hq2 (by omega) hh hs hf
    symm
    apply BN hm hh hst ?_
    refine av (d:=s'.d) rfl ?_
    exact⟨⟨s',h,_,_,rfl,hi'.mono (by omega),hq'⟩,e1⟩
  ·rintro Γ' S' ⟨⟨s,last,b6,b7,rfl,hinv,hq2⟩,hex⟩
   exact⟨⟨_,_,_,_,_,_,_,rfl⟩,hex.keep _ _ h0 hS0⟩
 ·rintro Γ' S' ⟨⟨a1,a2,a3,a4,a5,a6,a7,rfl⟩,hS⟩
  symm
  have hl:=(gQs.mp hS).1
  refine iO (S2:= [.frz (ns.map D.int)]) ⟨by show 1<=S'.length;omega,fun k o hk e=> ?_⟩ ?_ (fun k z=>(nomatch z)) rfl rfl
  ·have hk:k<1:=hk
   have:k=0:=by omega
   subst this
   rw[hS] at e
   exact .inl e
  ·cases S' with
   |nil=>simp at hl
   | cons a l=>
     simp at hS
     subst hS
     rfl
end W28
open PySem PySem.W PyProof.Rows L2 DL
theorem PySem.Challenge.cw_calledroom_k16_whole_one_place_each_holds : PySem.Challenge.rw_calledroom_k16_whole_one_place_each.Holds := by
  w_on; o_law; k_head; (case hw => w_witness2)
  k_fill
  refine DL.KN (l := PySem.Challenge.rw_calledroom_k16_whole_one_place_each) (k := 14) rfl rfl ⟨rfl, by decide, by decide⟩ (fun w h Y => PySem.W.kIn_of Y) (fun w => ?nl) ?F
  case nl => rfl
  case F =>
    intro w mg fa h KX G hmg
    refine' W28.all_mk KX G hmg ?_ ?_ ?_ ?_ ?_ ?_ ?_ ?_ ?_ ?_ ?_ ?_ ?_ ?_ ?_ ?_ ?_ ?_ ?_ ?_ ?_ ?_ ?_ ?_ ?_ ?_ ?_ ?_ ?_ ?_ ?_ ?_ ?_ ?_ ?_ ?_ ?_ ?_ ?_ ?_ ?_ ?_ ?_ ?_ ?_ ?_ ?_ ?_ ?_ ?_ ?_ ?_ ?_ ?_ ?_ ?_ ?_ ?_ ?_ ?_ ?_ ?_ ?_ ?_ ?_ ?_ ?_ ?_ ?_ ?_ ?_ ?_ ?_ ?_ ?_ ?_ ?_ ?_ ?_ ?_ ?_ ?_ ?_ ?_ ?_ ?_ ?_ ?_ ?_ ?_ ?_ W28.Gs
    any_goals first | exact DL.bq.of (by k_is) (by k_is) (by k_is) (by k_is) | k_is
