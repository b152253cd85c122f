import PyProof.Rows.All
import Wide.FinOn
import KE.KEqDict
import KE.KSortTup
import KE.KUnpack
import KE.KDictOf
import KE.KFromBytes
import KE.KIsAll
import PySem.Challenge.RW_calledroom_k18_a_row_of_hands
set_option Elab.async false
set_option linter.all false
set_option maxRecDepth 100000
set_option maxHeartbeats 8000000
namespace PySem.W.Fast
def tw16845347894314425582:True:=⟨⟩
def tw3931081693101516920:True:=⟨⟩
def tw14790902188490654611:True:=⟨⟩
def tw14107789904945561420:True:=⟨⟩
def tw12633282940452260648:True:=⟨⟩
def tw11390701154251191351:True:=⟨⟩
def tw12464459213180408022:True:=⟨⟩
def tw5493262561604385108:True:=⟨⟩
def tw11402099605656429994:True:=⟨⟩
def tw5365110974940244660:True:=⟨⟩
def tw9299235844235776866:True:=⟨⟩
def tw14956191190467966767:True:=⟨⟩
def tw2884572584854543457:True:=⟨⟩
def tw15209799950955483120:True:=⟨⟩
def tw2378342497040929653:True:=⟨⟩
def tw1960205290342132853:True:=⟨⟩
def tw8749430239909103968:True:=⟨⟩
def tw2592109050176853444:True:=⟨⟩
def tw4725027352620955970:True:=⟨⟩
def tw343379084866705527:True:=⟨⟩
def tw12775698897605388055:True:=⟨⟩
def tw16381755364759395710:True:=⟨⟩
def tw7209426274537945732:True:=⟨⟩
def tw11646843502986644854:True:=⟨⟩
def tw15464712033990951144:True:=⟨⟩
def tw9528852344533111111:True:=⟨⟩
def tw15061277965655632556:True:=⟨⟩
def tw15431012874330101453:True:=⟨⟩
def tw10332234343810383622:True:=⟨⟩
def tw8081068184905274328:True:=⟨⟩
def tw4194071254300164220:True:=⟨⟩
def tw7964339916175818837:True:=⟨⟩
def tw2054503453365804956:True:=⟨⟩
def tw1691670003032484533:True:=⟨⟩
def tw5317244073052166325:True:=⟨⟩
def tw13677794527587040865:True:=⟨⟩
def tw10434914937791483887:True:=⟨⟩
def tw16577916163106801117:True:=⟨⟩
def tw8506987649469139195:True:=⟨⟩
def tw17027642256590901115:True:=⟨⟩
def tw1561429760859496339:True:=⟨⟩
def tw16360700765828935168:True:=⟨⟩
def tw2427212332490996875:True:=⟨⟩
def tw2313574432046347809:True:=⟨⟩
def tw13729644179278136838:True:=⟨⟩
def tw12427368701837211651:True:=⟨⟩
def tw8515640374943320913:True:=⟨⟩
def tw1185585619057487363:True:=⟨⟩
def tw17855841827317171568:True:=⟨⟩
def tw14415370981764054678:True:=⟨⟩
def tw5451391058146678872:True:=⟨⟩
def tw10388082501758943690:True:=⟨⟩
def tw10783102788013519796:True:=⟨⟩
def tw7963887167976448272:True:=⟨⟩
def tw7213945527989571770:True:=⟨⟩
def tw11675827232294231195:True:=⟨⟩
def tw10428095006644690654:True:=⟨⟩
def tw2040818628001626657:True:=⟨⟩
def tw9506357218621890002:True:=⟨⟩
def tw16528210605345894870:True:=⟨⟩
def tw11551039619049263179:True:=⟨⟩
def tw15489500503792966389:True:=⟨⟩
def tw5242489416916337013:True:=⟨⟩
def tw1415400544649145077:True:=⟨⟩
def tw11853300581387102184:True:=⟨⟩
def tw5268317274184873840:True:=⟨⟩
def tw18098939507501324093:True:=⟨⟩
def tw13873307493044668684:True:=⟨⟩
def tw1463778222782254144:True:=⟨⟩
def tw5066831076413850234:True:=⟨⟩
def tw5056971601042049466:True:=⟨⟩
def tw4146973754667466587:True:=⟨⟩
def tw2297827032064451824:True:=⟨⟩
def tw746414544149607787:True:=⟨⟩
def tw2032565501287652722:True:=⟨⟩
def tw5045932554306430796:True:=⟨⟩
def tw8516324634103751106:True:=⟨⟩
def tw13564044732361545897:True:=⟨⟩
def tw17056243288585000390:True:=⟨⟩
def tw4698828428269879761:True:=⟨⟩
def tw10218641498229616707:True:=⟨⟩
def tw10803553462249769826:True:=⟨⟩
def tw3293574779257858874:True:=⟨⟩
def tw15181377402243169992:True:=⟨⟩
def tw9545584159867087922:True:=⟨⟩
def tw3210174295289178666:True:=⟨⟩
def tw9373926665953390841:True:=⟨⟩
def tw10595327682512304803:True:=⟨⟩
def tw14999886534997935280:True:=⟨⟩
def tw6620845623083998304:True:=⟨⟩
def tw4186036482295444223:True:=⟨⟩
def tw14244573703155111886:True:=⟨⟩
def tw8516512917303631874:True:=⟨⟩
def tw11665265698572564042:True:=⟨⟩
def tw4882901274959922984:True:=⟨⟩
def tw9471131436020563427:True:=⟨⟩
def tw6698817476582506625:True:=⟨⟩
def tw15661703339783071756:True:=⟨⟩
def tw12247875419135881092:True:=⟨⟩
def tw2295636037048421374:True:=⟨⟩
def tw11165126847771970312:True:=⟨⟩
def tw4004300107854167782:True:=⟨⟩
def tw3590117745912963154:True:=⟨⟩
def tw7985823882211635370:True:=⟨⟩
def tw5863180699048739971:True:=⟨⟩
def tw11007110415312801635:True:=⟨⟩
def tw12747411633588526983:True:=⟨⟩
def tw12276137598562611016:True:=⟨⟩
def tw8909648259876263819:True:=⟨⟩
def tw15892596909290456786:True:=⟨⟩
def tw6722063586399229161:True:=⟨⟩
def tw5269640229374283148:True:=⟨⟩
def tw15021848401734617007:True:=⟨⟩
def tw8437959705328720314:True:=⟨⟩
def tw17705843886277229210:True:=⟨⟩
def tw17721528577494974267:True:=⟨⟩
def tw8401848179297970062:True:=⟨⟩
def tw11426085463010296173:True:=⟨⟩
def tw9578177289025743800:True:=⟨⟩
def tw5005736109788258639:True:=⟨⟩
def tw4492293320182929373:True:=⟨⟩
def tw1176654900525485350:True:=⟨⟩
def tw15179465247249819516:True:=⟨⟩
def tw3449798743590228623:True:=⟨⟩
def tw10308298995638311477:True:=⟨⟩
end PySem.W.Fast
set_option bootstrap.genMatcherCode false
set_option compiler.extract_closed false
noncomputable section
local macro_rules|`(tactic|omega)=>`(tactic|lia)
abbrev gQm:=@List.getElem?_map
abbrev lQm:=@List.length_map
abbrev mQg:=@List.mem_of_getElem?
abbrev oQm:=@Option.map_eq_some_iff
abbrev gQe:=@List.getElem?_eq_getElem
abbrev gQs:=@List.getElem?_eq_some_iff
abbrev lQa:=@List.length_append
abbrev nQl:=@Nat.le_of_lt
abbrev mQa:=@List.mem_append
abbrev Qaq:=@PySem.wpAny_bind
abbrev Qbq:=@Option.bind_some
abbrev Qcq:=@PySem.Heap.get?_push_of_some
abbrev Qdq:=@decide_eq_false
abbrev Qeq:=@decide_eq_true
abbrev Qfq:=@List.mem_singleton
abbrev Qgq:=@PySem.wpAny_pure
abbrev Qhq:=@if_pos
abbrev Qiq:=@PySem.Heap.lt_size
abbrev Qjq:=@List.size_toArray
abbrev Qkq:=@List.mem_map
abbrev Qlq:=@List.getD_eq_getElem?_getD
abbrev Qmq:=@Nat.le_refl
abbrev Qnq:=@List.length_cons
abbrev Qoq:=@List.mem_append_right
abbrev Qpq:=@List.mem_cons_of_mem
abbrev Qqq:=@Nat.lt_of_lt_of_le
abbrev Qrq:=@PySem.Heap.get?_push_size
abbrev Qsq:=@List.mem_cons
abbrev Qtq:=@Bool.false_ne_true
abbrev Quq:=@if_neg
abbrev Qvq:=@List.append_assoc
abbrev Qwq:=@Nat.ne_of_lt
abbrev Qxq:=@List.length_take
abbrev Qyq:=@List.getElem?_set_self
abbrev Qzq:=@List.map_append
abbrev QAq:=@Nat.le_trans
abbrev QBq:=@List.mem_cons_self
abbrev QCq:=@Bool.and_eq_true
abbrev QDq:=@List.map_cons
abbrev QEq:=@List.take_length
abbrev QFq:=@PySem.W.mg_none_of
abbrev QGq:=@List.length_nil
abbrev QHq:=@List.getElem?_append_left
abbrev QIq:=@List.length_replicate
abbrev QJq:=@List.Perm.append_right
abbrev QKq:=@List.getElem?_set_ne
abbrev QLq:=@PySem.wpAny_holding
abbrev QMq:=@PySem.wpAny_field
abbrev QNq:=@List.replicate_succ
abbrev QOq:=@List.mem_flatMap
abbrev QPq:=@List.map_map
abbrev QQq:=@List.getElem?_append_right
abbrev QRq:=@PySem.wpAny_mono
abbrev QSq:=@List.flatMap_cons
abbrev QTq:=@List.mem_or_eq_of_mem_set
abbrev QUq:=@List.all_eq_true
abbrev QVq:=@List.length_range
abbrev QWq:=@List.drop_eq_getElem_cons
abbrev QXq:=@List.not_mem_nil
abbrev QYq:=@List.take_add_one
abbrev QZq:=@of_decide_eq_true
abbrev QaQ:=@of_decide_eq_false
abbrev QbQ:=@List.getElem_of_mem
abbrev QcQ:=@List.mem_of_getLast?
abbrev QdQ:=@Option.some.inj
abbrev QeQ:=@List.of_mem_zip
abbrev QfQ:=@List.getLast?_map
abbrev QgQ:=@PySem.wpAny_ite_false
abbrev QhQ:=@PySem.wpAny_newObj_type
abbrev QiQ:=@PySem.wpAny_callSpecial?_slot
abbrev QjQ:=@List.Sublist.refl
abbrev QkQ:=@List.eq_of_mem_replicate
abbrev QlQ:=@List.map_replicate
namespace L2
open PySem PySem.Spec PyProof.Rows
abbrev Key:=Sum Int Str
def iU:Key->Value->Bool
 |.inl k,v=>Value.isInt k v
 |.inr x,v=>Value.isStrOf x v
def Jj(w:World):Key->Int
 |.inl k=>hashInt k
 |.inr x=>hashStr w x
def cu:∀{k:Key} {v:Value},iU k v=true->(∃i t,k=Sum.inl i/\v=Value.int i t)\/(∃x t,k=Sum.inr x/\v=Value.str x t)
 | .inl i,v,h=>by
   obtain⟨t,e⟩:=Value.isInt_shape (k:=i) (v:=v) h
   exact .inl ⟨i,t,rfl,e⟩
 | .inr x,v,h=>by
   obtain⟨t,e⟩:=Value.isStrOf_shape (x:=x) (v:=v) h
   exact .inr ⟨x,t,rfl,e⟩
def ze(i:Int)(t:Tok):iU (.inl i) (.int i t)=true:=by simp[iU,Value.isInt]
def mi(x:Str)(t:Tok):iU (.inr x) (.str x t)=true:=by simp[iU,Value.isStrOf]
def Fj(a b:Int):decide ((Sum.inl a:Key)=Sum.inl b)=(a==b):=by
 by_cases e:a=b
 ·subst e;simp
 ·have h:¬(Sum.inl a:Key)=Sum.inl b:=λq=>e (Sum.inl.inj q)
  rw[Qdq h]
  exact(beq_eq_false_iff_ne.mpr e).symm
def E7(a b:Str):decide ((Sum.inr a:Key)=Sum.inr b)=decide (a=b):=by
 by_cases e:a=b
 ·subst e;simp
 ·have h:¬(Sum.inr a:Key)=Sum.inr b:=λq=>e (Sum.inr.inj q)
  rw[Qdq h,Qdq e]
def E6(a:Int)(b:Str):decide ((Sum.inl a:Key)=Sum.inr b)=false:=Qdq (λq=>nomatch q)
def EX(a:Str)(b:Int):decide ((Sum.inr a:Key)=Sum.inl b)=false:=Qdq (λq=>nomatch q)
def bg(prog:Program)(w:World):PySem.KeyKind prog w Key where
 is:=iU
 hash:=Jj w
 inj:=λv a b g f=>by
  rcases cu g with⟨i,t,rfl,rfl⟩|⟨x,t,rfl,rfl⟩
  ·rcases cu f with⟨j,u,rfl,e⟩|⟨y,u,rfl,e⟩
   ·injection e with c _;rw[c]
   ·exact nomatch e
  ·rcases cu f with⟨j,u,rfl,e⟩|⟨y,u,rfl,e⟩
   ·exact nomatch e
   ·injection e with c _;rw[c]
 byValue:=λk v h=>by
  rcases cu h with⟨i,t,rfl,rfl⟩|⟨x,t,rfl,rfl⟩ <;>rfl
 pyHash:=λd h=>by
  rcases cu d with⟨i,t,rfl,rfl⟩|⟨x,t,rfl,rfl⟩
  ·exact wpAny_pyHash_int h
  ·exact wpAny_pyHash_str h
 eqBool:=λl d h=>by
  rcases cu l with⟨i,t,rfl,rfl⟩|⟨x,t,rfl,rfl⟩
  ·rcases cu d with⟨j,u,rfl,rfl⟩|⟨y,u,rfl,rfl⟩
   ·rw[Fj] at h;exact wpAny_eqBool_int h
   ·rw[E6] at h;exact SeqAt.EqAt.int_str i t y u _ _ _ _ h
  ·rcases cu d with⟨j,u,rfl,rfl⟩|⟨y,u,rfl,rfl⟩
   ·rw[EX] at h;exact SeqAt.EqAt.str_int x t j u _ _ _ _ h
   ·rw[E7] at h;exact wpAny_eqBool_str h
 «strs»:=λk x t v h=>by
  rcases cu h with⟨i,u,rfl,e⟩|⟨y,u,rfl,e⟩
  ·exact nomatch e
  ·injection e with c _
   subst c
   cases v <;>rfl
def w_(prog:Program)(w:World)(k:Key)(v:Value):(bg prog w).is k v=iU k v:=rfl
def uJ(prog:Program)(w:World)(i:Int)(t:Tok):(bg prog w).is (.inl i) (.int i t)=true:=ze i t
def uT(prog:Program)(w:World)(x:Str)(t:Tok):(bg prog w).is (.inr x) (.str x t)=true:=mi x t
inductive V where
 |non|bl (b:Bool)|int (i:Int)|str (x:Str)|byt (b:Array UInt8)|flt (b:UInt64)|ref (a:Addr)|ty (n:String)
 deriving DecidableEq
def RelV:V->Value->Prop
 |.non,u=>u=Value.none
 |.bl b,u=>u=Value.bool b
 |.int i,u=>∃t,u=Value.int i t
 |.str x,u=>∃t,u=Value.str x t
 |.byt b,u=>∃t,u=Value.bytes b t
 |.flt b,u=>∃t,u=Value.float b t
 |.ref a,u=>u=Value.ref a
 |.ty n,u=>u=Value.type n
abbrev a_:List V->List Value->Prop:=Paired RelV
def a_.length{xs:List V}{a:List Value}(r:a_ xs a):xs.length=a.length:=Paired.length r
theorem a_.get:∀{xs:List V} {a:List Value} {i:Nat} {x:V},a_ xs a->xs[i]?=some x->∃u,a[i]?=some u/\RelV x u
 |_,_,_,_,.nil,e=>by simp at e
 |_,_,0,_,.cons r _,e=>by simp at e;subst e;exact⟨_,rfl,r⟩
 | _,_,i+1,x,.cons _ t,e=>by
   obtain⟨u,b,c⟩:=a_.get (i:=i) (x:=x) t (by simpa using e)
   exact⟨u,by simpa using b,c⟩
theorem a_.set{x:V}{u:Value}(r:RelV x u):∀{xs:List V} {a:List Value} (i:Nat),a_ xs a->a_ (xs.set i x) (a.set i u)
 |_,_,_,.nil=>.nil
 |_,_,0,.cons _ t=>.cons r t
 |_,_,i+1,.cons q t=>.cons q (a_.set r i t)
theorem a_.append:∀{xs ys:List V} {a ws:List Value},a_ xs a->a_ ys ws->a_ (xs++ys) (a++ws)
 |_,_,_,_,.nil,s=>s
 |_,_,_,_,.cons r t,s=>.cons r (a_.append t s)
theorem a_.take:∀{xs:List V} {a:List Value} (n:Nat),a_ xs a->a_ (xs.take n) (a.take n)
 |_,_,0,_=>.nil
 |_,_,_+1,.nil=>.nil
 |_,_,n+1,.cons r t=>.cons r (a_.take n t)
theorem a_.drop:∀{xs:List V} {a:List Value} (n:Nat),a_ xs a->a_ (xs.drop n) (a.drop n)
 |_,_,0,r=>r
 |_,_,_+1,.nil=>.nil
 |_,_,n+1,.cons _ t=>a_.drop n t
def p8:Option V->Option Value->Prop
 |some v,some u=>RelV v u
 |none,none=>True
 |_,_=>False
def KV{a:Type}:List (a×V)->List (a×Value)->Prop:=Paired λ(p:a×V) (q:a×Value)=>p.1=q.1/\RelV p.2 q.2
def kV:Key->V
 |.inl i=>.int i
 |.inr x=>.str x
inductive HO where
 |lst (xs:List V)
 |tup (xs:List V)
 |dK (kvs:List (Key×V))|dT (kvs:List (List Key×V))
 |set (S:Int->Bool) (n:Nat)
 |ins (C dx:Addr) (fs:List (Str×V))
 |own (x:Addr)
 |xd (fs:List (Str×V))
 |met (f x:Addr)
 |rng (lo hi:Int)
 |frz (o:Obj) (u:HO)
 |tbl (ps:Array Value)
 |ext (φ:Heap->Prop)
abbrev Hp:=Addr->Option HO
def upd(H:Hp)(a:Addr)(o:HO):Hp:=λb=>if b=a then some o else H b
def aR{H:Hp}{a:Addr}{o:HO}:upd H a o a=some o:=by unfold upd;rw[Qhq rfl]
def aM{H:Hp}{a b:Addr}{o:HO}(h:b≠a):upd H a o b=H b:=by unfold upd;rw[Quq h]
def AM{H:Hp}{a b:Addr}{o u:HO}(h:H a=some o)(h':H b=some u)(d:o≠u):a≠b:=by
 intro e;subst e;rw[h] at h';exact d (QdQ h')
def dH{H:Hp}{a b:Addr}{o:HO}(h:H a=some o)(h':H b=none):a≠b:=by
 intro e;subst e;rw[h] at h';cases h'
def qM(h:Heap)(a:Addr)(items:Array Value):Prop:=∃o,h.get? a=some o/\o.cls=.type "tuple" /\o.dict=none/\∃n,o.data=.seq items n
def qM.it{h:Heap}{a:Addr}{items:Array Value}(x:qM h a items):IsTup h a items:=by
 obtain⟨o,e,c,_,d⟩:=x
 exact⟨o,e,c,d⟩
def qM.new(h:Heap)(items:Array Value):qM (h.push {cls:=.type "tuple",data:=.seq items}) h.objs.size items:=⟨_,Qrq _ rfl,rfl,rfl,_,rfl⟩
section
variable(P:Program)(w:World)
def bL(H:Hp)(h:Heap)(a:Addr):HO->Prop
 |.lst d=>d.length<=sizeLine/\∃(b:List Value) (n:Nat),a_ d b/\h.get? a=some {cls:=.type "list",data:=.seq b.toArray n}
 |.tup d=>d.length<=sizeLine/\∃b:List Value,a_ d b/\qM h a b.toArray
 |.dK c=>c.length<=sizeLine/\(a==sysModules)=false/\∃l,KV c l/\h.DictOf (bg P w) a l
 |.dT c=>c.length<=sizeLine/\(a==sysModules)=false/\∃d:List (List Key×Addr×Value),
   Paired (λ(p:List Key×V) (q:List Key×Addr×Value)=>p.1=q.1/\H q.2.1=some (.tup (p.1.map kV))/\RelV p.2 q.2.2) c d∧
   ∃o m s,h.get? a=some o/\o.ExactDict/\o.data=.dict m s/\m.toList=d.map (entryOfKey (tupleKind (bg P w)))/\(d.map (·.1)).Nodup
 |.set S n=>h.SetOf (intKind P w) a S n
 |.ins C i g=>H i=some (.own a)/\g.length<=1000/\i≠a/\h.get? a=some (PySem.W.instObj C i)∧
   ∃e,h.Ns1 i e/\(∀f,p8 (g.lookup f) (e f))/\PySem.Within e (g.map (·.1))
 |.own _=>∃o,h.get? a=some o
 |.xd g=>∃e,h.Ns1 a e/\∀f,p8 (g.lookup f) (e f)
 |.rng z y=>∃t u v,h.get? a=some {cls:=.type "range",data:=.fields #[.int z t,.int y u,.int 1 v]}
 |.frz o u=>h.get? a=some o/\bL H h a u
 |.tbl A=>h.get? a=some {cls:=.none,data:=.fields A}
 |.met f x=>h.get? a=some (PySem.W.methodObj (.ref f) (.ref x))
 |.ext j=>j h/\(∃o,h.get? a=some o)/\∀k r:Heap,j k->(∀o,k.get? a=some o->r.get? a=some o)->j r
def kO(H:Hp)(h:Heap):Prop:=∀a o,H a=some o->bL P w H h a o
end
section
variable{P:Program}{w:World}{H H':Hp}{h h':Heap}{a:Addr}{o:HO}
theorem bL.lt(x:bL P w H h a o):a<h.objs.size:=by
 cases o with
 |lst d=>obtain⟨_,_,_,_,e⟩:=x;exact Qiq e
 |tup d=>obtain⟨_,_,_,p⟩:=x;exact p.it.lt
 |dK b=>obtain⟨_,_,_,_,o,_,_,e,_⟩:=x;exact Qiq e
 |dT b=>obtain⟨_,_,_,_,o,_,_,e,_⟩:=x;exact Qiq e
 |set S n=>obtain⟨o,_,_,_,e,_⟩:=x;exact Qiq e
 |ins C k c=>obtain⟨_,_,_,e,_⟩:=x;exact Qiq e
 |own y=>obtain⟨_,e⟩:=x;exact Qiq e
 |xd c=>obtain⟨_,⟨_,_,_,e,_⟩,_⟩:=x;exact Qiq e
 |rng l i=>obtain⟨_,_,_,e⟩:=x;exact Qiq e
 |frz g u=>obtain⟨e,_⟩:=x;exact Qiq e
 |tbl m=>exact Qiq (show h.get? a=some _ from x)
 |met f y=>exact Qiq (show h.get? a=some _ from x)
 |ext j=>obtain⟨_,⟨_,e⟩,_⟩:=x;exact Qiq e
theorem Paired.mapP{α d:Type}{F G:α->d->Prop}:∀{c:List α} {l₂:List d},Paired F c l₂->(∀a b,F a b->G a b)->Paired G c l₂
 |_,_,.nil,_=>.nil
 |_,_,.cons r t,f=>.cons (f _ _ r) (Paired.mapP t f)
def bL.stay(x:bL P w H h a o)(k:∀b u,(b=a\/H b=some (.own a))->h.get? b=some u->h'.get? b=some u)
  (J:∀b,H b=some (.own a)->H' b=some (.own a)) (I:∀b xs,H b=some (.tup xs)->H' b=some (.tup xs)):bL P w H' h' a o:=by
 induction o with
 |lst xs=>obtain⟨z,l,n,r,e⟩:=x;exact⟨z,l,n,r,k _ _ (.inl rfl) e⟩
 |tup xs=>obtain⟨z,l,r,g,e,c⟩:=x;exact⟨z,l,r,g,k _ _ (.inl rfl) e,c⟩
 |dK A=>obtain⟨z,y,K,r,g,j,i,e,c⟩:=x;exact⟨z,y,K,r,g,j,i,k _ _ (.inl rfl) e,c⟩
 | dT A=>
   obtain⟨z,y,xs,r,g,j,i,e,c⟩:=x
   exact⟨z,y,xs,Paired.mapP r λp q z=>⟨z.1,I _ _ z.2.1,z.2.2⟩,g,j,i,k _ _ (.inl rfl) e,c⟩
 |set S n=>obtain⟨g,j,i,t,e,c⟩:=x;exact⟨g,j,i,t,k _ _ (.inl rfl) e,c⟩
 | ins C U L=>
   obtain⟨d,z,N,e,s,⟨m,j,i,G,c⟩,r⟩:=x
   exact⟨J _ d,z,N,k _ _ (.inl rfl) e,s,⟨m,j,i,k _ _ (.inr d) G,c⟩,r⟩
 |own y=>obtain⟨g,e⟩:=x;exact⟨g,k _ _ (.inl rfl) e⟩
 |xd L=>obtain⟨s,⟨m,j,i,e,c⟩,r⟩:=x;exact⟨s,⟨m,j,i,k _ _ (.inl rfl) e,c⟩,r⟩
 |rng X Q=>obtain⟨t,u,v,e⟩:=x;exact⟨t,u,v,k _ _ (.inl rfl) e⟩
 |frz g u M=>obtain⟨e,q⟩:=x;exact⟨k _ _ (.inl rfl) e,M q⟩
 | tbl F=>
   have e:h.get? a=some {cls:=.none,data:=.fields F}:=x
   show h'.get? a=some {cls:=.none,data:=.fields F}
   exact k a _ (.inl rfl) e
 | met f y=>
   have e:h.get? a=some (PySem.W.methodObj (.ref f) (.ref y)):=x
   show h'.get? a=some (PySem.W.methodObj (.ref f) (.ref y))
   exact k a _ (.inl rfl) e
 |ext R=>obtain⟨p,⟨o,e⟩,B⟩:=x;exact⟨B _ _ p λo q=>k _ _ (.inl rfl) q,⟨o,k _ _ (.inl rfl) e⟩,B⟩
def kO.lt(x:kO P w H h)(e:H a=some o):a<h.objs.size:=(x a o e).lt
def kO.fresh(x:kO P w H h)(e:h.objs.size<=a):H a=none:=by
 cases q:H a with
 |none=>rfl
 |some u=>exact absurd (Qqq (x.lt q) e) (Nat.lt_irrefl _)
def kO.kept(x:kO P w H h)(k:∀b u,h.get? b=some u->h'.get? b=some u):kO P w H h':=λa o e=>
 (x a o e).stay (λb u _ q=>k b u q) (λ_ q=>q) λ_ _ q=>q
def kO.laid(x:kO P w H h)(k:∀b u,h.get? b=some u->h'.get? b=some u)(g:h.objs.size<=a)(new:bL P w (upd H a o) h' a o):kO P w (upd H a o) h':=λb u e=>by
 have d:=x.fresh g
 by_cases f:b=a
 ·subst f;rw[aR] at e;cases e;exact new
 ·rw[aM f] at e
  exact(x b u e).stay (λc v _ q=>k c v q) (λc q=>by rw[aM (dH q d)];exact q) λc i q=>by rw[aM (dH q d)];exact q
end
def Rd(H:Hp)(a:Addr)(u:HO):Prop:=H a=some u\/∃o,H a=some (.frz o u)
def Rd.ok{P:Program}{w:World}{H:Hp}{h:Heap}{a:Addr}{u:HO}(r:Rd H a u)(x:kO P w H h):bL P w H h a u:=by
 rcases r with r|⟨o,r⟩
 ·exact x a u r
 ·obtain⟨_,q⟩:=x a _ r
  exact q
def Hw:Option HO->Prop
 |some (.lst _)=>True
 |some (.dK _)=>True
 |some (.dT _)=>True
 |some (.set _ _)=>True
 |some (.ins _ _ _)=>True
 |some (.ext _)=>True
 |_=>False
section
variable{P:Program}{w:World}{H:Hp}{h h':Heap}{x e:Addr}{o':HO}
def kO.write(ok:kO P w H h)(j:Hw (H x))(he:e=x\/H e=some (.own x))(k:∀b u,b≠e->h.get? b=some u->h'.get? b=some u)(m:∃u,h'.get? e=some u)
  (new:bL P w (upd H x o') h' x o'):kO P w (upd H x o') h':=λb u q=>by
 have d:∀c y,H c=some (.own y)->c≠x:=λc y r z=>by subst z;rw[r] at j;exact j
 have f:∀c i,H c=some (.tup i)->c≠x:=λc i r z=>by subst z;rw[r] at j;exact j
 by_cases l:b=x
 ·subst l;rw[aR] at q;cases q;exact new
 ·rw[aM l] at q
  by_cases a:b=e
  ·have n:H b=some (.own x):=by
    rcases he with z|z
    ·exact absurd (a.trans z) l
    ·rw[a];exact z
   rw[q] at n;cases n
   obtain⟨v,o⟩:=m
   exact⟨v,by rw[a];exact o⟩
  ·refine(ok b u q).stay (λc v g r=>k c v ?_ r) (λc r=>by rw[aM (d c b r)];exact r) λc i r=>by rw[aM (f c i r)];exact r
   rcases g with rfl|g
   ·exact a
   ·rintro rfl
    rcases he with z|z
    ·exact d c b g z
    ·rw[g] at z;cases z;exact l rfl
end
structure Un(fs ex:List Addr)(H H':Hp)(h h':Heap):Prop where
 keep:∀b o,h.get? b=some o->H b=none->b∉fs->b∉ex->h'.get? b=some o
 slot:∀b o,h.get? b=some o->H b=none->b∈fs->b∉ex->∃sl,h'.get? b=some {o with slots:=sl}
 free:∀b o,h.get? b=some o->H b=none->b∉ex->H' b=none
 there:∀b o,h.get? b=some o->b∉ex->∃o',h'.get? b=some o'
 tups:∀b xs,H b=some (.tup xs)->H' b=some (.tup xs)
 frzs:∀b o u,H b=some (.frz o u)->H' b=some (.frz o u)
 tbls:∀b ps,H b=some (.tbl ps)->∃more,H' b=some (.tbl (ps++more))
section
variable{fs fs' ex ex':List Addr}{H H1 H2:Hp}{h h1 h2 h':Heap}{a x e:Addr}{o:HO}
def Un.any(u:Un fs ex H H1 h h1){b:Addr}{ob:Obj}(q:h.get? b=some ob)(n:H b=none)(c:b∉ex):∃f,h1.get? b=some {ob with slots:=f}:=by
 by_cases d:b∈fs
 ·exact u.slot b ob q n d c
 ·exact⟨ob.slots,u.keep b ob q n d c⟩
def Un.kept(k:∀b u,h.get? b=some u->h'.get? b=some u):Un fs ex H H h h':=
 ⟨λb c q _ _ _=>k b c q,λb c q _ _ _=>⟨c.slots,k b c q⟩,λ_ _ _ n _=>n,λb c q _=>⟨c,k b c q⟩,λ_ _ q=>q,λ_ _ _ q=>q,λ_ d q=>⟨#[],by rw[q];simp⟩⟩
def Un.refl:Un fs ex H H h h:=Un.kept λ_ _ q=>q
def Un.laid(k:∀b u,h.get? b=some u->h'.get? b=some u)(d:h.objs.size<=a)(c:H a=none):Un fs ex H (upd H a o) h h' where
 keep:=λb u q _ _ _=>k b u q
 slot:=λb u q _ _ _=>⟨u.slots,k b u q⟩
 free:=λb u q n _=>by rw[aM (Qwq (Qqq (Qiq q) d))];exact n
 there:=λb u q _=>⟨u,k b u q⟩
 tups:=λb f q=>by rw[aM (dH q c)];exact q
 frzs:=λb u f q=>by rw[aM (dH q c)];exact q
 tbls:=λb g q=>⟨#[],by rw[aM (dH q c),q];simp⟩
def Un.write(d:Hw (H x))(he:e=x\/H e=some (.own x))(k:∀b u,b≠e->h.get? b=some u->h'.get? b=some u)(g:∃u,h'.get? e=some u):Un fs ex H (upd H x o) h h':=by
 have j:∀b,H b=none->b≠x:=λb n z=>by subst z;rw[n] at d;exact d
 have i:∀b,H b=none->b≠e:=λb n z=>by
  subst z
  rcases he with r|r
  ·exact j b n r
  ·rw[n] at r;cases r
 have f:∀b u,H b=some u->¬Hw (some u)->b≠x:=λb u q m z=>by subst z;rw[q] at d;exact m d
 refine⟨λb u q n _ _=>k b u (i b n) q,λb u q n _ _=>⟨u.slots,k b u (i b n) q⟩,λb u q n _=>by rw[aM (j b n)];exact n,λb u q _=> ?_,
  λb l q=>by rw[aM (f b _ q λz=>z)];exact q,λb u l q=>by rw[aM (f b _ q λz=>z)];exact q,λb p q=>⟨#[],by rw[aM (f b _ q λz=>z),q];simp⟩⟩
 by_cases c:b=e
 ·subst c;exact g
 ·exact⟨u,k b u c q⟩
end
def IE(h:Heap)(H:Hp):List Addr:=(List.range h.objs.size).filter λa=>(H a).isSome
def sJ(h:Heap)(H:Hp):Heap:=PySem.W.hideAll h (IE h H)
def yZ(h:Heap)(H:Hp):(sJ h H).objs.size=h.objs.size:=PySem.W.hideAll_size _ _
def Ag{h:Heap}{H:Hp}{b:Addr}{o:Obj}(e:h.get? b=some o)(n:H b=none):(sJ h H).get? b=some o:=
 PySem.W.hideAll_get _ e λa=>by
  have q:(H b).isSome=true:=(List.mem_filter.mp a).2
  rw[n] at q;simp at q
def C5{h:Heap}{H:Hp}{b:Addr}{o:Obj}(e:(sJ h H).get? b=some o):h.get? b=some o/\H b=none:=by
 have a:h.get? b=some o:=PySem.W.of_hideAll (IE h H) e
 refine⟨a,?_⟩
 cases q:H b with
 |none=>rfl
 | some x=>
   have c:b∈IE h H:=List.mem_filter.mpr ⟨List.mem_range.mpr (Qiq a),by simp[q]⟩
   have z:(sJ h H).get? b=none:=PySem.W.hideAll_none (IE h H) c
   rw[z] at e;cases e
structure Mod(K:PySem.W.Frag)(mg:Str->Option Value)(base:Heap):Prop where
 kin:K.In base
 glob:base.Ns mainGlobals mg
 blt:∃mb,base.Ns builtinsNs mb/\∀x:Str,x≠"__name__" ->mb x=bootBuiltins x
 nolimit:base.NoLimit
structure Cx where
 prog:Program
 w:World
 K:PySem.W.Frag
 mg:Str->Option Value
 base:Heap
 A:Around
 N:List Str
 s₀:Shared
 H₀:Hp
 env:Env
 outer:List Env
 stack:List Env
 ex:List Addr
 fn:Str->Bool
 calm:Bool
 pn:List (Addr×Obj)
 xe:Value->Shared->Prop
def A4(l:List Env):List Addr:=l.filterMap (·.frame)
abbrev Cx.fs(X:Cx):List Addr:=A4 X.outer
def FD(a:Scope)(x:Str):Prop:=a.names.lookup x=some .local\/a.names.lookup x=some .cell\/a.names.lookup x=some .free
def Loc(a:Scope)(x:Str):Prop:=a.names.lookup x=some .local\/a.names.lookup x=some .cell
def Look(env:Env)(h:Heap)(m:Str->Option Value)(x:Str)(u:Value):Prop:=
 (env.kindOf x=some .local/\m x=some u)\/((env.kindOf x=some .cell\/env.kindOf x=some .free)/\∃c,env.cells.lookup x=some c/\h.IsCell c (some u))
structure Cx.Ok(X:Cx):Prop where
 mod:Mod X.K X.mg X.base
 kind:X.env.scope.kind=.function
 glob:X.env.globals=mainGlobals
 blt:X.env.builtins=builtinsNs
 above:X.s₀.heap.objs.size<=X.env.locals
 inj:∀x y c,X.env.cells.lookup x=some c->X.env.cells.lookup y=some c->x=y
 has:∀x,(X.env.kindOf x=some .cell\/X.env.kindOf x=some .free)->∃c,X.env.cells.lookup x=some c
 cab:∀x c,X.fn x=true->X.env.cells.lookup x=some c->X.s₀.heap.objs.size<=c
 hd:X.calm=true->X.A.handled=none
 frames:X.A.frames=some X.stack
 stk:X.stack=X.outer\/(X.stack=X.env::X.outer/\X.env.frame=some X.env.locals)
 exf:∀b∈X.ex,b≠X.env.locals/\∀x c,X.env.cells.lookup x=some c->c≠b
 bs:∀b o,X.base.get? b=some o->X.s₀.heap.get? b=some o/\X.H₀ b=none
 bsz:X.base.objs.size<=X.s₀.heap.objs.size
 noex:∀b o,X.base.get? b=some o->b∉X.ex
 exfs:∀b∈X.ex,b∉X.fs
 funs:X.s₀.heap.FunFrames X.base X.outer
 frf:∀b∈X.fs,X.H₀ b=none
structure Inv(X:Cx)(pins:List (Addr×Obj))(σ:List (Option V))(H:Hp)(s:Shared):Prop where
 ok:X.Ok
 os:s.os=X.s₀.os
 bare:AllBare s.gens
 base:Un X.fs X.ex X.H₀ H X.s₀.heap s.heap
 loc:∃m,s.heap.Ns X.env.locals m/\∀(i:Nat) (x:Str) (v:V),X.N[i]?=some x->σ[i]?=some (some v)->FD X.env.scope x->∃u,RelV v u/\Look X.env s.heap m x u
 cell:∀x c,X.env.cells.lookup x=some c->∃v,s.heap.IsCell c v
 free:H X.env.locals=none
 freeC:∀x c,X.env.cells.lookup x=some c->H c=none
 pin:∀p∈X.pn++pins,s.heap.get? p.1=some p.2/\H p.1=none/\p.1≠X.env.locals/\p.1∉X.fs/\∀v,p.2.data≠.cell v
 hok:kO X.prog X.w H s.heap
 len:σ.length=X.N.length
section
variable{X:Cx}{pins:List (Addr×Obj)}{σ:List (Option V)}{H H':Hp}{s:Shared}{h':Heap}
def Cx.Ok.nofr(ok:X.Ok){b:Addr}{o:Obj}(e:X.base.get? b=some o):b∉X.fs:=λa=>by
 have:=(ok.funs.mem a).1
 rw[e] at this;cases this
def Inv.bs(I:Inv X pins σ H s):∀b o,X.base.get? b=some o->s.heap.get? b=some o/\H b=none:=λb o e=>
 ⟨I.base.keep b o (I.ok.bs b o e).1 (I.ok.bs b o e).2 (I.ok.nofr e) (I.ok.noex b o e),I.base.free b o (I.ok.bs b o e).1 (I.ok.bs b o e).2 (I.ok.noex b o e)⟩
def Inv.bk(I:Inv X pins σ H s):∀b o,X.base.get? b=some o->s.heap.get? b=some o:=λb o e=>(I.bs b o e).1
def Inv.mod(I:Inv X pins σ H s):Mod X.K X.mg X.base:=I.ok.mod
def Inv.kIn(I:Inv X pins σ H s):X.K.In s.heap:=I.ok.mod.kin.keeps I.bk
def Inv.lt(I:Inv X pins σ H s):X.env.locals<s.heap.objs.size:=let ⟨_,hn,_⟩:=I.loc;hn.lt
def Inv.sz(I:Inv X pins σ H s):X.s₀.heap.objs.size<=s.heap.objs.size:=QAq I.ok.above (nQl I.lt)
def Inv.nofs(I:Inv X pins σ H s){a:Addr}(h:s.heap.objs.size<=a):a∉X.fs:=λc=>by
 obtain⟨_,o,b,_⟩:=I.ok.funs.mem c
 exact absurd (Qqq (Qiq b) (QAq I.sz h)) (Nat.lt_irrefl _)
def Inv.cne(I:Inv X pins σ H s):∀x c,X.env.cells.lookup x=some c->c≠X.env.locals:=λx c e z=>by
 obtain⟨v,o,f,d⟩:=I.cell x c e
 obtain⟨m,⟨i,g,h,b,a,_⟩,_⟩:=I.loc
 rw[z,b] at f;cases f;rw[a] at d;cases d
theorem Inv.funs(I:Inv X pins σ H s):s.heap.FunFrames X.base X.outer:=by
 have d:∀(l:List Env),(∀b∈A4 l,b∈X.fs)->X.s₀.heap.FunFrames X.base l->s.heap.FunFrames X.base l:=by
  intro l
  induction l with
  |nil=>intro _ _;trivial
  | cons m r k=>
    intro g h
    obtain⟨q,⟨L,o,a,j,i,p⟩,n⟩:=h
    have c:L∈X.fs:=g L (by unfold A4;rw[List.filterMap_cons,a];exact QBq)
    obtain⟨t,e⟩:=I.base.slot L o i (I.ok.frf L c) c λz=>I.ok.exfs L z c
    exact⟨q,⟨L,_,a,j,e,p⟩,k (λb f=>g b (by unfold A4;rw[List.filterMap_cons,a];exact Qpq _ f)) n⟩
 exact d X.outer (λ_ f=>f) I.ok.funs
def Inv.stack(I:Inv X pins σ H s):s.heap.FunFrames X.base X.stack:=by
 rcases I.ok.stk with e|⟨e,a⟩
 ·rw[e];exact I.funs
 ·rw[e]
  obtain⟨m,b,_⟩:=I.loc
  refine .cons (by rw[I.ok.kind];decide) a b ?_ I.funs
  exact Heap.get?_none_of_le (QAq I.ok.bsz I.ok.above)
def Inv.stkSub(I:Inv X pins σ H s):∀b∈A4 X.stack,b∈X.env.locals::X.fs:=λb a=>by
 rcases I.ok.stk with e|⟨e,c⟩
 ·rw[e] at a;exact Qpq _ a
 ·rw[e] at a
  unfold A4 at a
  rw[List.filterMap_cons,c] at a
  exact a
def Inv.stkFree(I:Inv X pins σ H s):∀b∈A4 X.stack,H b=none:=λb a=>by
 rcases Qsq.mp (I.stkSub b a) with e|a
 ·rw[e];exact I.free
 ·obtain⟨_,o,c,_⟩:=I.ok.funs.mem a
  exact I.base.free b o c (I.ok.frf b a) λz=>I.ok.exfs b z a
def Inv.step{g':Array GenState}{t':Nat}{d':Drawn}{ch:List Addr}(I:Inv X pins σ H s)
  (h:∀b∈ch,(b∈X.ex\/X.s₀.heap.objs.size<=b)/\b≠X.env.locals/\(∀x c,X.env.cells.lookup x=some c->c≠b)/\∀p∈X.pn++pins,p.1≠b)
  (keep:∀b o,b≠X.env.locals->b∉X.fs->b∉ch->s.heap.get? b=some o->H b=none->h'.get? b=some o)
  (slot:∀b o,b≠X.env.locals->b∈X.fs->b∉ch->s.heap.get? b=some o->H b=none->∃K,h'.get? b=some {o with slots:=K}) (free:∀b o,b∉ch->s.heap.get? b=some o->H b=none->H' b=none)
  (there:∀b o,b∉ch->s.heap.get? b=some o->∃o',h'.get? b=some o')
  (tups:∀b xs,H b=some (.tup xs)->H' b=some (.tup xs)) (frzs:∀b o u,H b=some (.frz o u)->H' b=some (.frz o u)) (tbls:∀b ps,H b=some (.tbl ps)->∃more,H' b=some (.tbl (ps++more)))
  (ns:∀m,s.heap.Ns X.env.locals m->h'.Ns X.env.locals m) (J:kO X.prog X.w H' h') (S:AllBare g'):
  Inv X pins σ H' {s with heap:=h',gens:=g',drawn:=d',toks:=t'}:=by
 have C:∀b o,X.s₀.heap.get? b=some o->b≠X.env.locals:=λb o e=>Qwq (Qqq (Qiq e) I.ok.above)
 have j:∀b o,X.s₀.heap.get? b=some o->b∉X.ex->b∉ch:=λb o e a y=>by
  rcases(h b y).1 with z|z
  ·exact a z
  ·exact absurd (Qqq (Qiq e) z) (Nat.lt_irrefl _)
 have f:∀x c,X.env.cells.lookup x=some c->∀v,s.heap.IsCell c v->h'.IsCell c v:=λx c e v Q=>by
  obtain⟨o,A,G⟩:=Q
  have g:c∉ch:=λz=>(h c z).2.2.1 x c e rfl
  by_cases M:c∈X.fs
  ·obtain⟨K,q⟩:=slot c o (I.cne x c e) M g A (I.freeC x c e)
   exact⟨_,q,G⟩
  ·exact⟨o,keep c o (I.cne x c e) M g A (I.freeC x c e),G⟩
 refine⟨I.ok,I.os,S,⟨λb o e n y a=> ?_,λb o e n y a=> ?_,λb o e n a=> ?_,λb o e a=> ?_,λb xs e=>tups b xs (I.base.tups b xs e),λb o xs e=>frzs b o xs (I.base.frzs b o xs e),λb ps e=> ?_⟩,?_,λx c e=> ?_,?_,λx c e=> ?_,λp N=> ?_,J,I.len⟩
 ·exact keep b o (C b o e) y (j b o e a) (I.base.keep b o e n y a) (I.base.free b o e n a)
 ·obtain⟨K,t⟩:=I.base.slot b o e n y a
  obtain⟨F,B⟩:=slot b _ (C b o e) y (j b o e a) t (I.base.free b o e n a)
  exact⟨F,B⟩
 ·obtain⟨o',t⟩:=I.base.there b o e a
  exact free b o' (j b o e a) t (I.base.free b o e n a)
 ·obtain⟨o',t⟩:=I.base.there b o e a
  exact there b o' (j b o e a) t
 ·obtain⟨Z,t⟩:=I.base.tbls b ps e
  obtain⟨W,B⟩:=tbls b _ t
  exact⟨Z++W,by rw[B,Array.append_assoc]⟩
 ·obtain⟨m,U,R⟩:=I.loc
  refine⟨m,ns m U,λi x v t B Y=> ?_⟩
  obtain⟨u,r,l⟩:=R i x v t B Y
  refine⟨u,r,?_⟩
  rcases l with l|⟨k,c,e,z⟩
  ·exact .inl l
  ·exact .inr ⟨k,c,e,f x c e _ z⟩
 ·obtain⟨v,z⟩:=I.cell x c e
  exact⟨v,f x c e v z⟩
 ·obtain⟨m,⟨o,_,_,A,_⟩,_⟩:=I.loc
  exact free _ o (λz=>(h _ z).2.1 rfl) A I.free
 ·obtain⟨v,o,A,G⟩:=I.cell x c e
  exact free c o (λz=>(h c z).2.2.1 x c e rfl) A (I.freeC x c e)
 ·obtain⟨e,n,P,L,d⟩:=I.pin p N
  have g:p.1∉ch:=λz=>(h p.1 z).2.2.2 p N rfl
  exact⟨keep p.1 p.2 P L g e n,free p.1 p.2 g e n,P,L,d⟩
def Inv.un{t':Nat}(I:Inv X pins σ H s)(u:Un X.fs [] H H' s.heap h')(d:kO X.prog X.w H' h'):Inv X pins σ H' {s with heap:=h',toks:=t'}:=by
 obtain⟨m,⟨o,q,l,h,r⟩,_⟩:=id I.loc
 obtain⟨t,j⟩:=u.any h I.free (by simp)
 exact I.step (g':=s.gens) (d':=s.drawn) (ch:= []) (λ_ z=>nomatch z) (λb o _ g _ e n=>u.keep b o e n g (by simp)) (λb o _ g _ e n=>u.slot b o e n g (by simp)) (λb o _ e n=>u.free b o e n (by simp)) (λb o _ e=>u.there b o e (by simp)) u.tups u.frzs u.tbls (λv k=>by
  obtain⟨p,f,c,a,i⟩:=k
  rw[h] at a;cases a
  exact⟨_,f,c,j,i⟩) d I.bare
def Inv.call{g':Array GenState}{t':Nat}{d':Drawn}{ch:List Addr}(I:Inv X pins σ H s)(u:Un (A4 X.stack) ch H H' s.heap h')(i:kO X.prog X.w H' h')(l:AllBare g')
  (d:∀b∈ch,(b∈X.ex\/X.s₀.heap.objs.size<=b)/\b≠X.env.locals/\(∀x c,X.env.cells.lookup x=some c->c≠b)/\∀p∈X.pn++pins,p.1≠b):
  Inv X pins σ H' {s with heap:=h',gens:=g',drawn:=d',toks:=t'}:=by
 obtain⟨m,⟨o,B,y,k,r⟩,_⟩:=id I.loc
 obtain⟨C,h⟩:=u.any k I.free λz=>(d _ z).2.1 rfl
 exact I.step (ch:=ch) d (λb o h v a e n=>u.keep b o e n (λz=>(Qsq.mp (I.stkSub b z)).elim h v) a) (λb o _ _ a e n=>u.any e n a) (λb o a e n=>u.free b o e n a) (λb o a e=>u.there b o e a) u.tups u.frzs u.tbls (λF t=>by
  obtain⟨A,j,g,f,q⟩:=t
  rw[k] at f;cases f
  exact⟨_,j,g,h,q⟩) i l
def Inv.turned{t':Nat}{it:Addr}(I:Inv X pins σ H s)(k:∀b o,b≠it->s.heap.get? b=some o->h'.get? b=some o)(j:H it=none)(f:it≠X.env.locals)
  (h:it∈X.ex\/X.s₀.heap.objs.size<=it) (y:∀x c,X.env.cells.lookup x=some c->c≠it) (t:∀p∈X.pn++pins,p.1≠it):Inv X pins σ H {s with heap:=h',toks:=t'}:=by
 have d:∀b u,H b=some u->b≠it:=λb u e z=>by rw[z,j] at e;cases e
 refine I.step (g':=s.gens) (d':=s.drawn) (ch:= [it]) (λb A=> ?_) (λb o _ _ a e _=>k b o (λz=>a (by simp[z])) e) (λb o _ _ a e _=>⟨o.slots,k b o (λz=>a (by simp[z])) e⟩) (λ_ _ _ _ n=>n)
  (λb o a e=>⟨o,k b o (λz=>a (by simp[z])) e⟩) (λ_ _ e=>e) (λ_ _ _ e=>e) (λb B e=>⟨#[],by rw[e];simp⟩) (λm w=> ?_) (λb u e=> ?_) I.bare
 ·have e:b=it:=by simpa using A
  subst e
  exact⟨h,f,y,t⟩
 ·obtain⟨o,l,g,i,r⟩:=w
  exact⟨o,l,g,k _ o (Ne.symm f) i,r⟩
 ·refine(I.hok b u e).stay (λc v a q=>k c v ?_ q) (λ_ q=>q) λ_ _ q=>q
  rcases a with z|z
  ·rw[z];exact d b u e
  ·exact d c _ z
def Inv.tok(I:Inv X pins σ H s)(t:Nat):Inv X pins σ H {s with toks:=t}:=I.un (h':=s.heap) (t':=t) Un.refl I.hok
def Inv.kept{t':Nat}(I:Inv X pins σ H s)(k:∀b u,s.heap.get? b=some u->h'.get? b=some u):Inv X pins σ H {s with heap:=h',toks:=t'}:=I.un (Un.kept k) (I.hok.kept k)
def Inv.laid{a:Addr}{o:HO}{t':Nat}(I:Inv X pins σ H s)(k:∀b u,s.heap.get? b=some u->h'.get? b=some u)(c:s.heap.objs.size<=a)(new:bL X.prog X.w (upd H a o) h' a o):
  Inv X pins σ (upd H a o) {s with heap:=h',toks:=t'}:=I.un (Un.laid k c (I.hok.fresh c)) (I.hok.laid k c new)
def Inv.write{x e:Addr}{o:HO}{t':Nat}(I:Inv X pins σ H s)(c:Hw (H x))(he:e=x\/H e=some (.own x))(k:∀b u,b≠e->s.heap.get? b=some u->h'.get? b=some u)(a:∃u,h'.get? e=some u)
  (new:bL X.prog X.w (upd H x o) h' x o):Inv X pins σ (upd H x o) {s with heap:=h',toks:=t'}:=I.un (Un.write c he k a) (I.hok.write c he k a new)
def Inv.pins_of{a:List (Addr×Obj)}(I:Inv X pins σ H s)(h:∀p∈a,s.heap.get? p.1=some p.2/\H p.1=none/\p.1≠X.env.locals/\p.1∉X.fs/\∀v,p.2.data≠.cell v):Inv X a σ H s:=
 ⟨I.ok,I.os,I.bare,I.base,I.loc,I.cell,I.free,I.freeC,λp b=>(mQa.mp b).elim (λz=>I.pin p (List.mem_append_left _ z)) (h p),I.hok,I.len⟩
def uG{N:List Str}(d:N.Nodup){i j:Nat}{x:Str}(a:N[i]?=some x)(b:N[j]?=some x):i=j:=by
 obtain⟨f,c⟩:=gQs.mp a
 obtain⟨g,e⟩:=gQs.mp b
 exact(List.getElem_inj d).mp (c.trans e.symm)
def y3{M:Model}{A:Around}{E:Value->Shared->Prop}{i:Nat}{x:Str}{v:V}{u:Value}{Q:Unit->Shared->Prop}(I:Inv X pins σ H s)(hN:X.N.Nodup)(hi:X.N[i]?=some x)(B:Loc X.env.scope x)(r:RelV v u)
  (h:∀s',Inv X pins (σ.set i (some v)) H s'->(∃a,Heap.SameBut a s.heap s'.heap/\(a=X.env.locals\/X.env.cells.lookup x=some a))->Q () s') (hf:X.fn x=true\/X.env.scope.names.lookup x=some .local:=by first|exact .inl rfl|exact .inr rfl|assumption):wpAny M A (storeName X.env x u) Q E s:=by
 obtain⟨m,hn,hl⟩:=id I.loc
 have U:(X.env.scope.kind==.class||(X.env.scope.kind==.module&&X.env.locals !=X.env.globals))=false:=by rw[I.ok.kind];rfl
 have G:i<σ.length:=by rw[I.len];exact(gQs.mp hi).1
 have K:=I.cne
 have g:∀{a:Addr} {h':Heap},(∃o,s.heap.get? a=some o/\H a=none)->Heap.SameBut a s.heap h'->kO X.prog X.w H h':=λ{a h'} ha f b ob e=>by
  obtain⟨_,_,C⟩:=ha
  refine(I.hok b ob e).stay (λc w' t q=>(f.2 c ?_).trans q) (λ_ q=>q) λ_ _ q=>q
  rintro rfl
  rcases t with rfl|t
  ·rw[C] at e;cases e
  ·rw[C] at t;cases t
 rcases B with J|J
 ·refine wpAny_storeName_local J hn (λh' a1 f=> ?_) U
  obtain⟨oL,_,_,a2,_⟩:=id hn
  refine h _ ⟨I.ok,I.os,I.bare,⟨λb o e n R B=> ?_,λb o e n R B=> ?_,I.base.free,λb o e B=> ?_,I.base.tups,I.base.frzs,I.base.tbls⟩,⟨_,a1,λj y v' l F e3=> ?_⟩,λy c e=> ?_,I.free,I.freeC,λp hp=> ?_,g ⟨oL,a2,I.free⟩ f,by simpa using I.len⟩ ⟨_,f,.inl rfl⟩
  ·exact(f.2 b (Qwq (Qqq (Qiq e) I.ok.above))).trans (I.base.keep b o e n R B)
  ·obtain⟨sl,l⟩:=I.base.slot b o e n R B
   exact⟨sl,(f.2 b (Qwq (Qqq (Qiq e) I.ok.above))).trans l⟩
  ·obtain⟨o',l⟩:=I.base.there b o e B
   exact⟨o',(f.2 b (Qwq (Qqq (Qiq e) I.ok.above))).trans l⟩
  ·by_cases P:j=i
   ·subst P
    rw[hi] at l;cases l
    rw[Qyq G] at F
    cases F
    exact⟨u,r,.inl ⟨J,by simp⟩⟩
   ·rw[QKq (Ne.symm P)] at F
    obtain⟨u',r',q⟩:=hl j y v' l F e3
    refine⟨u',r',?_⟩
    rcases q with⟨k,e⟩|⟨k,c,e,z⟩
    ·refine .inl ⟨k,?_⟩
     have:y≠x:=λe=>P (uG hN l (e▸hi))
     simp[this,e]
    ·exact .inr ⟨k,c,e,z.sameBut f (K y c e)⟩
  ·obtain⟨w',z⟩:=I.cell y c e
   exact⟨w',z.sameBut f (K y c e)⟩
  ·obtain⟨e,n,ne,nf,d⟩:=I.pin p hp
   exact⟨(f.2 p.1 ne).trans e,n,ne,nf,d⟩
 ·have L:X.fn x=true:=by
   rcases hf with z|z
   ·exact z
   ·rw[z] at J;cases J
  obtain⟨c,t⟩:=I.ok.has x (.inl J)
  obtain⟨w',z⟩:=I.cell x c t
  refine wpAny_storeName_cell I.ok.kind J t z (λh' S f=> ?_)
  obtain⟨oc,W,Y⟩:=id z
  refine h {s with heap:=h'} ⟨I.ok,I.os,I.bare,⟨λb o e n R B=> ?_,λb o e n R B=> ?_,I.base.free,λb o e B=> ?_,I.base.tups,I.base.frzs,I.base.tbls⟩,⟨m,hn.sameBut f (Ne.symm (K x c t)),λj y v' l F e3=> ?_⟩,λy c' e=> ?_,I.free,I.freeC,λp hp=> ?_,g ⟨oc,W,I.freeC x c t⟩ f,by simpa using I.len⟩ ⟨c,f,.inr t⟩
  ·exact(f.2 b (Qwq (Qqq (Qiq e) (I.ok.cab x c L t)))).trans (I.base.keep b o e n R B)
  ·obtain⟨sl,l⟩:=I.base.slot b o e n R B
   exact⟨sl,(f.2 b (Qwq (Qqq (Qiq e) (I.ok.cab x c L t)))).trans l⟩
  ·obtain⟨o',l⟩:=I.base.there b o e B
   exact⟨o',(f.2 b (Qwq (Qqq (Qiq e) (I.ok.cab x c L t)))).trans l⟩
  ·by_cases P:j=i
   ·subst P
    rw[hi] at l;cases l
    rw[Qyq G] at F
    cases F
    exact⟨u,r,.inr ⟨.inl J,c,t,S⟩⟩
   ·rw[QKq (Ne.symm P)] at F
    obtain⟨u',r',q⟩:=hl j y v' l F e3
    refine⟨u',r',?_⟩
    rcases q with q|⟨k,c',e,z'⟩
    ·exact .inl q
    ·refine .inr ⟨k,c',e,z'.sameBut f ?_⟩
     rintro rfl
     exact P (uG hN l (I.ok.inj _ _ _ e t▸hi))
  ·by_cases Z:c'=c
   ·subst Z;exact⟨_,S⟩
   ·obtain⟨w2,z2⟩:=I.cell y c' e
    exact⟨w2,z2.sameBut f Z⟩
  ·obtain⟨e,n,ne,nf,d⟩:=I.pin p hp
   refine⟨(f.2 p.1 ?_).trans e,n,ne,nf,d⟩
   intro q
   rw[q,W] at e
   have q':oc=p.2:=QdQ e
   exact d w' (by rw[←q'];exact Y)
def lg{M:Model}{A:Around}{E:Value->Shared->Prop}{i:Nat}{x:Str}{v:V}{u:Value}{Q:Unit->Shared->Prop}(I:Inv X pins σ H s)(c:X.N.Nodup)(hi:X.N[i]?=some x)(e:Loc X.env.scope x)(r:RelV v u)
  (h:∀a,Inv X pins (σ.set i (some v)) H a->Q () a) (b:X.fn x=true\/X.env.scope.names.lookup x=some .local:=by first|exact .inl rfl|exact .inr rfl|assumption):wpAny M A (storeName X.env x u) Q E s:=
 y3 I c hi e r (λa d _=>h a d) b
def Inv.call'{a:Shared}{ch:List Addr}(I:Inv X pins σ H s)(g:a.os=s.os)(u:Un (A4 X.stack) ch H H' s.heap a.heap)(f:kO X.prog X.w H' a.heap)(h:AllBare a.gens)
  (d:∀b∈ch,(b∈X.ex\/X.s₀.heap.objs.size<=b)/\b≠X.env.locals/\(∀x c,X.env.cells.lookup x=some c->c≠b)/\∀p∈X.pn++pins,p.1≠b):Inv X pins σ H' a:=by
 obtain⟨h',g',d',t',i⟩:=a
 have e:i=s.os:=g
 subst e
 exact I.call (g':=g') (t':=t') (d':=d') u f h d
end
abbrev XK:=Value->Option Addr->Hp->Prop
abbrev St:=List (Option V)
abbrev VK:=V->Hp->Prop
abbrev TE:=St->Hp->VK->Prop
abbrev TT:=St->Hp->(Bool->Hp->Prop)->Prop
abbrev TA:=St->Hp->(List V->Hp->Prop)->Prop
structure Ends where
 nx:St->Hp->Prop
 rt:VK
 bk:St->Hp->Prop:=λ_ _=>False
 ct:St->Hp->Prop:=λ_ _=>False
abbrev TS:=Ends->St->Hp->Prop
def EP(X:Cx)(a:List (Addr×Obj))(c:St)(Q:VK)(u:Value)(d:Shared):Prop:=∃v b,Inv X a c b d/\RelV v u/\Q v b
def TP(X:Cx)(a:List (Addr×Obj))(d:St)(Q:Bool->Hp->Prop)(b:Bool)(e:Shared):Prop:=∃c,Inv X a d c e/\Q b c
def AP(X:Cx)(a:List (Addr×Obj))(e:St)(Q:List V->Hp->Prop)(d:List Value)(f:Shared):Prop:=∃b c,Inv X a e c f/\a_ b d/\Q b c
def SP(X:Cx)(b:List (Addr×Obj))(D:Ends)(f:Flow)(d:Shared):Prop:=
 match f with
 |.next=>∃a c,Inv X b a c d/\D.nx a c
 |.brk=>∃a c,Inv X b a c d/\D.bk a c
 |.cont=>∃a c,Inv X b a c d/\D.ct a c
 |.ret u=>∃v a c,Inv X b a c d/\RelV v u/\D.rt v c
def PE(X:Cx)(e:Expr)(t:TE):Prop:=
 ∀(a:List (Addr×Obj)) (s:Shared) (b:St) (H:Hp) (Q:VK),Inv X a b H s->t b H Q->wpAny (model X.prog X.w) X.A (eval e X.env) (EP X a b Q) X.xe s
def PT(X:Cx)(e:Expr)(t:TT):Prop:=
 ∀(a:List (Addr×Obj)) (s:Shared) (b:St) (H:Hp) (Q:Bool->Hp->Prop),Inv X a b H s->t b H Q->wpAny (model X.prog X.w) X.A (isTrue e X.env (eval e X.env)) (TP X a b Q) X.xe s
def PW(X:Cx)(e:Expr)(t:TT):Prop:=
 ∀(b:Sem Value) (a:List (Addr×Obj)) (s:Shared) (c:St) (H:Hp) (Q:Bool->Hp->Prop),Inv X a c H s->t c H Q->wpAny (model X.prog X.w) X.A (isTrue e X.env b) (TP X a c Q) X.xe s
def PW.pt{X:Cx}{e:Expr}{t:TT}(h:PW X e t):PT X e t:=h _
def PA(X:Cx)(d:List Expr)(t:TA):Prop:=
 ∀(c:Pos) (a:List (Addr×Obj)) (s:Shared) (b:St) (H:Hp) (Q:List V->Hp->Prop),Inv X a b H s->t b H Q->wpAny (model X.prog X.w) X.A (spliced (backTo c (starEach d X.env))) (AP X a b Q) X.xe s
def PS(X:Cx)(st:Stmt)(t:TS):Prop:=
 ∀(a:List (Addr×Obj)) (s:Shared) (b:St) (H:Hp) (D:Ends),Inv X a b H s->t D b H->wpAny (model X.prog X.w) X.A (exec st X.env) (SP X a D) X.xe s
def oF(X:Cx)(st:List Stmt)(t:TS):Prop:=
 ∀(a:List (Addr×Obj)) (s:Shared) (b:St) (H:Hp) (D:Ends),Inv X a b H s->t D b H->wpAny (model X.prog X.w) X.A (execs st X.env) (SP X a D) X.xe s
def cg{α:Type}{t:Sem α}{Q b:α->Shared->Prop}{M:Model}{A:Around}{E:Value->Shared->Prop}{s:Shared}(h:wpAny M A t Q E s)(c:∀a s,Q a s->b a s):wpAny M A t b E s:=QRq h c λ_ _ x=>x
section
variable{X:Cx}
def EO(i:Nat):TE:=λa H Q=>∃v,a[i]?=some (some v)/\Q v H
def tC(v:V):TE:=λ_ H Q=>Q v H
def Ci{i:Nat}{x:Str}{pos:Pos}(n:X.N[i]?=some x)(t:FD X.env.scope x)(hd:(x==("__debug__":Str))=false:=by decide)(g:(x==("__classdict__":Str))=false:=by decide):PE X (.Name x pos) (EO i):=by
 intro f s p H Q I h
 obtain⟨v,e,h⟩:=h
 obtain⟨m,o,k⟩:=I.loc
 obtain⟨u,r,l⟩:=k i x v n e t
 have b:EP X f p Q u s:=⟨v,H,I,r,h⟩
 rcases l with⟨d,q⟩|⟨d,c,j,a⟩
 ·exact wpAny_Name (wpAny_loadName_local I.ok.kind d o q b) hd
 ·rcases d with d|d
  ·exact wpAny_Name (wpAny_loadName_cell I.ok.kind d j a b) hd
  ·exact wpAny_Name (wpAny_loadName_free I.ok.kind d j a b g) hd
def FW{i j pos}:PE X (.Constant (.int i) j pos) (tC (.int i)):=λ_ _ _ H _ I h=>wpAny_Constant_int ⟨.int i,H,I.tok _,⟨_,rfl⟩,h⟩
def HS{b j pos}:PE X (.Constant (.bool b) j pos) (tC (.bl b)):=λ_ _ _ H _ I h=>Constant_bool ⟨.bl b,H,I,rfl,h⟩
def E5{j pos}:PE X (.Constant .none j pos) (tC .non):=λ_ _ _ H _ I h=>Constant_none ⟨.non,H,I,rfl,h⟩
def Fb{x j pos}:PE X (.Constant (.str x) j pos) (tC (.str x)):=λ_ _ _ H _ I h=>Calls.Constant_str ⟨.str x,H,I.tok _,⟨_,rfl⟩,h⟩
def Gl(X:Cx)(x:Str):Prop:=X.env.kindOf x=some .globalImplicit
def s_{E:Value->Shared->Prop}{a:List (Addr×Obj)}{s:Shared}{b:St}{H:Hp}{x:Str}{u:Value}{pos:Pos}{Q:Value->Shared->Prop}(I:Inv X a b H s)(c:Gl X x)(d:X.mg x=some u)(h:Q u s)
  (hd:(x==("__debug__":Str))=false:=by decide):wpAny (model X.prog X.w) X.A (eval (.Name x pos) X.env) Q E s:=
 Calls.Name_function_global I.ok.kind c (Calls.loadGlobal_global (by rw[I.ok.glob];exact I.mod.glob.keeps I.bk) d h) hd
def jh{E:Value->Shared->Prop}{a:List (Addr×Obj)}{s:Shared}{e:St}{H:Hp}{x:Str}{u:Value}{pos:Pos}{Q:Value->Shared->Prop}(I:Inv X a e H s)(b:Gl X x)(f:X.mg x=none)(g:bootBuiltins x=some u)(h:Q u s)
  (d:x≠"__name__":=by decide) (hd:(x==("__debug__":Str))=false:=by decide):wpAny (model X.prog X.w) X.A (eval (.Name x pos) X.env) Q E s:=by
 obtain⟨j,c,i⟩:=I.mod.blt
 exact Calls.Name_function_global I.ok.kind b (Calls.loadGlobal_builtin (by rw[I.ok.glob];exact I.mod.glob.keeps I.bk) f (by rw[I.ok.blt];exact c.keeps I.bk) ((i x d).trans g) h) hd
def ue{x:Str}{v:V}{u:Value}{pos:Pos}(a:Gl X x)(b:X.mg x=some u)(r:RelV v u)(hd:(x==("__debug__":Str))=false:=by decide):PE X (.Name x pos) (tC v):=
 λ_ _ _ H _ I h=>s_ I a b ⟨v,H,I,r,h⟩ hd
def DI{x:Str}{v:V}{u:Value}{pos:Pos}(a:Gl X x)(b:X.mg x=none)(c:bootBuiltins x=some u)(r:RelV v u)(d:x≠"__name__":=by decide)(hd:(x==("__debug__":Str))=false:=by decide):PE X (.Name x pos) (tC v):=
 λ_ _ _ H _ I h=>jh I a b c ⟨v,H,I,r,h⟩ d hd
variable{a b:Expr}{ta tb:TE}{pos:Pos}
variable{tA tB':TT}{rest:List Expr}
def Je(t u:TT):TT:=λd H Q=>t d H λc H1=>if c=true then u d H1 Q else Q false H1
def KO(t u:TT):TT:=λd H Q=>t d H λc H1=>if c=true then Q true H1 else u d H1 Q
def JD(t:TT):TT:=λd H Q=>t d H λc H1=>Q (!c) H1
def C8(f:PT X a tA):PW X (.BoolOp .And [a] pos) tA:=by
 intro j d s g H Q I h
 refine isTrue_and (cg (f d s g H Q I h) λc i e=> ?_)
 cases c with
 |true=>exact isTrue_and_nil e
 |false=>exact e
def Eu(f:PT X a tA):PW X (.BoolOp .Or [a] pos) tA:=by
 intro j d s g H Q I h
 refine isTrue_or (cg (f d s g H Q I h) λc i e=> ?_)
 cases c with
 |false=>exact isTrue_or_nil e
 |true=>exact e
def Fo(i:PT X a tA)(m:PW X (.BoolOp .And (b::rest) pos) tB'):PW X (.BoolOp .And (a::b::rest) pos) (Je tA tB'):=by
 intro l d s g H Q I h
 refine isTrue_and (cg (i d s g H _ I h) λc j k=> ?_)
 obtain⟨H1,f,e⟩:=k
 cases c with
 |true=>exact m l d j g H1 Q f e
 |false=>exact⟨H1,f,e⟩
def Gr(i:PT X a tA)(m:PW X (.BoolOp .Or (b::rest) pos) tB'):PW X (.BoolOp .Or (a::b::rest) pos) (KO tA tB'):=by
 intro l d s g H Q I h
 refine isTrue_or (cg (i d s g H _ I h) λc j k=> ?_)
 obtain⟨H1,f,e⟩:=k
 cases c with
 |true=>exact⟨H1,f,e⟩
 |false=>exact m l d j g H1 Q f e
def EE(e:PT X a tA):PT X (.UnaryOp .Not a pos) (JD tA):=by
 intro d s f H Q I h
 exact isTrue_not (e d s f H (λc H1=>Q (!c) H1) I h)
def GP(ta tb:TE):TE:=λd H Q=>ta d H λx H1=>∃c,x=.bl c/\if c=true then tb d H1 Q else Q (.bl false) H1
def HQ(ta:TE):TE:=λd H Q=>ta d H λx H1=>∃c,x=.bl c/\Q (.bl (!c)) H1
def F5{op}{t:TE}(h:PE X a t):PE X (.BoolOp op [a] pos) t:=λc s d H Q I e=>BoolOp_one (h c s d H Q I e)
def FK(i:PE X a ta)(m:PE X (.BoolOp .And (b::rest) pos) tb):PE X (.BoolOp .And (a::b::rest) pos) (GP ta tb):=by
 intro d s g H Q I h
 refine BoolOp_and (cg (i d s g H _ I h) λv l j=> ?_)
 obtain⟨x,H1,f,k,e⟩:=j
 obtain⟨c,rfl,e⟩:=e
 cases k
 refine wpAny_truthy_bool ?_
 cases c with
 |true=>exact m d l g H1 Q f e
 |false=>exact⟨.bl false,H1,f,rfl,e⟩
def Fc(f:PE X a ta):PE X (.UnaryOp .Not a pos) (HQ ta):=by
 intro d s i H Q I h
 refine UnaryOp_ (cg (f d s i H _ I h) λv l j=> ?_)
 obtain⟨x,H1,g,k,e⟩:=j
 obtain⟨c,rfl,e⟩:=e
 cases k
 exact not_of (wpAny_truthy_bool ⟨.bl (!c),H1,g,rfl,e⟩)
def KH(t:TT)(ta tb:TE):TE:=λd H Q=>t d H λc H1=>if c=true then ta d H1 Q else tb d H1 Q
def Bx{c:Expr}(l:PT X c tA)(k:PE X a ta)(n:PE X b tb):PE X (.IfExp c a b pos) (KH tA ta tb):=by
 intro e s f H Q I h
 refine wpAny_IfExp (cg (l e s f H _ I h) λd j m=> ?_)
 obtain⟨H1,i,g⟩:=m
 cases d with
 |true=>exact k e j f H1 Q i g
 |false=>exact n e j f H1 Q i g
end
def gJ(K:PySem.W.Frag)(H:Hp)(a:Addr)(xs:List V):Prop:=
 Rd H a (.lst xs)∨
  ∃(o:Obj) (b:Array Value) (n:Nat),K.lookup a=some o/\o.cls=.type "list" /\o.dict=none/\o.data=.seq b n/\b.size<=sizeLine/\a_ xs b.toList
def fK(K:PySem.W.Frag)(H:Hp)(a:Addr)(xs:List V):Prop:=
 Rd H a (.tup xs)∨
  ∃(o:Obj) (b:Array Value) (n:Nat),K.lookup a=some o/\o.cls=.type "tuple" /\o.data=.seq b n/\b.size<=sizeLine/\a_ xs b.toList
def IV:Value->Option V
 |.none=>some .non
 |.bool b=>some (.bl b)
 |.int i _=>some (.int i)
 |.str x _=>some (.str x)
 |.bytes b _=>some (.byt b)
 |.float b _=>some (.flt b)
 |.ref a=>some (.ref a)
 |.type n=>some (.ty n)
 |_=>none
def RelV.abs{x:V}{u:Value}(r:RelV x u):IV u=some x:=by
 cases x with
 |non=>cases r;rfl
 |bl _=>cases r;rfl
 |int _=>obtain⟨t,rfl⟩:=r;rfl
 |str _=>obtain⟨t,rfl⟩:=r;rfl
 |byt _=>obtain⟨t,rfl⟩:=r;rfl
 |flt _=>obtain⟨t,rfl⟩:=r;rfl
 |ref _=>cases r;rfl
 |ty _=>cases r;rfl
def RelV.inj{x y:V}{u:Value}(r:RelV x u)(q:RelV y u):x=y:=QdQ (r.abs.symm.trans q.abs)
theorem a_.inj:∀{xs ys:List V} {a:List Value},a_ xs a->a_ ys a->xs=ys
 |_,_,_,.nil,.nil=>rfl
 |_,_,_,.cons r t,.cons r' t'=>by rw[r.inj r',a_.inj t t']
section
variable{X:Cx}{pins:List (Addr×Obj)}{σ:St}{H:Hp}{s:Shared}{a:Addr}{xs ys:List V}
def gJ.of{K:PySem.W.Frag}(h:H a=some (.lst xs)):gJ K H a xs:=.inl (.inl h)
def fK.of{K:PySem.W.Frag}(h:H a=some (.tup xs)):fK K H a xs:=.inl (.inl h)
def Inv.list(I:Inv X pins σ H s)(h:gJ X.K H a xs):∃b:List Value,a_ xs b/\PlainL s.heap a b.toArray/\xs.length<=sizeLine:=by
 rcases h with h|⟨o,b,n,g,d,c,f,i,r⟩
 ·obtain⟨z,b,n,r,e⟩:=h.ok I.hok
  exact⟨b,r,⟨_,n,e,rfl,rfl,rfl⟩,z⟩
 ·refine⟨b.toList,r,⟨o,n,I.kIn a o g,d,c,by simpa using f⟩,?_⟩
  have e:=r.length
  simp only[Array.length_toList] at e
  omega
def Inv.tuple(I:Inv X pins σ H s)(h:fK X.K H a xs):∃b:List Value,a_ xs b/\IsTup s.heap a b.toArray/\xs.length<=sizeLine:=by
 rcases h with h|⟨o,b,n,f,c,d,g,r⟩
 ·obtain⟨z,b,r,p⟩:=h.ok I.hok
  exact⟨b,r,p.it,z⟩
 ·refine⟨b.toList,r,⟨o,I.kIn a o f,c,n,by simpa using d⟩,?_⟩
  have e:=r.length
  simp only[Array.length_toList] at e
  omega
def Inv.list_inj(I:Inv X pins σ H s)(h:gJ X.K H a xs)(h':gJ X.K H a ys):xs=ys:=by
 obtain⟨c,r,⟨o,n,e,_,_,d⟩,_⟩:=I.list h
 obtain⟨b,j,⟨l,k,g,_,_,f⟩,_⟩:=I.list h'
 rw[e] at g;cases g
 rw[d] at f
 injection f with i _
 have:c=b:=by simpa using congrArg Array.toList i
 subst this
 exact r.inj j
def Inv.tuple_inj(I:Inv X pins σ H s)(h:fK X.K H a xs)(h':fK X.K H a ys):xs=ys:=by
 obtain⟨c,r,⟨o,e,_,n,d⟩,_⟩:=I.tuple h
 obtain⟨b,j,⟨l,g,_,k,f⟩,_⟩:=I.tuple h'
 rw[e] at g;cases g
 rw[d] at f
 injection f with i _
 have:c=b:=by simpa using congrArg Array.toList i
 subst this
 exact r.inj j
end
abbrev Cx.wish(X:Cx)(E:Value->Shared->Prop):Cx:={X with xe:=E}
abbrev Cx.nox(X:Cx):Cx:=X.wish λ_ _=>False
def Cx.Ok.wish{X:Cx}(ok:X.Ok)(E:Value->Shared->Prop):(X.wish E).Ok:=
 ⟨ok.mod,ok.kind,ok.glob,ok.blt,ok.above,ok.inj,ok.has,ok.cab,ok.hd,ok.frames,ok.stk,ok.exf,ok.bs,ok.bsz,ok.noex,ok.exfs,ok.funs,ok.frf⟩
def Cx.Ok.unwish{X:Cx}{E:Value->Shared->Prop}(ok:(X.wish E).Ok):X.Ok:=
 ⟨ok.mod,ok.kind,ok.glob,ok.blt,ok.above,ok.inj,ok.has,ok.cab,ok.hd,ok.frames,ok.stk,ok.exf,ok.bs,ok.bsz,ok.noex,ok.exfs,ok.funs,ok.frf⟩
section
variable{X:Cx}{pins:List (Addr×Obj)}{σ:St}{H:Hp}{s:Shared}{E:Value->Shared->Prop}
def Inv.wish(I:Inv X pins σ H s)(E:Value->Shared->Prop):Inv (X.wish E) pins σ H s:=⟨I.ok.wish E,I.os,I.bare,I.base,I.loc,I.cell,I.free,I.freeC,I.pin,I.hok,I.len⟩
def Inv.unwish(I:Inv (X.wish E) pins σ H s):Inv X pins σ H s:=⟨I.ok.unwish,I.os,I.bare,I.base,I.loc,I.cell,I.free,I.freeC,I.pin,I.hok,I.len⟩
theorem SP.unwish{D:Ends}{f:Flow}{c:Shared}(h:SP (X.wish E) pins D f c):SP X pins D f c:=by
 cases f with
 |next=>obtain⟨a,b,I,q⟩:=h;exact⟨a,b,I.unwish,q⟩
 |brk=>obtain⟨a,b,I,q⟩:=h;exact⟨a,b,I.unwish,q⟩
 |cont=>obtain⟨a,b,I,q⟩:=h;exact⟨a,b,I.unwish,q⟩
 |ret u=>obtain⟨v,a,b,I,r,q⟩:=h;exact⟨v,a,b,I.unwish,r,q⟩
def oF.nox{st:List Stmt}{t:TS}(h:oF X.nox st t):oF X st t:=λpins s σ H D I a=>
 QRq (h pins s σ H D (I.wish _) a) (λ_ _ q=>q.unwish) λ_ _ z=>False.elim z
end
section
variable{X:Cx}{st:Stmt}{rest:List Stmt}{t u:TS}{e:Expr}{te:TE}{pos:Pos}
def HP:TS:=λD a H=>D.nx a H
def IQ(t u:TS):TS:=λD a H=>t {D with nx:=u D} a H
def CJ:oF X [] HP:=λ_ _ a H _ I h=>wpAny_execs_nil ⟨a,H,I,h⟩
def Ap(j:PS X st t)(i:oF X rest u):oF X (st::rest) (IQ t u):=by
 intro a s c H D I h
 refine wpAny_execs_cons (cg (j a s c H {D with nx:=u D} I h) λf g q=> ?_)
 cases f with
 | next=>
   obtain⟨b,k,d,q⟩:=q
   exact i a g b k D d q
 |ret v=>exact q
 |brk=>exact q
 |cont=>exact q
def CN(c:PS X st t):oF X [st] t:=by
 intro a s b H D I h
 refine wpAny_execs_cons (cg (c a s b H D I h) λf d q=> ?_)
 cases f with
 |next=>exact wpAny_execs_nil q
 |ret v=>exact q
 |brk=>exact q
 |cont=>exact q
def Inv.quiet{a:List (Addr×Obj)}{b:St}{H:Hp}{s:Shared}(I:Inv X a b H s):interactive X.env=false:=by simp[interactive,I.ok.kind]
def HA(te:TE):TS:=λD a H=>te a H λ_ H1=>D.nx a H1
def DA(he:PE X e te)(f:swapsWith e none pos.line X.env=pure false:=by rfl):PS X (.Expr e pos) (HA te):=by
 intro a s b H D I h
 exact wpAny_Expr_any (cg (he a s b H _ I h) λv g ⟨x,H1,d,i,c⟩=>⟨b,H1,d,c⟩) I.quiet f
def JL(te:TE):TS:=λD a H=>te a H D.rt
def AO(he:PE X e te):PS X (.Return (some e) pos) (JL te):=by
 intro a s b H D I h
 exact wpAny_Return_some (cg (he a s b H _ I h) λv g ⟨x,H1,d,f,c⟩=>⟨x,b,H1,d,f,c⟩)
def JM(c:TT)(t u:TS):TS:=λD a H=>c a H λb H1=>if b=true then t D a H1 else u D a H1
def Hi{c:Expr}{a b:List Stmt}{i:TT}(n:PT X c i)(m:oF X a t)(p:oF X b u):PS X (.If c a b pos) (JM i t u):=by
 intro f s g H D I h
 refine wpAny_If (cg (n f s g H _ I h) λd l o=> ?_)
 obtain⟨H1,k,j⟩:=o
 cases d with
 |true=>exact m f l g H1 D k j
 |false=>exact p f l g H1 D k j
def ED:TS:=λ_ _ _=>False
def BD:PS X st ED:=λ_ _ _ _ _ _ h=>h.elim
end
abbrev TG:=V->St->Hp->(St->Hp->Prop)->Prop
abbrev Dc:=List V->St->Hp->(St->Hp->Prop)->Prop
def PG(X:Cx)(a:Expr)(t:TG):Prop:=
 ∀ (b:List (Addr×Obj)) (s:Shared) (d:St) (H:Hp) (v:V) (u:Value) (Q:St->Hp->Prop),Inv X b d H s->RelV v u->t v d H Q→
   wpAny (model X.prog X.w) X.A (assign a X.env u) (λ_ f=>∃c e,Inv X b c e f/\Q c e) X.xe s
def Cp(X:Cx)(ts:List Expr)(t:Dc):Prop:=
 ∀ (a:List (Addr×Obj)) (s:Shared) (d:St) (H:Hp) (e:List V) (c:List Value) (Q:St->Hp->Prop),Inv X a d H s->a_ e c->t e d H Q→
   wpAny (model X.prog X.w) X.A (assignInOrder ((assignEach ts X.env).map (·.2)) c) (λ_ g=>∃b f,Inv X a b f g/\Q b f) X.xe s
abbrev AE:=V->V->V->Hp->(Hp->Prop)->Prop
def FY(X:Cx)(t:AE):Prop:=
 ∀ (a:List (Addr×Obj)) (s:Shared) (c:St) (H:Hp) (o i v:V) (b d u:Value) (Q:Hp->Prop),Inv X a c H s->RelV o b->RelV i d->RelV v u->t o i v H Q→
   wpAny (model X.prog X.w) X.A (setItem b d u) (λ_ f=>∃e,Inv X a c e f/\Q e) X.xe s
abbrev IC:=V->V->Hp->VK->Prop
def Kb(X:Cx)(c:Operator)(t:IC):Prop:=
 ∀ (a:List (Addr×Obj)) (s:Shared) (b:St) (H:Hp) (x y:V) (v u:Value) (Q:VK),Inv X a b H s->RelV x v->RelV y u->t x y H Q→
   wpAny (model X.prog X.w) X.A (inplaceOp c v u) (EP X a b Q) X.xe s
section
variable{X:Cx}{pos:Pos}
def o6(i:Nat):TG:=λv a H Q=>Q (a.set i (some v)) H
def tf{i:Nat}{x:Str}(c:X.N.Nodup)(hi:X.N[i]?=some x)(e:Loc X.env.scope x)(b:X.fn x=true\/X.env.scope.names.lookup x=some .local:=by first|exact .inl rfl|exact .inr rfl|assumption):PG X (.Name x pos) (o6 i):=by
 intro a s f H v u Q I r h
 exact wpAny_assign_Name (lg I c hi e r (λg d=>⟨_,H,d,h⟩) b)
def IW:Dc:=λb a H Q=>b= []/\Q a H
def G3(t:TG)(u:Dc):Dc:=λc b H Q=>∃v r,c=v::r/\t v b H λa d=>u r a d Q
def CH:Cp X [] IW:=by
 intro a s b H d c Q I r h
 obtain⟨e,h⟩:=h
 subst e
 cases r
 exact assignInOrder_nil ⟨b,H,I,h⟩
def Ca{e:Expr}{b:List Expr}{t:TG}{u:Dc}(g:PG X e t)(n:Cp X b u)
  (d:(assignEach (e::b) X.env).map (·.2)=assign e X.env::(assignEach b X.env).map (·.2):=by rfl):Cp X (e::b) (G3 t u):=by
 intro a s l H w q Q I r h
 obtain⟨v,p,j,h⟩:=h
 subst j
 cases r with
 | cons r o=>
   rw[d]
   refine assignInOrder_cons (cg (g a s l H _ _ _ I r h) λ_ m f=> ?_)
   obtain⟨c,H1,k,i⟩:=f
   exact n a m c H1 _ _ Q k o i
def Jy(K:PySem.W.Frag)(n:Nat)(t:Dc):TG:=λv c H Q=>∃a b,v=.ref a/\fK K H a b/\b.length=n/\t b c H Q
def FA{d:List Expr}{k:Nat}{t:Dc}{n:Nat}(l:X.calm=true)(h:Cp X d t)
  (x:(assignEach d X.env).length=n:=by rfl) (g:(assignEach d X.env).findIdx? (·.1)=none:=by rfl):PG X (.Tuple d k pos) (Jy X.K n t):=by
 intro c s i H v u Q I r f
 obtain⟨a,y,p,z,m,f⟩:=f
 subst p
 cases r
 obtain⟨w,j,q,F⟩:=I.tuple z
 refine assign_Tuple_tuple (I.ok.hd l) q (by simp[x,←m,j.length]) g λC B=> ?_
 have A:Inv X c i H {s with heap:=C}:=I.kept (t':=s.toks) λb o e=>B b o (Qwq (Qiq e)) e
 exact h c _ i H y _ Q A (by simpa using j) f
def GL(c b:TE)(t:AE):TG:=λv a H Q=>c a H λo H1=>b a H1 λi H2=>t o i v H2 λH3=>Q a H3
def EV{o i:Expr}{g f:TE}{t:AE}(w:PE X o g)(hi:PE X i f)(l:FY X t)
  (j:∀v,assign (.Subscript o i pos) X.env v=(do
   let b←holding [v] (eval o X.env)
   let d←holding [v,b] (eval i X.env)
   standAt pos
   holding [v,b,d] (setItem b d v)
   release [v,b,d] []):=by intro _;rfl):PG X (.Subscript o i pos) (GL g f t):=by
 intro a s e H v u Q I r h
 rw[j]
 refine Qaq (QLq (cg (w a s e H _ I h) λb C c=> ?_))
 obtain⟨x,H1,z,n,q⟩:=c
 refine Qaq (QLq (cg (hi a C e H1 _ z q) λd m c=> ?_))
 obtain⟨y,H2,p,B,k⟩:=c
 refine Qaq (wpAny_standAt (Qaq (QLq (cg (l a m e H2 x y v b d u _ p n B r k) λ_ G c=> ?_))))
 obtain⟨H3,A,F⟩:=c
 exact wpAny_release ⟨e,H3,A,F⟩
def B4(b:TE)(g:TG):TS:=λD a H=>b a H λx H1=>g x a H1 D.nx
def Fw{b e:Expr}{c:TE}{g:TG}(he:PE X e c)(j:PG X b g)(f:swapsWithSole [b] e pos.line X.env=pure false:=by rfl)(i:swappedStores [b] e X.env=pure none:=by rfl)
  (k:(assignEach [b] X.env).map (·.2)= [assign b X.env]:=by rfl):PS X (.Assign [b] e pos) (B4 c g):=by
 intro a s d H D I h
 refine wpAny_Assign_stores (cg (he a s d H _ I h) λv o ⟨x,H1,n,l,m⟩=> ?_) f i
 rw[k]
 exact cg (j a o d H1 x v _ n l m) λ_ p q=>q
def F_{i:Nat}{x:Str}{e:Expr}{c:TE}{a:Pos}(k:X.N.Nodup)(hi:X.N[i]?=some x)(o:Loc X.env.scope x)(he:PE X e c)(d:swapsWith e (some (.Name x a)) pos.line X.env=pure false:=by rfl)(l:X.fn x=true\/X.env.scope.names.lookup x=some .local:=by first|exact .inl rfl|exact .inr rfl|assumption):
  PS X (.Assign [.Name x a] e pos) (B4 c (o6 i)):=by
 intro b s n H D I h
 refine wpAny_Assign_Name (cg (he b s n H _ I h) λv q ⟨y,H1,m,f,j⟩=> ?_) d
 exact lg m k hi o f (λp g=>⟨_,H1,g,j⟩) l
def Hy(i j:Nat)(c:TA):TS:=λD a H=>c a H λb H1=>∃v w,b= [v,w]/\D.nx ((a.set i (some v)).set j (some w)) H1
def BH{i j:Nat}{x y:Str}{a b:Expr}{F:TA}{r t k:Pos}{kt k2 pt2}(L:X.calm=true)(z:X.N.Nodup)(hi:X.N[i]?=some x)(hj:X.N[j]?=some y)(m:i≠j)
  (G:X.env.scope.names.lookup x=some .local) (B:X.env.scope.names.lookup y=some .local) (J:PA X [a,b] F)
  (R:swappedStores [.Tuple [.Name x r,.Name y t] kt k] (.Tuple [a,b] k2 pt2) X.env=pure (some [x,y]))
  (M:swapsWithSole [.Tuple [.Name x r,.Name y t] kt k] (.Tuple [a,b] k2 pt2) pos.line X.env=pure false:=by rfl):
  PS X (.Assign [.Tuple [.Name x r,.Name y t] kt k] (.Tuple [a,b] k2 pt2) pos) (Hy i j F):=by
 intro c s C H D I h
 rw[exec_Assign_arm]
 refine Qaq (wpAny_standAt ?_)
 rw[M]
 refine Qaq (Qgq ?_)
 rw[Quq (by decide)]
 refine Qaq (Tuple_ (cg (J _ c s C H _ I h) λK g S=> ?_))
 obtain⟨vs,H1,I1,U,l⟩:=S
 obtain⟨v,w,Z,l⟩:=l
 subst Z
 obtain⟨d,f,rfl,rv,rw'⟩:∃d f,K= [d,f]/\RelV v d/\RelV w f:=by
  cases U with
  | cons p q=>
    cases q with
    | cons P Y=>
      cases Y
      exact⟨_,_,rfl,p,P⟩
 refine QhQ ?_ (by show 2<=_;decide)
 have W:Inv X c C H1 {g with heap:=g.heap.push {cls:=.type "tuple",data:=.seq [d,f].toArray}}:=I1.kept (t':=g.toks) λb o e=>Qcq _ e
 rw[R]
 refine Qaq (Qgq ?_)
 show wpAny (model X.prog X.w) X.A (do rule "assign.swapped-stores";let items←unpackItems (.ref g.heap.objs.size) 2 none;assignInOrder [λv=>bindName X.env y v,λv=>bindName X.env x v] items.reverse;pure Flow.next) _ _ _
 refine Qaq (wpAny_rule (Qaq (unpackItems_tuple (items:= #[d,f]) (I.ok.hd L) (IsTup.new g.heap _) λh' n=> ?_)))
 have I3:=W.kept (h':=h') (t':=g.toks) λb o e=>n b o (Qwq (Qiq e)) e
 show wpAny _ _ (assignInOrder [λv=>bindName X.env y v,λv=>bindName X.env x v] [f,d] >>= λ_=>pure Flow.next) _ _ _
 refine Qaq (assignInOrder_cons (wpAny_bindName (lg I3 z hj (.inl B) rw' (λs2 Q=> ?_) (.inr B))))
 refine assignInOrder_cons (wpAny_bindName (lg Q z hi (.inl G) rv (λs3 u=>assignInOrder_nil (Qgq ?_)) (.inr G)))
 rw[List.set_comm _ _ (Ne.symm m)] at u
 exact⟨_,H1,u,l⟩
def GU(g e f:TE)(a:V->V->Hp->VK->Prop)(d:IC)(b:AE):TS:=λD c H=>g c H λo H1=>e c H1 λi H2=>a o i H2 λx H3=>f c H3 λy H4=>d x y H4 λz H5=>b o i z H5 λh=>D.nx c h
def GW(X:Cx)(t:V->V->Hp->VK->Prop):Prop:=
 ∀ (a:List (Addr×Obj)) (s:Shared) (c:St) (H:Hp) (o i:V) (b d:Value) (Q:VK),Inv X a c H s->RelV o b->RelV i d->t o i H Q→
   wpAny (model X.prog X.w) X.A (getItem b d) (EP X a c Q) X.xe s
def CP{o i e:Expr}{u n p:TE}{b:V->V->Hp->VK->Prop}{k:IC}{c:AE}{r:Operator}{l:Pos}(Q:PE X o u)(hi:PE X i n)(J:GW X b)(he:PE X e p)(M:Kb X r k)(C:FY X c)
  (y:∀j f new,augStore i j f new=(do holding [new,j,f] (setItem j f new);release [new,j,f] [];pure .next):=by intros;rfl):PS X (.AugAssign (.Subscript o i l) r e pos) (GU u n p b k c):=by
 intro a s g H D I h
 refine wpAny_AugAssign_SubscriptAny (cg (Q a s g H _ I h) λj s1 ⟨w,H1,I1,q,P⟩=> ?_) y
 refine cg (hi a s1 g H1 _ I1 P) λf G d=> ?_
 obtain⟨t,H2,N,x,A⟩:=d
 refine cg (J a G g H2 w t j f _ N q x A) λm W d=> ?_
 obtain⟨K,H3,I3,L,q3⟩:=d
 refine cg (he a W g H3 _ I3 q3) λv Y d=> ?_
 obtain⟨x4,H4,F,z,q4⟩:=d
 refine cg (M a Y g H4 K x4 m v _ F L z q4) λnew Z d=> ?_
 obtain⟨B,H5,R,r5,S⟩:=d
 exact cg (C a Z g H5 w t B j f new _ R q x r5 S) λ_ s6 ⟨H6,I6,U⟩=>⟨g,H6,I6,U⟩
def KG(f:Int->Int->Int):IC:=λx y H Q=>∃i j,x=.int i/\y=.int j/\Q (.int (f i j)) H
def F3:Kb X .Add (KG λi j=>i+j):=by
 intro a s g H x y v u Q I c e h
 obtain⟨i,j,d,b,q⟩:=h
 subst d;subst b
 obtain⟨t,rfl⟩:=c
 obtain⟨f,rfl⟩:=e
 exact iadd_int ⟨.int _,H,I.tok _,⟨_,rfl⟩,q⟩
end
section
variable{X:Cx}{pos:Pos}
def E9(c:TT)(g:TS):TS:=λD a H=>∃W:Nat->St->Hp->Prop,(∃m,W m a H)/\∀m a H,W m a H→
 c a H λb H1=>if b=true then∃N:St->Hp->Prop,(∀d f,N d f->∃e,e<m/\W e d f)/\g {D with nx:=N,ct:=N,bk:=D.nx} a H1 else D.nx a H1
def Bb{c:Expr}{g:List Stmt}{t:TT}{z:TS}(x:PassesOwn (model X.prog X.w) X.A X.env X.xe)(C:PT X c t)(S:oF X g z):PS X (.While c g [] pos) (E9 t z):=by
 intro a s P H D I h
 obtain⟨W,⟨J,L⟩,j⟩:=h
 refine wpAny_While (codeAny_whileLoop (λn R=>∃i u,Inv X a i u R/\W n i u) ?_ J ⟨P,H,I,L⟩)
 rintro n Q ⟨e,H1,M,K⟩
 refine wpAny_passesOwn x (cg (C a Q e H1 _ M (j n e H1 K)) λb F G=> ?_)
 obtain⟨H2,y,k⟩:=G
 cases b with
 | true=>
   obtain⟨N,B,k⟩:=k
   rw[Qhq rfl]
   refine wpAny_passesOwn x (cg (S a F e H2 _ y k) λf U l=> ?_)
   cases f with
   | next=>
     obtain⟨d,H3,m,o⟩:=l
     obtain⟨r,q,p⟩:=B d H3 o
     exact⟨r,q,d,H3,m,p⟩
   | cont=>
     obtain⟨d,H3,m,o⟩:=l
     obtain⟨r,q,p⟩:=B d H3 o
     exact⟨r,q,d,H3,m,p⟩
   |brk=>exact l
   |ret v=>exact l
 | false=>
   rw[Quq Qtq]
   exact wpAny_execs_nil ⟨e,H2,y,k⟩
end
structure It where
 go:Nat->Hp->Prop
 yld:Nat->Hp->V->Hp->Prop
 stop:Nat->Hp->Prop
def ph(X:Cx)(a:List (Addr×Obj))(H:Hp)(b:Addr):Prop:=
 H b=none/\b≠X.env.locals/\b∉X.fs/\(b∈X.ex\/X.s₀.heap.objs.size<=b)/\(∀x c,X.env.cells.lookup x=some c->c≠b)/\∀p∈X.pn++a,p.1≠b
def Inv.fpOk{X:Cx}{a:List (Addr×Obj)}{g:St}{H f:Hp}{s:Shared}{b:Addr}(I:Inv X a g H s)(d:s.heap.objs.size<=b)(h:f b=none):ph X a f b:=by
 refine⟨h,Nat.ne_of_gt (Qqq I.lt d),I.nofs d,.inr (QAq I.sz d),λx c e z=> ?_,λp i z=> ?_⟩
 ·obtain⟨v,q⟩:=I.cell x c e
  exact absurd (Qqq q.lt (by rw[z];exact d)) (Nat.lt_irrefl _)
 ·exact absurd (Qqq (Qiq (I.pin p i).1) (by rw[z];exact d)) (Nat.lt_irrefl _)
structure Turn(P:Program)(w:World)(K:PySem.W.Frag)(tg:Expr)(J:It)(fp:List Addr)(it:Addr)(tn:Nat->Heap->Prop):Prop where
 mem:it∈fp
 obj:∀i h,tn i h->∀b∈fp,∃o,h.get? b=some o/\∀v,o.data≠.cell v
 keep:∀i h h',tn i h->(∀b∈fp,∀o,h.get? b=some o->h'.get? b=some o)->tn i h'
 item:∀(X:Cx),X.prog=P->X.w=w->X.K=K->X.calm=true->∀(i:Nat) (pins:List (Addr×Obj)) (s:Shared) (σ:St) (H:Hp) (E:Value->Shared->Prop),Inv X pins σ H s->(∀b∈fp,ph X pins H b)->tn i s.heap->J.go i H→
  wpAny (model P w) X.A (pyNext (.ref it)) (λr s1=>∃u,r=some u∧
   wpAny (model P w) X.A (letOwnedTupleGo tg (.ref it) u) (λ_ s2=>∃x H',Inv X pins σ H' s2/\RelV x u/\J.yld i H x H'/\tn (i+1) s2.heap/\∀b∈fp,H' b=none) E s1) E s
 done:∀(X:Cx),X.prog=P->X.w=w->X.K=K->X.calm=true->∀(i:Nat) (pins:List (Addr×Obj)) (s:Shared) (σ:St) (H:Hp) (E:Value->Shared->Prop),Inv X pins σ H s->(∀b∈fp,ph X pins H b)->tn i s.heap->J.stop i H→
  wpAny (model P w) X.A (pyNext (.ref it)) (λr s1=>r=none/\Inv X pins σ H s1) E s
 self:∀(A:Around) (i:Nat) (s:Shared) (Q:Value->Shared->Prop) (E:Value->Shared->Prop),tn i s.heap->Q (.ref it) s->wpAny (model P w) A (pyIter (.ref it)) Q E s
abbrev TI:=St->Hp->(It->Hp->Prop)->Prop
def JH(X:Cx)(a:List (Addr×Obj))(j:St)(i:Expr)(R:It->Hp->Prop)(c:Value)(f:Shared):Prop:=
 ∃(e:Addr) (h:List Addr) (g:Nat->Heap->Prop) (J:It) (d:Hp),c=.ref e/\Inv X a j d f/\Turn X.prog X.w X.K i J h e g/\g 0 f.heap/\(∀b∈h,ph X a d b)/\R J d
def PI(X:Cx)(d b:Expr)(f:TI):Prop:=
 ∀ (a:List (Addr×Obj)) (s:Shared) (c:St) (H:Hp) (R:It->Hp->Prop),Inv X a c H s->f c H R→
   wpAny (model X.prog X.w) X.A (eval b X.env) (λv e=>wpAny (model X.prog X.w) X.A (pyIter v) (JH X a c d R) X.xe e) X.xe s
def xT{M:Model}{A:Around}{E:Value->Shared->Prop}{s:Shared}{b:Expr}{it:Addr}{u:Value}{o:Obj}{n:String}{vs:Array Value}{Q:Unit->Shared->Prop}(d:s.heap.get? it=some o)(c:o.cls=.type n)(hd:o.data=.fields vs)
    (e: ["enumerate","zip","dict_itemiterator","dict_reverseitemiterator","odict_iterator","itertools.zip_longest","itertools.pairwise"].contains n=false) (a:Q () s):wpAny M A (letOwnedTupleGo b (.ref it) u) Q E s:=by
  unfold letOwnedTupleGo
  cases b <;>first
    |exact Qgq a
    |(cases u <;>first
        |exact Qgq a
        |(refine Qaq (wpAny_load d ?_)
          rw[c,hd]
          show wpAny M A (if (["enumerate","zip","dict_itemiterator","dict_reverseitemiterator","odict_iterator","itertools.zip_longest","itertools.pairwise"].contains n&&vs[0]? ==some (rawInt _))=true then _ else _) Q E s
          rw[Quq (by intro h;rw[e,Bool.false_and] at h;cases h)]
          exact Qgq a))
def Ka(K:PySem.W.Frag)(a:Addr):It:=
 ⟨λi H=>∃b x,gJ K H a b/\b[i]?=some x,λi H x c=>c=H/\∀b,gJ K H a b->b[i]?=some x,λi H=>∃b,gJ K H a b/\b.length<=i⟩
def J9(K:PySem.W.Frag)(a:Addr):It:=
 ⟨λi H=>∃b x,fK K H a b/\b[i]?=some x,λi H x c=>c=H/\∀b,fK K H a b->b[i]?=some x,λi H=>∃b,fK K H a b/\b.length<=i⟩
def Il(lo:Int)(n:Nat):It:=⟨λi _=>i<n,λi H x a=>a=H/\x=.int (lo+i),λi _=>n<=i⟩
def zi{P:Program}{w:World}{K:PySem.W.Frag}{tg:Expr}(a it:Addr):Turn P w K tg (Ka K a) [it] it (λi h=>h.IsListIter it a i) where
 mem:=by simp
 obj:=λi h f b j=>by
  have e:b=it:=by simpa using j
  subst e
  obtain⟨o,e,c,d⟩:=f
  exact⟨o,e,λv z=>by rw[d] at z;cases z⟩
 keep:=λi h q f k=>f.at λo e=>k it (by simp) o e
 item:=by
  intro X r t F Q i g s R H E I n f y
  subst r t F
  obtain⟨Z,x,m,M⟩:=y
  obtain⟨B,J,p,hz⟩:=I.list m
  obtain⟨u,U,S⟩:=J.get M
  obtain⟨G,L,f2,A,C,N⟩:=n it (by simp)
  refine wpAny_pyNext_list_item f p.isList (x:=u) (by simpa using U) λq l Y=> ?_
  have I1:Inv X g R H {s with heap:=q}:=I.turned (t':=s.toks) (λb o j e=>(Y.2 b j).trans e) G L A C N
  obtain⟨o,e,c,d⟩:=id l
  exact⟨u,rfl,xT (s:={s with heap:=q}) e c d (by decide) ⟨x,H,I1,S,⟨rfl,λys hy=>by rw[I.list_inj hy m];exact M⟩,l,λb j=>(n b j).1⟩⟩
 done:=by
  intro X r t F Q i g s R H E I n f y
  subst r t F
  obtain⟨Z,m,M⟩:=y
  obtain⟨B,J,p,hz⟩:=I.list m
  obtain⟨G,L,f2,A,C,N⟩:=n it (by simp)
  have hl:=J.length
  exact wpAny_pyNext_list_end (I.ok.hd Q) f p.isList (by simp;omega) λq eb=>⟨rfl,I.turned (t':=s.toks) (λb o j e=>eb b o j e) G L A C N⟩
 self:=λ_ _ _ _ _ f h=>wpAny_pyIter_listiter f h
def xn{P:Program}{w:World}{K:PySem.W.Frag}{tg:Expr}(a it:Addr):Turn P w K tg (J9 K a) [it] it (λi h=>h.IsTupleIter it a i) where
 mem:=by simp
 obj:=λi h f b l=>by
  have e:b=it:=by simpa using l
  subst e
  obtain⟨o,e,c,d⟩:=f
  exact⟨o,e,λv z=>by rw[d] at z;cases z⟩
 keep:=λi h r f k=>f.at λo e=>k it (by simp) o e
 item:=by
  intro X t y F Q i g s R H E I q f A
  subst t y F
  obtain⟨Z,x,n,M⟩:=A
  obtain⟨j,J,p,hz⟩:=I.tuple n
  obtain⟨u,U,S⟩:=J.get M
  obtain⟨G,L,f2,B,C,N⟩:=q it (by simp)
  refine wpAny_pyNext_tuple_item f (show s.heap.IsTuple a j.toArray from p) (x:=u) (by simpa using U) λr m Y=> ?_
  have I1:Inv X g R H {s with heap:=r}:=I.turned (t':=s.toks) (λb o l e=>(Y.2 b l).trans e) G L B C N
  obtain⟨o,e,c,d⟩:=id m
  exact⟨u,rfl,xT (s:={s with heap:=r}) e c d (by decide) ⟨x,H,I1,S,⟨rfl,λys hy=>by rw[I.tuple_inj hy n];exact M⟩,m,λb l=>(q b l).1⟩⟩
 done:=by
  intro X t y F Q i g s R H E I q f A
  subst t y F
  obtain⟨Z,n,M⟩:=A
  obtain⟨j,J,p,hz⟩:=I.tuple n
  obtain⟨G,L,f2,B,C,N⟩:=q it (by simp)
  have hl:=J.length
  exact wpAny_pyNext_tuple_end (I.ok.hd Q) f (show s.heap.IsTuple a j.toArray from p) (by simp;omega) λr eb=>⟨rfl,I.turned (t':=s.toks) (λb o l e=>eb b o l e) G L B C N⟩
 self:=λ_ _ _ _ _ f h=>wpAny_pyIter_tupleiter f h
def wR{P:Program}{w:World}{K:PySem.W.Frag}{N:Expr}(it:Addr)(lo:Int)(n:Nat):Turn P w K N (Il lo n) [it] it (λi h=>IsRangeIter h it (lo+(i:Nat)*1) ((n:Int)-(i:Nat)) 1) where
 mem:=by simp
 obj:=λi h a b d=>by
  have e:b=it:=by simpa using d
  subst e
  exact⟨_,a,λv z=>by
   have G:Data.fields _=Data.cell v:=z
   cases G⟩
 keep:=λi h j a k=>k it (by simp) _ a
 item:=by
  intro X m p x l i c s C H E I g a q
  subst m p x
  obtain⟨y,A,L,r,u,B⟩:=g it (by simp)
  have W:=Walks.range (prog:=X.prog) (w:=X.w) (I.ok.hd l) it lo 1 n
  refine W.item i s _ _ q a λv j F Q f M=> ?_
  obtain⟨t,rfl⟩:=Q
  have J:Inv X c C H {s with heap:=j,toks:=F}:=I.turned (λb o d e=>M b o (by simpa using d) e) y A r u B
  refine⟨_,rfl,xT (s:={s with heap:=j,toks:=F}) (n:="range_iterator") f rfl rfl (by decide) ⟨.int (lo+i),H,J,⟨t,?_⟩,⟨rfl,rfl⟩,f,λb d=>(g b d).1⟩⟩
  rw[Int.mul_one]
 done:=by
  intro X m p x l i c s C H E I g a q
  subst m p x
  obtain⟨y,A,L,r,u,B⟩:=g it (by simp)
  exact wpAny_pyNext_range_end (I.ok.hd l) a (by have:n<=i:=q;omega) λj R=>⟨rfl,I.turned (t':=s.toks) (λb o d e=>R b o d e) y A r u B⟩
 self:=λ_ _ _ _ _ a h=>wpAny_pyIter_rangeiter a h
section
variable{X:Cx}{tg:Expr}
def A3{a:List (Addr×Obj)}{d:St}{H:Hp}{s:Shared}{R:It->Hp->Prop}{E:Value->Shared->Prop}{lo hi:Int}{t u v:Tok}{f:Nat}(I:Inv X a d H s)(g: -(2^62)<=lo)(l:lo<2^62)(j: -(2^62)<=hi)(k:hi<2^62)
  (q:R (Il lo (hi-lo).toNat) H):wpAny (model X.prog X.w) X.A (pyIter (.ref s.heap.objs.size)) (JH X a d tg R) E {s with heap:=s.heap.push {cls:=.type "range",data:=.fields #[.int lo t,.int hi u,.int 1 v]},toks:=f}:=by
 refine wpAny_pyIter_range (IsRange.new ..) (small_one g l j k) ?_
 have c:Inv X a d H {s with heap:=s.heap.push {cls:=.type "range",data:=.fields #[.int lo t,.int hi u,.int 1 v]},toks:=f}:=I.kept λb o e=>Qcq _ e
 refine⟨(s.heap.push {cls:=.type "range",data:=.fields #[.int lo t,.int hi u,.int 1 v]}).objs.size,[(s.heap.push {cls:=.type "range",data:=.fields #[.int lo t,.int hi u,.int 1 v]}).objs.size],_,_,H,rfl,
  c.kept (t':=f) λb o e=>Qcq _ e,wR _ lo (hi-lo).toNat,?_,λb m=> ?_,q⟩
 ·have i:lo+((0:Nat):Int)*1=lo:=by simp
  have h:(((hi-lo).toNat:Nat):Int)-((0:Nat):Int)=Builtin.Range.rangeSize lo hi 1:=by rw[rangeSize_one];split <;>omega
  show IsRangeIter _ _ (lo+((0:Nat):Int)*1) ((((hi-lo).toNat:Nat):Int)-((0:Nat):Int)) 1
  rw[i,h]
  exact Qrq _ rfl
 ·have e:b=(s.heap.push {cls:=.type "range",data:=.fields #[.int lo t,.int hi u,.int 1 v]}).objs.size:=by simpa using m
  subst e
  exact c.fpOk (Qmq _) (c.hok.fresh (Qmq _))
def Hf(c:TA):TI:=λa H R=>c a H λb H1=>∃j:Int,b= [.int j]/\ -(2^62)<=j/\j<2^62/\R (Il 0 j.toNat) H1
def yX{a:Expr}{d:TA}{p pos:Pos}(k:Gl X "range")(o:X.mg "range"=none)(f:PA X [a] d)(i:starEach [a] X.env= [(false,eval a X.env)]:=by rfl):PI X tg (.Call (.Name "range" p) [a] [] pos) (Hf d):=by
 intro b s n H R I h
 refine Call_ (jh I k o boot_range (PyProof.Rows.callWith_type1 (cg (f pos b s n H _ I h) λv x ⟨w,H1,m,l,c⟩=> ?_) i rfl))
 obtain⟨j,e,c,g,q⟩:=c
 subst e
 cases l with
 | cons r u=>
   cases u
   obtain⟨t,rfl⟩:=r
   exact call_range_1 (A3 m (by omega) (by omega) c g (by simpa using q))
def Jo(h:TI)(g:TG)(f:TS):TS:=λD a H=>h a H λJ H1=>∃W:Nat->Nat->St->Hp->Prop,(∃m,W 0 m a H1)/\∀i m a H,W i m a H→
 (J.stop i H/\D.nx a H)\/(J.go i H/\∃N:St->Hp->Prop,(∀b c,N b c->∃e,e<m/\W (i+1) e b c)/\∀x c,J.yld i H x c->g x a c λd H2=>f {D with nx:=N,ct:=N,bk:=D.nx} d H2)
def mz(fp:List Addr)(h:Heap):List (Addr×Obj):=fp.filterMap λb=>(h.get? b).map λo=>(b,o)
def dJ{fp:List Addr}{h:Heap}{b:Addr}{o:Obj}(a:b∈fp)(e:h.get? b=some o):(b,o)∈mz fp h:=List.mem_filterMap.mpr ⟨b,a,by rw[e];rfl⟩
def y9{fp:List Addr}{h:Heap}{p:Addr×Obj}(a:p∈mz fp h):p.1∈fp/\h.get? p.1=some p.2:=by
 obtain⟨b,c,e⟩:=List.mem_filterMap.mp a
 cases q:h.get? b with
 |none=>rw[q] at e;cases e
 | some o=>
   rw[q] at e
   have d:(b,o)=p:=QdQ e
   subst d
   exact⟨c,q⟩
def Inv.pinned{a:List (Addr×Obj)}{c:St}{H:Hp}{s:Shared}{fp:List Addr}(I:Inv X a c H s)(k:∀b∈fp,ph X a H b)(i:∀b∈fp,∃o,s.heap.get? b=some o/\∀v,o.data≠.cell v):Inv X (a++mz fp s.heap) c H s:=
 I.pins_of λp h=>(mQa.mp h).elim (λz=>I.pin p (Qoq _ z)) λz=>by
  obtain⟨f,e⟩:=y9 z
  obtain⟨j,m,l,_⟩:=k p.1 f
  obtain⟨o,g,d⟩:=i p.1 f
  rw[e] at g;cases g
  exact⟨e,j,m,l,d⟩
def Inv.unpinned{a c:List (Addr×Obj)}{b:St}{H:Hp}{s:Shared}(I:Inv X (a++c) b H s):Inv X a b H s:=I.pins_of λp d=>I.pin p (Qoq _ (List.mem_append_left _ d))
def Et{y:Expr}{C:List Stmt}{wi:TI}{g:TG}{tb:TS}{pos:Pos}(M:PassesOwn (model X.prog X.w) X.A X.env X.xe)(hc:X.calm=true)(hi:PI X tg y wi)(hg:PG X tg g)(q:oF X C tb)
  (hs:∀x,foldedSetIterable y X.env x=pure x:=by intro _;rfl):PS X (.For tg y C [] pos) (Jo wi g tb):=by
 intro c s σ H D I h
 refine wpAny_For (cg (hi c s σ H _ I h) λv s1 h1=>cg h1 λa3 s2 h2=> ?_) hs
 obtain⟨it,P,tn,J,H2,e,I2,T,a2,f2,W,⟨m0,w0⟩,S⟩:=h2
 subst e
 have t:∀{z:Hp},(∀b∈P,z b=none)->∀b∈P,ph X c z b:=λhn b q=>⟨hn b q,(f2 b q).2⟩
 refine codeAny_forLoop_any (λn s'=>∃i j z,Inv X c j z s'/\tn i s'.heap/\(∀b∈P,z b=none)/\W i n j z) ?_ m0 ⟨0,σ,H2,I2,a2,λb q=>(f2 b q).1,w0⟩
 rintro n s3 ⟨i,p,H3,I3,Q,K,w3⟩
 rcases S i n p H3 w3 with⟨stop,qn⟩|⟨go,N,hN,L⟩
 ·refine wpAny_passesOwn M (cg (T.done X rfl rfl rfl hc i c s3 p H3 X.xe I3 (t K) Q stop) λr s4 F=> ?_)
  obtain⟨Y,I4⟩:=F
  subst Y
  exact wpAny_execs_nil ⟨p,H3,I4,qn⟩
 ·refine wpAny_passesOwn M (cg (T.item X rfl rfl rfl hc i c s3 p H3 X.xe I3 (t K) Q go) λr s4 F=> ?_)
  obtain⟨u,Y,h4⟩:=F
  subst Y
  refine wpAny_passesOwn M (cg h4 λ_ s5 F=> ?_)
  obtain⟨x,H5,I5,r5,y5,G,a1⟩:=F
  have U:=I5.pinned (t a1) (T.obj _ _ G)
  refine wpAny_passesOwn M (cg (hg _ s5 p H5 x u _ U r5 (L x H5 y5)) λ_ s6 F=> ?_)
  obtain⟨Z,H6,I6,q6⟩:=F
  refine wpAny_passesOwn M (cg (q _ s6 Z H6 _ I6 q6) λf s7 B=> ?_)
  have again:∀{a:St} {l:Hp},Inv X (c++mz P s5.heap) a l s7->N a l->∃m,m<n/\∃i j z,Inv X c j z s7/\tn i s7.heap/\(∀b∈P,z b=none)/\W i m j z:=λ{a l} k R=>by
   obtain⟨m',hm,w7⟩:=hN a l R
   refine⟨m',hm,i+1,a,l,k.unpinned,T.keep _ _ _ G λb q o e=>(k.pin (b,o) (Qoq _ (Qoq _ (dJ q e)))).1,λb q=> ?_,w7⟩
   obtain⟨o,e,d⟩:=T.obj _ _ G b q
   exact(k.pin (b,o) (Qoq _ (Qoq _ (dJ q e)))).2.1
  cases f with
  |next=>obtain⟨a,l,k,R⟩:=B;exact again k R
  |cont=>obtain⟨a,l,k,R⟩:=B;exact again k R
  |brk=>obtain⟨a,l,k,B⟩:=B;exact⟨a,l,k.unpinned,B⟩
  |ret v=>obtain⟨x7,a,l,k,r7,B⟩:=B;exact⟨x7,a,l,k.unpinned,r7,B⟩
end
abbrev R2:=V->V->Hp->VK->Prop
def iH(X:Cx)(f:Value->Value->Sem Value)(r:R2):Prop:=
 ∀ (a:List (Addr×Obj)) (s:Shared) (b:St) (H:Hp) (x y:V) (v u:Value) (Q:VK),Inv X a b H s->RelV x v->RelV y u->r x y H Q→
   wpAny (model X.prog X.w) X.A (f v u) (EP X a b Q) X.xe s
def JJ(X:Cx)(f:Value->Sem Value)(r:V->Hp->VK->Prop):Prop:=
 ∀ (a:List (Addr×Obj)) (s:Shared) (b:St) (H:Hp) (x:V) (v:Value) (Q:VK),Inv X a b H s->RelV x v->r x H Q→
   wpAny (model X.prog X.w) X.A (f v) (EP X a b Q) X.xe s
def iQ(X:Cx)(f:Value)(r:List V->Hp->VK->Prop):Prop:=
 ∀ (a:List (Addr×Obj)) (s:Shared) (c:St) (H:Hp) (d:List V) (b:List Value) (Q:VK),Inv X a c H s->a_ d b->r d H Q→
   wpAny (model X.prog X.w) X.A (call f b) (EP X a c Q) X.xe s
def JQ(X:Cx)(r:V->Hp->(Bool->Hp->Prop)->Prop):Prop:=
 ∀ (a:List (Addr×Obj)) (s:Shared) (b:St) (H:Hp) (x:V) (v:Value) (Q:Bool->Hp->Prop),Inv X a b H s->RelV x v->r x H Q→
   wpAny (model X.prog X.w) X.A (truthy v) (TP X a b Q) X.xe s
def DY(r:R2)(c b:TE):TE:=λa H Q=>c a H λx H1=>b a H1 λy H2=>r x y H2 Q
def KJ(r:V->Hp->VK->Prop)(b:TE):TE:=λa H Q=>b a H λx H1=>r x H1 Q
def rI(C:Int->Int->Prop)(g:Int->Int->V):R2:=λx y H Q=>∃i j,x=.int i/\y=.int j/\C i j/\Q (g i j) H
def zF(g:Int->Int->V):R2:=λx y H Q=>∃i j,x=.int i/\y=.int j/\Q (g i j) H
def rU(g:Int->V):V->Hp->VK->Prop:=λx H Q=>∃i,x=.int i/\Q (g i) H
section
variable{X:Cx}{a b c:Expr}{ta tb tc:TE}{pos:Pos}
def EA(l:PE X a ta)(B:PE X b tb){d:List (Addr×Obj)}{s:Shared}{e:St}{H:Hp}{R:V->V->Hp->Prop}(I:Inv X d e H s)
  (h:ta e H λx H1=>tb e H1 λy H2=>R x y H2) {Q:Value->Shared->Prop} {f:Value->Value->Sem Value}
  (q:∀v u j x y H2,Inv X d e H2 j->RelV x v->RelV y u->R x y H2->wpAny (model X.prog X.w) X.A (f v u) Q X.xe j):
  wpAny (model X.prog X.w) X.A (eval a X.env) (λv g=>wpAny (model X.prog X.w) X.A (eval b X.env) (λu i=>wpAny (model X.prog X.w) X.A (f v u) Q X.xe i) X.xe g) X.xe s:=by
 refine cg (l d s e H _ I h) λv z k=> ?_
 obtain⟨x,H1,r,n,p⟩:=k
 refine cg (B d z e H1 _ r p) λu j k=> ?_
 obtain⟨y,H2,o,t,m⟩:=k
 exact q v u j x y H2 o n t m
def ni{e:Operator}{r:R2}(j:iH X (binaryOp e) r)(f:PE X a ta)(n:PE X b tb):PE X (.BinOp a e b pos) (DY r ta tb):=by
 intro d s k H Q I h
 exact wpAny_BinOp (EA f n I h λv u g x y H2 i l m q=>j d g k H2 x y v u Q i l m q)
def GF{e:UnaryOp}{r:V->Hp->VK->Prop}(k:JJ X (unaryOp e) r)(g:PE X a ta):PE X (.UnaryOp e a pos) (KJ r ta):=by
 intro d s f H Q I h
 exact UnaryOp_ (cg (g d s f H _ I h) λv l ⟨x,H1,j,m,i⟩=>k d l f H1 x v Q j m i)
def Ih{f:Value->Value->Sem Value}{C:Int->Int->Prop}{g:Int->Int->Int}
  (d:∀(i j:Int) (t u:Tok) (s:Shared) (Q:Value->Shared->Prop) (E:Value->Shared->Prop),C i j->Q (.int (g i j) s.toks) {s with toks:=s.toks+1}->wpAny (model X.prog X.w) X.A (f (.int i t) (.int j u)) Q E s):
  iH X f (rI C λi j=>.int (g i j)):=by
 intro e s n H x y v u Q I l m h
 obtain⟨i,j,rfl,rfl,hc,q⟩:=h
 obtain⟨t,rfl⟩:=l
 obtain⟨k,rfl⟩:=m
 exact d i j t k s _ _ hc ⟨.int (g i j),H,I.tok _,⟨_,rfl⟩,q⟩
def Ho{f:Value->Value->Sem Value}{g:Int->Int->Int}
  (d:∀(i j:Int) (t u:Tok) (s:Shared) (Q:Value->Shared->Prop) (E:Value->Shared->Prop),Q (.int (g i j) s.toks) {s with toks:=s.toks+1}->wpAny (model X.prog X.w) X.A (f (.int i t) (.int j u)) Q E s):
  iH X f (zF λi j=>.int (g i j)):=by
 intro e s n H x y v u Q I l m h
 obtain⟨i,j,rfl,rfl,q⟩:=h
 obtain⟨t,rfl⟩:=l
 obtain⟨k,rfl⟩:=m
 exact d i j t k s _ _ ⟨.int (g i j),H,I.tok _,⟨_,rfl⟩,q⟩
def Cy{f:Value->Value->Sem Value}{g:Int->Int->Bool}
  (d:∀(i j:Int) (t u:Tok) (s:Shared) (Q:Value->Shared->Prop) (E:Value->Shared->Prop),Q (.bool (g i j)) s->wpAny (model X.prog X.w) X.A (f (.int i t) (.int j u)) Q E s):
  iH X f (zF λi j=>.bl (g i j)):=by
 intro e s n H x y v u Q I l m h
 obtain⟨i,j,rfl,rfl,q⟩:=h
 obtain⟨t,rfl⟩:=l
 obtain⟨k,rfl⟩:=m
 exact d i j t k s _ _ ⟨.bl (g i j),H,I,rfl,q⟩
def Bk(i j:Int):Prop:=0<j/\j<1073741824
def Ai(i j:Int):Prop:=0<=j/\j<=1000000/\i.natAbs<2^64
def Di(i j:Int):Prop:=(-(2^64)<i/\i<2^64)\/(-(2^64)<j/\j<2^64)
def Di.ok{i j:Int}(h:Di i j):IntMulOk i j:=by
 rcases h with⟨e,d⟩|⟨e,d⟩
 ·exact .of_left (intBits_le_64 e d)
 ·exact .of_right (intBits_le_64 e d)
def FO:iH X (binaryOp .Add) (zF λi j=>.int (i+j)):=Ho λ_ _ _ _ _ _ _ q=>add_int q
def EK:iH X (binaryOp .Sub) (zF λi j=>.int (i-j)):=Ho λ_ _ _ _ _ _ _ q=>sub_int q
def DQ:iH X (binaryOp .FloorDiv) (rI Bk λi j=>.int (i/j)):=Ih λi j _ _ _ _ _ d q=>by
 have e:(0:Int)<j:=d.1
 have f:j<1073741824:=d.2
 exact floordiv_int (by omega) (by rw[Int.fdiv_eq_ediv_of_nonneg i (by omega)];exact q) (.inl (PyProof.noPylong_small (by omega)))
def EU:iH X (binaryOp .Mod) (rI (λ_ j=>0<j) λi j=>.int (i%j)):=Ih λi j _ _ _ _ _ d q=>by
 have e:(0:Int)<j:=d
 exact mod_int' (by omega) (by rw[Int.fmod_eq_emod_of_nonneg i (by omega)];exact q)
def Fm:iH X (binaryOp .Pow) (rI Ai λi j=>.int (i^j.toNat)):=Ih λ_ _ _ _ _ _ _ d q=>pow_int_small d.1 d.2.1 d.2.2 q
def KL{f:Value->Sem Value}{g:Int->Int}
  (d:∀(i:Int) (t:Tok) (s:Shared) (Q:Value->Shared->Prop) (E:Value->Shared->Prop),Q (.int (g i) s.toks) {s with toks:=s.toks+1}->wpAny (model X.prog X.w) X.A (f (.int i t)) Q E s):
  JJ X f (rU λi=>.int (g i)):=by
 intro e s k H x v Q I j h
 obtain⟨i,rfl,q⟩:=h
 obtain⟨t,rfl⟩:=j
 exact d i t s _ _ ⟨.int (g i),H,I.tok _,⟨_,rfl⟩,q⟩
def FT:JJ X (unaryOp .USub) (rU λi=>.int (-i)):=KL λ_ _ _ _ _ q=>neg_int q
end
def xA:V->V->Bool
 |.non,.non=>true|.non,.int _=>true|.int _,.non=>true|.non,.bl _=>true|.bl _,.non=>true|.non,.str _=>true|.str _,.non=>true
 |.int _,.int _=>true|.bl _,.bl _=>true|.str _,.str _=>true|.byt _,.byt _=>true
 |.int _,.str _=>true|.str _,.int _=>true|.bl _,.str _=>true|.str _,.bl _=>true
 |_,_=>false
def KB:R2:=λx y H Q=>xA x y=true/\Q (.bl (decide (x=y))) H
def KA:R2:=λx y H Q=>xA x y=true/\Q (.bl (!decide (x=y))) H
def yk{i j:Int}:decide (V.int i=V.int j)=(i==j):=by
 rw[Bool.eq_iff_iff]
 simp
def AH{i j:Bool}:decide (V.bl i=V.bl j)=(i==j):=by
 rw[Bool.eq_iff_iff]
 simp
def ym{i j:Str}:decide (V.str i=V.str j)=(i==j):=by
 rw[Bool.eq_iff_iff]
 simp
def yo{i j:Array UInt8}:decide (V.byt i=V.byt j)=(i.toList==j.toList):=by
 rw[Bool.eq_iff_iff]
 cases i
 cases j
 simp
section
variable{X:Cx}{a b c:Expr}{ta tb tc:TE}{pos:Pos}
def bt{d:List (Addr×Obj)}{f:St}{H:Hp}{s:Shared}{Q:VK}{k g:Bool}(I:Inv X d f H s)(q:Q (.bl k) H)(e:k=g):EP X d f Q (.bool g) s:=by
 subst e
 exact⟨.bl k,H,I,rfl,q⟩
def Hk:iH X (compareOp .Eq) KB:=by
 intro k s l H x y v u Q I g d h
 obtain⟨f,q⟩:=h
 cases x with
 | non=>
   cases g
   cases y with
   |non=>cases d;exact PySem.EqNone.eq_none_none (bt I q (by simp))
   |bl j=>cases d;exact PySem.EqNone.eq_none_bool (bt I q (by simp))
   |int j=>obtain⟨e,rfl⟩:=d;exact PySem.EqNone.eq_none_int (bt I q (by simp))
   |str j=>obtain⟨e,rfl⟩:=d;exact PySem.EqNone.eq_none_str (bt I q (by simp))
   |_=>exact absurd (show false=true from f) Qtq
 | bl i=>
   cases g
   cases y with
   |non=>cases d;exact PySem.EqNone.eq_bool_none (bt I q (by simp))
   |bl j=>cases d;exact eq_bool (bt I q AH)
   |str j=>obtain⟨e,rfl⟩:=d;exact PySem.EqMixed.eq_bool_str (bt I q (by simp))
   |_=>exact absurd (show false=true from f) Qtq
 | int i=>
   obtain⟨t,rfl⟩:=g
   cases y with
   |non=>cases d;exact PySem.EqNone.eq_int_none (bt I q (by simp))
   |int j=>obtain⟨e,rfl⟩:=d;exact eq_int (bt I q yk)
   |str j=>obtain⟨e,rfl⟩:=d;exact PySem.EqMixed.eq_int_str (bt I q (by simp))
   |_=>exact absurd (show false=true from f) Qtq
 | str i=>
   obtain⟨t,rfl⟩:=g
   cases y with
   |non=>cases d;exact PySem.EqNone.eq_str_none (bt I q (by simp))
   |bl j=>cases d;exact PySem.EqMixed.eq_str_bool (bt I q (by simp))
   |int j=>obtain⟨e,rfl⟩:=d;exact PySem.EqMixed.eq_str_int (bt I q (by simp))
   |str j=>obtain⟨e,rfl⟩:=d;exact eq_str (bt I q ym)
   |_=>exact absurd (show false=true from f) Qtq
 | byt i=>
   obtain⟨t,rfl⟩:=g
   cases y with
   |byt j=>obtain⟨e,rfl⟩:=d;exact PySem.W.eq_bytes (bt I q yo)
   |_=>exact absurd (show false=true from f) Qtq
 |_=>cases y <;>exact absurd (show false=true from f) Qtq
def Kn:iH X (compareOp .NotEq) KA:=by
 intro k s l H x y v u Q I g d h
 obtain⟨f,q⟩:=h
 cases x with
 | non=>
   cases g
   cases y with
   |non=>cases d;exact PySem.EqNone.ne_none_none (bt I q (by simp))
   |bl j=>cases d;exact PySem.EqNone.ne_none_bool (bt I q (by simp))
   |int j=>obtain⟨e,rfl⟩:=d;exact PySem.EqNone.ne_none_int (bt I q (by simp))
   |str j=>obtain⟨e,rfl⟩:=d;exact PySem.EqNone.ne_none_str (bt I q (by simp))
   |_=>exact absurd (show false=true from f) Qtq
 | bl i=>
   cases g
   cases y with
   |non=>cases d;exact PySem.EqNone.ne_bool_none (bt I q (by simp))
   |bl j=>cases d;exact ne_bool (bt I q (congrArg not AH))
   |str j=>obtain⟨e,rfl⟩:=d;exact PySem.EqMixed.ne_bool_str (bt I q (by simp))
   |_=>exact absurd (show false=true from f) Qtq
 | int i=>
   obtain⟨t,rfl⟩:=g
   cases y with
   |non=>cases d;exact PySem.EqNone.ne_int_none (bt I q (by simp))
   |int j=>obtain⟨e,rfl⟩:=d;exact ne_int (bt I q (congrArg not yk))
   |str j=>obtain⟨e,rfl⟩:=d;exact PySem.EqMixed.ne_int_str (bt I q (by simp))
   |_=>exact absurd (show false=true from f) Qtq
 | str i=>
   obtain⟨t,rfl⟩:=g
   cases y with
   |non=>cases d;exact PySem.EqNone.ne_str_none (bt I q (by simp))
   |bl j=>cases d;exact PySem.EqMixed.ne_str_bool (bt I q (by simp))
   |int j=>obtain⟨e,rfl⟩:=d;exact PySem.EqMixed.ne_str_int (bt I q (by simp))
   |str j=>obtain⟨e,rfl⟩:=d;exact ne_str (bt I q (congrArg not ym))
   |_=>exact absurd (show false=true from f) Qtq
 | byt i=>
   obtain⟨t,rfl⟩:=g
   cases y with
   |byt j=>obtain⟨e,rfl⟩:=d;exact PySem.W.ne_bytes (bt I q (congrArg not yo))
   |_=>exact absurd (show false=true from f) Qtq
 |_=>cases y <;>exact absurd (show false=true from f) Qtq
def Ke:iH X (compareOp .Lt) (zF λi j=>.bl (decide (i<j))):=Cy λ_ _ _ _ _ _ _ q=>lt_int q
def Kg:iH X (compareOp .LtE) (zF λi j=>.bl (decide (i<=j))):=Cy λ_ _ _ _ _ _ _ q=>le_int q
def Kj:iH X (compareOp .Gt) (zF λi j=>.bl (decide (j<i))):=Cy λ_ _ _ _ _ _ _ q=>gt_int q
def JX:iH X (compareOp .GtE) (zF λi j=>.bl (decide (j<=i))):=Cy λ_ _ _ _ _ _ _ q=>ge_int q
def IU:iH X (compareOp .Is) (λx y H Q=>y=.non/\Q (.bl (decide (x=.non))) H):=by
 intro d s g H x y v u Q I e f h
 obtain⟨rfl,q⟩:=h
 cases f
 refine is_none_gen (bt I q ?_)
 cases x <;>first
  |(cases e;rfl)
  |(obtain⟨t,rfl⟩:=e;rfl)
def IH:iH X (compareOp .IsNot) (λx y H Q=>y=.non/\Q (.bl (!decide (x=.non))) H):=by
 intro d s g H x y v u Q I e f h
 obtain⟨rfl,q⟩:=h
 cases f
 refine isnot_none_gen (bt I q ?_)
 cases x <;>first
  |(cases e;rfl)
  |(obtain⟨t,rfl⟩:=e;rfl)
def iH.or{f:Value->Value->Sem Value}{r j:R2}(h:iH X f r)(h':iH X f j):iH X f (λx y H Q=>r x y H Q\/j x y H Q):=by
 intro d s g H x y v u Q I e i q
 rcases q with q|q
 ·exact h d s g H x y v u Q I e i q
 ·exact h' d s g H x y v u Q I e i q
def w5(b:Expr){d:CmpOp}(h:d≠.In:=by decide)(f:d≠.NotIn:=by decide):behindInMarks d b=false:=by
 have e:(d==CmpOp.In)=false:=by cases d <;>first|rfl|exact absurd rfl h
 have g:(d==CmpOp.NotIn)=false:=by cases d <;>first|rfl|exact absurd rfl f
 cases b <;>simp[behindInMarks,e,g]
def DU{e:CmpOp}{r:R2}(j:iH X (compareOp e) r)(f:PE X a ta)(o:PE X b tb)(m:behindInMarks e b=false):PE X (.Compare a [e] [b] pos) (DY r ta tb):=by
 intro d s k H Q I h
 exact wpAny_Compare1 (EA f o I h λv u g x y H2 i l n q=>j d g k H2 x y v u Q i l n q) m
def Bw(t:TE):TT:=λd H Q=>t d H λx e=>∃k,x=.bl k/\Q k e
def oz{f:CmpOp}{r:R2}(q:iH X (compareOp f) r)(i:PE X a ta)(G:PE X b tb)(B:behindInMarks f b=false):PT X (.Compare a [f] [b] pos) (Bw (DY r ta tb)):=by
 intro d s g H Q I h
 refine wpAny_isTrue_Compare1 (cg (i d s g H _ I h) λv C ⟨x,H1,t,n,p⟩=>cg (G d C g H1 _ t p) λu l ⟨y,H2,o,A,j⟩=>
  cg (q d l g H2 x y v u _ o n A j) λc J ⟨z,H3,w,m,k,e,F⟩=> ?_) B
 subst e
 cases m
 exact wpAny_truthy_bool ⟨H3,w,F⟩
def Fz(K:PySem.W.Frag)(x:V)(H:Hp)(k:Bool):Prop:=
 match x with
 |.non=>k=false
 |.bl b=>k=b
 |.int i=>k=(i !=0)
 |.str y=>y.length<=sizeLine/\k=((y.length:Int) !=0)
 |.byt y=>y.size<=sizeLine/\k=((y.size:Int) !=0)
 |.ref p=>(∃e,gJ K H p e/\k= !e.isEmpty)\/(∃e,fK K H p e/\k= !e.isEmpty)\/∃d,H p=some (.dK d)/\k= !d.isEmpty
 |_=>False
def wO{d:Type}{kvs:List (d×V)}{vs:List (d×Value)}(r:KV kvs vs):(!vs.isEmpty)= !kvs.isEmpty:=by
 cases r <;>rfl
def oN{xs:List V}{d:List Value}(r:a_ xs d):(!d.toArray.isEmpty)= !xs.isEmpty:=by
 cases r <;>simp
def ja:(sizeLine:Nat)<2^63:=by rw[sizeLine_eq];decide
def Fv:JQ X (λx H Q=>∃k,Fz X.K x H k/\Q k H):=by
 intro A s L H x v Q I l h
 obtain⟨k,e,q⟩:=h
 have J:=ja
 have G:sizeLine=16777216:=sizeLine_eq
 cases x with
 | non=>
   cases l
   have d:k=false:=e
   subst d
   exact truthy_none ⟨H,I,q⟩
 | bl b=>
   cases l
   have d:k=b:=e
   subst d
   exact wpAny_truthy_bool ⟨H,I,q⟩
 | int i=>
   obtain⟨t,rfl⟩:=l
   have d:k=(i !=0):=e
   subst d
   exact PySem.P.truthy_int ⟨H,I,q⟩
 | str y=>
   obtain⟨t,rfl⟩:=l
   obtain⟨C,d⟩:y.length<=sizeLine/\k=((y.length:Int) !=0):=e
   subst d
   exact PySem.P.truthy_str (by omega) ⟨H,I.tok _,q⟩
 | byt y=>
   obtain⟨t,rfl⟩:=l
   obtain⟨C,d⟩:y.size<=sizeLine/\k=((y.size:Int) !=0):=e
   subst d
   exact PySem.W.truthy_bytes (by omega) ⟨H,I.tok _,q⟩
 | ref p=>
   cases l
   have d:(∃j,gJ X.K H p j/\k= !j.isEmpty)\/(∃j,fK X.K H p j/\k= !j.isEmpty)\/∃f,H p=some (.dK f)/\k= !f.isEmpty:=e
   rcases d with⟨j,n,d⟩|⟨j,n,d⟩|⟨f,n,d⟩
   · subst d
     obtain⟨u,r,z,B⟩:=I.list n
     have g:=r.length
     exact wpAny_truthy_list z.isList (by simp only[Qjq];omega) ⟨H,I.tok _,by rw[oN r];exact q⟩
   · subst d
     obtain⟨u,r,z,B⟩:=I.tuple n
     have g:=r.length
     exact truthy_tuple z (by simp only[Qjq];omega) ⟨H,I.tok _,by rw[oN r];exact q⟩
   · subst d
     obtain⟨B,F,o,r,m⟩:f.length<=sizeLine/\(p==sysModules)=false/\∃o,KV f o/\s.heap.DictOf (bg X.prog X.w) p o:=I.hok p _ n
     have g:f.length=o.length:=Paired.length r
     exact wpAny_truthy_dict F m (by omega) ⟨H,I.tok _,by rw[wO r];exact q⟩
 |_=>exact(show False from e).elim
def BK(i:PE X a ta)(he:∀d,isTrue a X.env d=(do let v←d;standAt a.pos;holding [v] (truthy v))):
  PT X a (λf H Q=>ta f H λx g=>∃k,Fz X.K x g k/\Q k g):=by
 intro e s f H Q I h
 exact isTrue_plain (cg (i e s f H _ I h) λv n ⟨x,H1,m,j,l⟩=>Fv e n f H1 x v Q m j l) (he _)
def xP:iH X (binaryOp .Add) (λx y H Q=>∃i j,x=.str i/\y=.str j/\i.length+j.length<=sizeLine/\Q (.str (i++j)) H):=by
 intro d s l H x y v u Q I g e h
 obtain⟨i,j,rfl,rfl,hz,q⟩:=h
 obtain⟨t,rfl⟩:=g
 obtain⟨f,rfl⟩:=e
 exact add_str (λf k=>⟨.str (i++j),H,I.tok _,⟨_,rfl⟩,q⟩) hz
def vals1{x:V}{d:List Value}(r:a_ [x] d):∃u,d= [u]/\RelV x u:=by
 cases r with
 |cons f e=>cases e;exact⟨_,rfl,f⟩
def vals2{x y:V}{d:List Value}(r:a_ [x,y] d):∃u e,d= [u,e]/\RelV x u/\RelV y e:=by
 cases r with
 | cons i g=>
   cases g with
   |cons h f=>cases f;exact⟨_,_,rfl,i,h⟩
def Gs:iQ X (.builtin "abs") (λxs H Q=>∃i,xs= [.int i]/\Q (.int (if i<0 then -i else i)) H):=by
 intro d s g H xs f Q I r h
 obtain⟨i,rfl,q⟩:=h
 obtain⟨u,rfl,t,rfl⟩:=vals1 r
 exact call_abs_int λu e=>⟨.int (if i<0 then -i else i),H,I.tok _,⟨_,rfl⟩,q⟩
def Aa(f:X.calm=true):iQ X (.builtin "max") (λxs H Q=>∃i j,xs= [.int i,.int j]/\Q (.int (if j>i then j else i)) H):=by
 intro e s l H xs g Q I r h
 obtain⟨i,j,rfl,q⟩:=h
 obtain⟨u,o,rfl,⟨t,rfl⟩,⟨t',rfl⟩⟩:=vals2 r
 refine max_two_ints (I.ok.hd f) λn m k=>⟨_,H,I.kept k,?_,q⟩
 by_cases d:j>i
 ·rw[Qhq d,Qhq d];exact⟨_,rfl⟩
 ·rw[Quq d,Quq d];exact⟨_,rfl⟩
def z4(f:X.calm=true):iQ X (.builtin "min") (λxs H Q=>∃i j,xs= [.int i,.int j]/\Q (.int (if j<i then j else i)) H):=by
 intro e s l H xs g Q I r h
 obtain⟨i,j,rfl,q⟩:=h
 obtain⟨u,o,rfl,⟨t,rfl⟩,⟨t',rfl⟩⟩:=vals2 r
 refine min_two_ints (I.ok.hd f) λn m k=>⟨_,H,I.kept k,?_,q⟩
 by_cases d:j<i
 ·rw[Qhq d,Qhq d];exact⟨_,rfl⟩
 ·rw[Quq d,Quq d];exact⟨_,rfl⟩
def Gm:iQ X (.type "int") (λxs H Q=>(∃i,xs= [.int i]/\Q (.int i) H)\/∃k,xs= [.bl k]/\Q (.int (if k then 1 else 0)) H):=by
 intro d s f H xs e Q I r h
 rcases h with⟨i,rfl,q⟩|⟨k,rfl,q⟩
 ·obtain⟨u,rfl,t,rfl⟩:=vals1 r
  exact call_int_int ⟨.int i,H,I,⟨_,rfl⟩,q⟩
 ·obtain⟨u,rfl,r1⟩:=vals1 r
  cases r1
  exact call_int_bool ⟨.int (if k then 1 else 0),H,I.tok _,⟨_,rfl⟩,q⟩
end
structure Ew(h:Heap)(x dx C:Addr)(mA:Str->Option Value):Prop where
 obj:h.get? x=some (PySem.W.instObj C dx)
 ns:h.Ns1 dx mA
 ne:dx≠x
def zI{h:Heap}{g:Addr}{f:Str->Option Value}(n:h.Ns1 g f):∃c,h.get? g=some c/\∀name,PySem.W.lookIn name c=some (f name):=by
 obtain⟨o,d,r,i,k,p,_,l⟩:=n
 refine⟨o,i,λname=> ?_⟩
 have e:=l name
 unfold nsFind findBy at e
 rw[←Array.find?_toList] at e
 unfold PySem.W.lookIn
 rw[k]
 dsimp only
 split
 ·rename_i y q
  rw[q] at e
  exact congrArg some e
 ·rename_i q
  rw[q] at e
  have a:d.toList.any (·.refKey)=false:=by
   rw[List.any_eq_false]
   intro y j
   obtain⟨z,t,b⟩:=p y (Array.mem_toList_iff.mp j)
   simp[DictEntry.refKey,b]
  have m:¬d.toList.any (·.refKey)=true:=by rw[a];exact Qtq
  rw[Quq m]
  exact congrArg some e
def Ew.look{h:Heap}{x c C:Addr}{b:Str->Option Value}(I:Ew h x c C b):∃a,PySem.W.InstAt h x (PySem.W.instObj C c) C (some a)/\∀name,PySem.W.lookIn name a=some (b name):=
 let ⟨a,ho,hl⟩:=zI I.ns
 ⟨a,⟨I.obj,rfl,rfl,ho⟩,hl⟩
def p8.some_of{v:V}{o:Option Value}(r:p8 (some v) o):∃u,o=some u/\RelV v u:=by
 cases o with
 |none=>exact(show False from r).elim
 |some u=>exact⟨u,rfl,r⟩
section
variable{P:Program}{w:World}{H H':Hp}{h h':Heap}{a C dx:Addr}{fs fs':List (Str×V)}
def CS(c:kO P w H h)(e:H a=some (.ins C dx fs)):∃b,Ew h a dx C b/\(∀f,p8 (fs.lookup f) (b f))/\PySem.Within b (fs.map (·.1))/\fs.length<=1000/\H dx=some (.own a):=by
 obtain⟨d,z,i,g,b,n,r,q⟩:=(show bL P w H h a (.ins C dx fs) from c a _ e)
 exact⟨b,⟨g,n,i⟩,r,q,z,d⟩
end
structure JC(K:PySem.W.Frag)(C:Addr):Prop where
 pg:PySem.W.plainGet K C Str.empty=true
 hd:PySem.W.hasDictIn K C=true
 po:PySem.W.plainOver K C=true
 sa:PySem.W.findIn K (.ref C) "__setattr__"=some (some (.builtin "object.__setattr__"))
def JC.get{K:PySem.W.Frag}{C:Addr}(c:JC K C)(f:Str):PySem.W.plainGet K C f=true:=c.pg
section
variable{X:Cx}{pins:List (Addr×Obj)}{σ:St}{H:Hp}{s:Shared}{A:Around}{E:Value->Shared->Prop}{Q:Value->Shared->Prop}{c:Value}{b:Bool}
inductive mw(K:PySem.W.Frag)(H:Hp):V->Value->Prop where
 |non:mw K H .non (.type "NoneType")
 |bl (x:Bool):mw K H (.bl x) (.type "bool")
 |int (i:Int):mw K H (.int i) (.type "int")
 |str (x:Str):mw K H (.str x) (.type "str")
 |flt (x:UInt64):mw K H (.flt x) (.type "float")
 |lst {a:Addr} {xs:List V} (e:H a=some (.lst xs)):mw K H (.ref a) (.type "list")
 |frz {a:Addr} {o:Obj} {xs:List V} (e:H a=some (.frz o (.lst xs))):mw K H (.ref a) (.type "list")
 |tup {a:Addr} {xs:List V} (e:H a=some (.tup xs)):mw K H (.ref a) (.type "tuple")
 |dK {a:Addr} {kvs:List (Key×V)} (e:H a=some (.dK kvs)):mw K H (.ref a) (.type "dict")
 |dT {a:Addr} {kvs:List (List Key×V)} (e:H a=some (.dT kvs)):mw K H (.ref a) (.type "dict")
 |ins {a C dx:Addr} {fs:List (Str×V)} (e:H a=some (.ins C dx fs)) (cl:JC K C) (ha:PySem.W.findIn K (.ref C) "__class__"=some (some (.builtin "object.__class__")))
   (hn:PySem.W.specialIn K (.builtin "object.__class__") "__get__"=some (some (.builtin "getset_descriptor.__get__"))) (htk:PySem.W.takesIn K (.builtin "object.__class__")=some true)
   (hm:PySem.W.mroIn K C (.type "object")=some true):mw K H (.ref a) (.ref C)
def y1{x:V}{u t:Value}(I:Inv X pins σ H s)(d:RelV x u)(k:mw X.K H x t)(e:PySem.W.kitOne X.K t c=some b)(h:∀r,Q (.bool b) {s with toks:=r}):
  wpAny (model X.prog X.w) A (call (.builtin "isinstance") [u,c]) Q E s:=by
 cases k with
 |non=>cases (show u=Value.none from d);exact PySem.W.kia_one PySem.W.kitx_none I.kIn True.intro e (λz=>nomatch z) h
 |bl y=>cases (show u=Value.bool y from d);exact PySem.W.kia_one PySem.W.kitx_bool I.kIn True.intro e (λz=>nomatch z) h
 |int i=>obtain⟨t,q⟩:=(show∃t,u=Value.int i t from d);cases q;exact PySem.W.kia_one PySem.W.kitx_int I.kIn True.intro e (λz=>nomatch z) h
 |str y=>obtain⟨t,q⟩:=(show∃t,u=Value.str y t from d);cases q;exact PySem.W.kia_one PySem.W.kitx_str I.kIn True.intro e (λz=>nomatch z) h
 |flt y=>obtain⟨t,q⟩:=(show∃t,u=Value.float y t from d);cases q;exact PySem.W.kia_one PySem.W.kitx_float I.kIn True.intro e (λz=>nomatch z) h
 | @lst a g ea=>
   cases (show u=Value.ref a from d)
   obtain⟨_,_,n,_,f⟩:=(show bL X.prog X.w H s.heap a (.lst g) from I.hok a _ ea)
   exact PySem.W.kia_one PySem.W.kitx_list I.kIn ⟨_,f,rfl⟩ e (λz=>nomatch z) h
 | @frz a ob g ea=>
   cases (show u=Value.ref a from d)
   obtain⟨_,_,_,n,_,f⟩:=(show bL X.prog X.w H s.heap a (.frz ob (.lst g)) from I.hok a _ ea)
   exact PySem.W.kia_one PySem.W.kitx_list I.kIn ⟨_,f,rfl⟩ e (λz=>nomatch z) h
 | @tup a g ea=>
   cases (show u=Value.ref a from d)
   obtain⟨_,_,_,p⟩:=(show bL X.prog X.w H s.heap a (.tup g) from I.hok a _ ea)
   obtain⟨o,f,j,_⟩:=p
   exact PySem.W.kia_one PySem.W.kitx_tuple I.kIn ⟨o,f,j⟩ e (λz=>nomatch z) h
 | @dK a kvs ea=>
   cases (show u=Value.ref a from d)
   obtain⟨_,_,B,_,p⟩:=(show bL X.prog X.w H s.heap a (.dK kvs) from I.hok a _ ea)
   obtain⟨o,m,l,f,j,_⟩:=p
   exact PySem.W.kia_one PySem.W.kitx_dict I.kIn ⟨o,f,j.1⟩ e (λz=>nomatch z) h
 | @dT a kvs ea=>
   cases (show u=Value.ref a from d)
   obtain⟨_,_,g,_,o,m,l,f,j,_⟩:=(show bL X.prog X.w H s.heap a (.dT kvs) from I.hok a _ ea)
   exact PySem.W.kia_one PySem.W.kitx_dict I.kIn ⟨o,f,j.1⟩ e (λz=>nomatch z) h
 | @ins a C dx fs ea cl ha hn htk hm=>
   cases (show u=Value.ref a from d)
   obtain⟨F,O,_⟩:=CS I.hok ea
   obtain⟨v,J,_⟩:=O.look
   exact PySem.W.kia_one (PySem.W.kitx_own (cl.get _) cl.hd ha hn htk hm) I.kIn J e (λz=>nomatch z) h
end
structure dZ(k:Nat)(A:Around):Prop where
 hd:A.handled=none
 dp:A.depth+3*k+5<recursionLimit
 un:A.units+16*k+200<cLine
def dZ.mono{j k:Nat}{A:Around}(r:dZ k A)(h:j<=k):dZ j A:=⟨r.hd,by have:=r.dp;omega,by have:=r.un;omega⟩
def dZ.deeper{k:Nat}{A:Around}(r:dZ (k+1) A)(env:Env):dZ k (A.deeper env):=
 ⟨r.hd,by have:=r.dp;show A.depth+1+3*k+5<_;omega,by have:=r.un;show A.units+3+16*k+200<_;omega⟩
def dZ.depth{k:Nat}{A:Around}(r:dZ k A):A.depth<recursionLimit:=by have:=r.dp;omega
def dZ.units{k:Nat}{A:Around}(r:dZ k A):A.units+64<cLine:=by have:=r.un;omega
def dZ.units0{k:Nat}{A:Around}(r:dZ k A):A.units<cLine:=by have:=r.un;omega
def E3:TA:=λ_ H Q=>Q [] H
def Cf(c:TE)(b:TA):TA:=λa H Q=>c a H λx H1=>b a H1 λd H2=>Q (x::d) H2
section
variable{X:Cx}{e:Expr}{es:List Expr}{te:TE}{t:TA}{pos:Pos}
def fg:PA X [] E3:=λ_ _ _ _ H Q I h=>Calls.spliced_nil ⟨[],H,I,.nil,h⟩
def cQ(c:PE X e te)(n:PA X es t)(f:starEach (e::es) X.env=(false,eval e X.env)::starEach es X.env:=by rfl):PA X (e::es) (Cf te t):=by
 intro pos a s b H Q I h
 rw[f]
 show wpAny _ _ (spliced ((false,eval e X.env)::backTo pos (starEach es X.env))) _ _ s
 refine Calls.spliced_cons (cg (c a s b H _ I h) λu p g=> ?_)
 obtain⟨x,H1,m,i,k⟩:=g
 exact cg (n pos a p b H1 _ m k) λq r ⟨l,H2,j,o,d⟩=>⟨x::l,H2,j,.cons i o,d⟩
def JV(t:TA):TE:=λb H Q=>t b H λa H1=>a.length<=sizeLine/\∀p,H1 p=none->Q (.ref p) (upd H1 p (.tup a))
def Jq(t:TA):TE:=λb H Q=>t b H λa H1=>a.length<=sizeLine/\∀p,H1 p=none->Q (.ref p) (upd H1 p (.lst a))
def Fi{x1}(h:PA X es t):PE X (.Tuple es x1 pos) (JV t):=by
 intro a s k H Q I i
 refine wpAny_Tuple_spliced (cg (h pos a s k H _ I i) λf c ⟨g,H1,d,r,z,q⟩=>⟨by rw[←r.length];exact z,?_⟩)
 have j:H1 c.heap.objs.size=none:=d.hok.fresh (Qmq _)
 refine⟨.ref c.heap.objs.size,upd H1 c.heap.objs.size (.tup g),d.laid (t':=c.toks) (λb u e=>Qcq _ e) (Qmq _) ?_,rfl,q _ j⟩
 exact⟨z,f,r,⟨_,Qrq _ rfl,rfl,rfl,_,rfl⟩⟩
def EI(h:PA X es t):PE X (.List es pos) (Jq t):=by
 intro a s k H Q I i
 refine wpAny_List_spliced (cg (h pos a s k H _ I i) λf c ⟨g,H1,d,r,z,q⟩=>⟨by rw[←r.length];exact z,?_⟩)
 have j:H1 c.heap.objs.size=none:=d.hok.fresh (Qmq _)
 refine⟨.ref c.heap.objs.size,upd H1 c.heap.objs.size (.lst g),d.laid (t':=c.toks) (λb u e=>Qcq _ e) (Qmq _) ?_,rfl,q _ j⟩
 exact⟨z,f,0,r,Qrq _ rfl⟩
end
abbrev Sp:=List V->Hp->VK->XK->Prop
abbrev Ac:=List Env->Hp->Shared->XK->Value->Shared->Prop
structure Df(P:Program)(w:World)(K:PySem.W.Frag)(mg:Str->Option Value)(base:Heap)(A:Around)(outer:List Env)(s:Shared)(H:Hp):Prop where
 frames:A.frames=some outer
 mod:Mod K mg base
 bs:∀b o,base.get? b=some o->s.heap.get? b=some o/\H b=none
 bsz:base.objs.size<=s.heap.objs.size
 funs:s.heap.FunFrames base outer
 frf:∀b∈A4 outer,H b=none
 hok:kO P w H s.heap
 bare:AllBare s.gens
def CE(outer:List Env)(P:Program)(w:World)(H:Hp)(s:Shared)(Q:VK)(u:Value)(a:Shared):Prop:=
 ∃v b,a.os=s.os/\AllBare a.gens/\Un (A4 outer) [] H b s.heap a.heap/\kO P w b a.heap/\RelV v u/\Q v b
def CR(CX:Ac)(outer:List Env)(P:Program)(w:World)(H:Hp)(s:Shared)(Q:VK)(E:XK)(r:Result)(a:Shared):Prop:=
 match r with
 |.ok (.ret u)=>CE outer P w H s Q u a
 |.ok _=>False
 |.error e=>CX outer H s E e a
structure bc(P:Program)(w:World)(K:PySem.W.Frag)(mg:Str->Option Value)(base:Heap)(CX:Ac)(k:Nat)(f:Addr)(fd:FuncData)(ps:List Str)(sp:Sp):Prop where
 len:∀vs H Q E,sp vs H Q E->vs.length=ps.length
 run:∀(A:Around) (outer:List Env) (s:Shared) (H:Hp) (args:Args) (us:List Value) (vs:List V) (Q:VK) (E:XK),dZ k A->Df P w K mg base A outer s H->BindsTo s fd args (ps.zip us)->a_ vs us->sp vs H Q E→
  codeAny (model P w) A (.call (.ref f) args) (CR CX outer P w H s Q E) s
def bc.mono{P:Program}{w:World}{K:PySem.W.Frag}{mg:Str->Option Value}{base:Heap}{CX:Ac}{j k:Nat}{f:Addr}{c:FuncData}{ps:List Str}{sp:Sp}(F:bc P w K mg base CX j f c ps sp)(h:j<=k):
  bc P w K mg base CX k f c ps sp:=⟨F.len,λA a s H b d e Q E g=>F.run A a s H b d e Q E (g.mono h)⟩
def bc.imp{P:Program}{w:World}{K:PySem.W.Frag}{mg:Str->Option Value}{base:Heap}{CX:Ac}{k:Nat}{f:Addr}{d:FuncData}{ps:List Str}{sp b:Sp}(F:bc P w K mg base CX k f d ps sp)
  (h:∀vs H Q E,b vs H Q E->sp vs H Q E):bc P w K mg base CX k f d ps b:=
 ⟨λvs H Q E q=>F.len vs H Q E (h _ _ _ _ q),λA a s H c e vs Q E j i m l g=>F.run A a s H c e vs Q E j i m l (h _ _ _ _ g)⟩
section
variable{X:Cx}{pins:List (Addr×Obj)}{σ:St}{H:Hp}{s s':Shared}
def Inv.env0(I:Inv X pins σ H s):Df X.prog X.w X.K X.mg X.base X.A X.stack s H:=
 ⟨I.ok.frames,I.ok.mod,I.bs,QAq I.ok.bsz I.sz,I.stack,I.stkFree,I.hok,I.bare⟩
def Inv.after{Q:VK}{u:Value}(I:Inv X pins σ H s)(h:CE X.stack X.prog X.w H s Q u s'):EP X pins σ Q u s':=by
 obtain⟨v,f,i,a,j,c,r,q⟩:=h
 obtain⟨k,g,d,t,e⟩:=s'
 obtain rfl:e=s.os:=i
 exact⟨v,f,I.call (h':=k) (g':=g) (d':=d) (t':=t) (ch:= []) j c a (λb z=>absurd z (by simp)),r,q⟩
end
def An(sp:Sp)(a:List V)(E:XK)(t:TA):TE:=λb H Q=>t b H λc H1=>sp (c++a) H1 Q E
def Binds(K:PySem.W.Frag)(b:FuncData)(ps:List Str)(ds:List Value):Prop:=
 ∀(s:Shared) (a:List Value),K.In s.heap->(a++ds).length=ps.length->BindsTo s b ⟨a,[]⟩ (ps.zip (a++ds))
def Binds.all{K:PySem.W.Frag}{c:FuncData}{ps:List Str}(h:∀a:List Value,a.length=ps.length->bindArgs c ⟨a,[]⟩=pure (ps.zip a)):Binds K c ps []:=λs a _ b=>by
 rw[List.append_nil] at b⊢
 exact .of_eq (h a b)
def wj(CX:Ac)(X:Cx)(E:XK):Prop:=∀(a:List (Addr×Obj)) (c:St) (H:Hp) (s:Shared) (e:Value) (b:Shared),Inv X a c H s->CX X.stack H s E e b->X.xe e b
section
variable{X:Cx}{CX:Ac}{k:Nat}{f C:Addr}{fd:FuncData}{ps:List Str}{sp:Sp}{dvs:List V}{ds:List Value}{E:XK}{x m:Str}{p pos apos:Pos}{e o:Expr}{es:List Expr}{ta:TE}{t:TA}
def A7{a:List (Addr×Obj)}{d:St}{H:Hp}{s:Shared}{Q:VK}{b:List Value}{vs:List V}(F:bc X.prog X.w X.K X.mg X.base CX k f fd ps sp)(n:dZ k X.A)(v:Binds X.K fd ps ds)(hd:a_ dvs ds)(l:wj CX X E)
  (I:Inv X a d H s) (r:a_ vs b) (h:sp (vs++dvs) H Q E):wpAny (model X.prog X.w) X.A (call (.ref f) b) (EP X a d Q) X.xe s:=by
 have g:a_ (vs++dvs) (b++ds):=r.append hd
 have i:(b++ds).length=ps.length:=by rw[←g.length];exact F.len _ _ _ _ h
 refine wpAny_call (codeAny_mono (F.run X.A X.stack s H ⟨b,[]⟩ (b++ds) (vs++dvs) Q E n I.env0 (v s b I.kIn i) g h) λr q c=> ?_)
 cases r with
 |error e=>exact l a d H s e q I c
 | ok j=>
   cases j with
   |ret u=>exact I.after c
   |next=>exact False.elim c
   |brk=>exact False.elim c
   |cont=>exact False.elim c
def yg(F:bc X.prog X.w X.K X.mg X.base CX k f fd ps sp)(l:dZ k X.A)(g:Gl X x)(n:X.mg x=some (.ref f))(v:PySem.W.keepIn X.K (.ref f)=true)(u:Binds X.K fd ps ds)(hd:a_ dvs ds)(j:wj CX X E)
  (d:PA X (e::es) t) (b:(x==("__debug__":Str))=false:=by decide) (he:starEach (e::es) X.env=(false,eval e X.env)::starEach es X.env:=by rfl) (hpl:(backTo pos (starEach es X.env)).any (·.1)=false:=by rfl):
  PE X (.Call (.Name x p) (e::es) [] pos) (An sp dvs E t):=by
 intro a s i H Q I h
 refine wpAny_Call_Name_kw (s_ I g n ?_ b)
 refine PySem.W.callWith_K (h₀:=X.base) I.ok.mod.kin v (cg (d pos a s i H _ I h) λy B ⟨z,H1,c,r,q⟩=>⟨c.kIn,?_⟩) he hpl
 exact A7 F l u hd j c r q
end
structure aC(N P:List Str)(sc:Scope):Prop where
 kind:sc.kind=.function
 co:sc.isCoroutine=false
 gen:sc.isGenerator=false
 nd:N.Nodup
 pre:N.take P.length=P
 par:∀x∈P,sc.names.lookup x=some .local\/sc.names.lookup x=some .cell
 nofree:∀y∈sc.names,y.2≠.free
theorem rM{b:Str->Option NameKind}{x:Str}:∀{a:List (Str×Value)} {m:Str->Option Value},(∀v,(x,v)∉a)->bindL b a m x=m x
 | [],_,_=>rfl
 | (n,v)::r,m,h=>by
   unfold bindL
   rw[rM λw c=>h w (Qpq _ c)]
   split
   · have:x≠n:=by rintro rfl;exact h v QBq
     simp[this]
   · rfl
theorem sk{b:Str->Option NameKind}{x:Str}:∀{a:List (Str×Value)} {m:Str->Option Value},(∀v,(x,v)∉a)->bindC b a m x=m x
 | [],_,_=>rfl
 | (n,v)::r,m,h=>by
   unfold bindC
   rw[sk λw c=>h w (Qpq _ c)]
   split
   · rfl
   · have:x≠n:=by rintro rfl;exact h v QBq
     simp[this]
theorem r9{a:Str->Option NameKind}{x:Str}{v:Value}:∀{P:List Str} {vs:List Value} {i:Nat} {m:Str->Option Value},P.Nodup->P[i]?=some x->vs[i]?=some v->a x=some .local→
  bindL a (P.zip vs) m x=some v
 | [],_,_,_,_,h,_,_=>by simp at h
 |_::_,[],_,_,_,_,h,_=>by simp at h
 | p::P,w::vs,0,m,nd,h1,h2,hk=>by
   simp at h1 h2;subst h1;subst h2
   show bindL a ((p,w)::P.zip vs) m p=_
   unfold bindL
   rw[rM λv b=>(List.nodup_cons.mp nd).1 (QeQ b).1,Qhq hk]
   simp
 | p::P,w::vs,i+1,m,nd,h1,h2,hk=>by
   show bindL a ((p,w)::P.zip vs) m x=_
   unfold bindL
   exact r9 (i:=i) (List.nodup_cons.mp nd).2 (by simpa using h1) (by simpa using h2) hk
theorem rj{a:Str->Option NameKind}{x:Str}{v:Value}:∀{P:List Str} {vs:List Value} {i:Nat} {m:Str->Option Value},P.Nodup->P[i]?=some x->vs[i]?=some v->a x≠some .local→
  bindC a (P.zip vs) m x=some v
 | [],_,_,_,_,h,_,_=>by simp at h
 |_::_,[],_,_,_,_,h,_=>by simp at h
 | p::P,w::vs,0,m,nd,h1,h2,hk=>by
   simp at h1 h2;subst h1;subst h2
   show bindC a ((p,w)::P.zip vs) m p=_
   unfold bindC
   rw[sk λv b=>(List.nodup_cons.mp nd).1 (QeQ b).1,Quq hk]
   simp
 | p::P,w::vs,i+1,m,nd,h1,h2,hk=>by
   show bindC a ((p,w)::P.zip vs) m x=_
   unfold bindC
   exact rj (i:=i) (List.nodup_cons.mp nd).2 (by simpa using h1) (by simpa using h2) hk
def start(N:List Str)(vs:List V):St:=vs.map some++List.replicate (N.length-vs.length) none
def wL(CX:Ac)(P:Program)(w:World)(K:PySem.W.Frag)(mg:Str->Option Value)(base:Heap)(N:List Str)(b:Str)(a:Scope)(f:Addr)(d:Value)(A:Around)(outer:List Env)(s:Shared)(H:Hp)(E:XK):Cx where
 prog:=P
 w:=w
 K:=K
 mg:=mg
 base:=base
 A:=A.deeper (envOfC b a s.heap.objs.size f d)
 N:=N
 s₀:=s
 H₀:=H
 env:=envOfC b a s.heap.objs.size f d
 outer:=outer
 stack:=envOfC b a s.heap.objs.size f d::outer
 ex:= []
 calm:=true
 fn:=λ_=>true
 pn:= []
 xe:=λe g=>wpAny (model P w) (A.deeper (envOfC b a s.heap.objs.size f d)) (leaving (envOfC b a s.heap.objs.size f d) e) (λ_ c=>CX outer H s E e c) (λh c=>CX outer H s E h c) g
def u4{a:Scope}{n:Nat}{x:Str}(h:a.names.lookup x=some .cell):∃c,(cellsFrom n a.names []).lookup x=some c:=by
 have q:=PySem.W.cellsFrom_some a.names n [] (.inl h)
 exact Option.isSome_iff_exists.mp q
def zN{CX:Ac}{P:Program}{w:World}{K:PySem.W.Frag}{mg:Str->Option Value}{base:Heap}{N ps:List Str}{g:Str}{d:Scope}{f:Addr}{F:Value}{A:Around}{outer:List Env}{s L:Shared}{H:Hp}{E:XK}{I:List Value}{vs:List V}
  (S:aC N ps d) (hd:A.handled=none) (l:Df P w K mg base A outer s H) (U:vs.length=ps.length) (r:a_ vs I)
  (x:InCallC s s.heap.objs.size (bindL (envOfC g d s.heap.objs.size f F).kindOf (ps.zip I) λ_=>none) (cellsFrom (s.heap.objs.size+1) d.names []) (bindC (envOfC g d s.heap.objs.size f F).kindOf (ps.zip I) λ_=>none) L):
  Inv (wL CX P w K mg base N g d f F A outer s H E) [] (start N vs) H L:=by
 have Q:ps.length<=N.length:=by have:=congrArg List.length S.pre;rw[Qxq] at this;omega
 obtain⟨C,Y,rfl,hk⟩:=x.done
 have m:∀b:Addr,b∉(wL CX P w K mg base N g d f F A outer s H E).ex:=λb z=>absurd (show b∈([]:List Addr) from z) (by simp)
 refine⟨⟨l.mod,S.kind,rfl,rfl,Qmq _,λy z c C j=> ?_,λy o=> ?_,λy c _ h=> ?_,λ_=>hd,Around.frames_deeper l.frames,.inr ⟨rfl,rfl⟩,λb z=>absurd z (m b),l.bs,l.bsz,λb _ _=>m b,λb z=>absurd z (m b),l.funs,l.frf⟩,
  rfl,l.bare,Un.kept hk,⟨_,x.toInCall.ns,λi y v C j X=> ?_⟩,λy c h=>⟨_,x.cell y c h⟩,l.hok.fresh (Qmq _),λy c h=> ?_,λp t=>absurd (show p∈([]:List (Addr×Obj)) from t) (by simp),l.hok.kept hk,?_⟩
 ·exact name_of_addr x.apart (PySem.mem_of_lookup C) (PySem.mem_of_lookup j)
 ·have o:d.names.lookup y=some .cell\/d.names.lookup y=some .free:=o
  rcases o with o|o
  ·exact u4 o
  ·exact absurd rfl (S.nofree _ (PySem.mem_of_lookup o))
 ·exact nQl (x.above y c (PySem.mem_of_lookup h))
 ·have G:i<vs.length:=by
   unfold start at j
   by_cases G:i<vs.length
   ·exact G
   ·rw[QQq (by simpa using G)] at j
    rw[List.getElem?_replicate] at j
    split at j <;>cases j
  have M:vs[i]?=some v:=by
   unfold start at j
   rw[QHq (by simpa using G),gQm] at j
   cases e:vs[i]? with
   |none=>rw[e] at j;cases j
   |some a=>rw[e] at j;cases j;rfl
  obtain⟨u,J,R⟩:=r.get M
  have t:ps[i]?=some y:=by
   rw[←S.pre,List.getElem?_take_of_lt (by omega)];exact C
  have B:ps.Nodup:=by rw[←S.pre];exact S.nd.sublist (List.take_sublist _ _)
  refine⟨u,R,?_⟩
  rcases S.par y (mQg t) with k|k
  ·exact .inl ⟨k,r9 B t J k⟩
  ·obtain⟨c,e⟩:=u4 (n:=s.heap.objs.size+1) k
   refine .inr ⟨.inl k,c,e,?_⟩
   have q:=x.cell y c e
   rw[rj B t J (by show d.names.lookup y≠_;rw[k];decide)] at q
   exact q
 ·exact l.hok.fresh (nQl (x.above y c (PySem.mem_of_lookup h)))
 ·unfold start
  show _=N.length
  rw[lQa,lQm,QIq]
  omega
def HW{CX:Ac}{P:Program}{w:World}{K:PySem.W.Frag}{mg:Str->Option Value}{base:Heap}{k:Nat}{f:Addr}{name c:Str}{g:Arguments}{h:List Stmt}{a:Scope}{Z kV F pm d ct oc:Value}{an od:Option Addr}
  {M:Array (Option Value)} {N ps:List Str} {sp:Sp} (lk:K.lookup f=some ⟨oc,od,.func (PySem.W.fnOf name c g h a Z kV F pm an d ct),M⟩) (L:PySem.W.codeIn K d c=true) (S:aC N ps a)
  (len:∀vs H Q E,sp vs H Q E->vs.length=ps.length)
  (l:∀(A:Around) (outer:List Env) (s:Shared) (H:Hp) (vs:List V) (Q:VK) (E:XK),dZ k (A.deeper (envOfC c a s.heap.objs.size f d))->sp vs H Q E→
   ∃t,oF (wL CX P w K mg base N c a f d A outer s H E) h t/\t {nx:=λ_ j=>Q .non j,rt:=Q} (start N vs) H):
  bc P w K mg base CX (k+1) f (PySem.W.fnOf name c g h a Z kV F pm an d ct) ps sp:=by
 refine⟨len,λA outer s H a1 us vs Q E U z hb r C=> ?_⟩
 have hl:=len _ _ _ _ C
 have Y:K.In s.heap:=z.mod.kin.keeps λb o e=>(z.bs b o e).1
 have G:s.heap.NoLimit:=z.mod.nolimit.keeps λb o e=>(z.bs b o e).1
 have m:∀y∈ps.zip us,a.names.lookup y.1=some .local\/(a.names.lookup y.1=some .cell/\((cellsFrom (s.heap.objs.size+1) a.names []).lookup y.1).isSome=true):=λ⟨n,v⟩ hy=>by
  rcases S.par n (QeQ hy).1 with q|q
  ·exact .inl q
  ·exact .inr ⟨q,PySem.W.cellsFrom_some _ _ _ (.inl q)⟩
 refine codeAny_call_function U.depth (Y _ _ lk) rfl S.co S.gen rfl (PySem.W.codeRec_of Y L) (hb _ _ _ _ ?_)
 refine wpAny_newFunctionEnv_cells S.kind m λa2 he s1 x=> ?_
 subst he
 refine⟨G.keeps x.toInCall.keep,codeAny_func ?_⟩
 obtain⟨t,ht,hq⟩:=l A outer s H vs Q E (U.deeper _) C
 have I:Inv (wL CX P w K mg base N c a f d A outer s H E) [] (start N vs) H s1:=zN S U.hd z hl r x
 refine QRq (ht [] s1 (start N vs) H _ I hq) (λfl X p=> ?_) λe X p=>p
 have B:∀{i:St} {j:Hp} {v:V} {u:Value},Inv (wL CX P w K mg base N c a f d A outer s H E) [] i j X->RelV v u->Q v j->CE outer P w H s Q u X:=
  λ{i j v u} J R q=>⟨v,j,J.os,J.bare,J.base,J.hok,R,q⟩
 cases fl with
 | ret u=>
   obtain⟨v,i,j,J,R,q⟩:=p
   exact B J R q
 | next=>
   obtain⟨i,j,J,q⟩:=p
   exact B (v:=V.non) (u:=Value.none) J rfl q
 | brk=>
   obtain⟨_,_,_,q⟩:=p
   exact False.elim q
 | cont=>
   obtain⟨_,_,_,q⟩:=p
   exact False.elim q
section
variable{X:Cx}{x:Str}{p pos:Pos}{e:Expr}{es:List Expr}{t:TA}{id T:String}{r:List V->Hp->VK->Prop}
def IJ(r:List V->Hp->VK->Prop)(t:TA):TE:=λa H Q=>t a H λb H1=>r b H1 Q
def iX(g:iQ X (.builtin id) r)(i:Gl X x)(o:X.mg x=none)(u:bootBuiltins x=some (.builtin id))(d:PA X (e::es) t)(m:x≠"__name__":=by decide)(b:(x==("__debug__":Str))=false:=by decide)
  (he:starEach (e::es) X.env=(false,eval e X.env)::starEach es X.env:=by rfl) (hpl:(backTo pos (starEach es X.env)).any (·.1)=false:=by rfl):PE X (.Call (.Name x p) (e::es) [] pos) (IJ r t):=by
 intro a s c H Q I h
 refine wpAny_Call_Name_kw (jh I i o u ?_ m b)
 exact PyProof.Rows.callWith_builtin1 (cg (d pos a s c H _ I h) λf q ⟨l,H1,n,j,k⟩=>g a q c H1 l f Q n j k) he hpl
def m3(g:iQ X (.type T) r)(i:Gl X x)(o:X.mg x=none)(u:bootBuiltins x=some (.type T))(d:PA X (e::es) t)(m:x≠"__name__":=by decide)(b:(x==("__debug__":Str))=false:=by decide)
  (he:starEach (e::es) X.env=(false,eval e X.env)::starEach es X.env:=by rfl) (hpl:(backTo pos (starEach es X.env)).any (·.1)=false:=by rfl):PE X (.Call (.Name x p) (e::es) [] pos) (IJ r t):=by
 intro a s c H Q I h
 refine wpAny_Call_Name_kw (jh I i o u ?_ m b)
 exact PyProof.Rows.callWith_type1 (cg (d pos a s c H _ I h) λf q ⟨l,H1,n,j,k⟩=>g a q c H1 l f Q n j k) he hpl
end
section
variable{κ:Type}[DecidableEq κ]
def mR(kvs:List (κ×V))(k:κ):Option V:=(kvs.find? λa=>decide (a.1=k)).map (·.2)
def putK(kvs:List (κ×V))(k:κ)(v:V):List (κ×V):=
 if (kvs.any λa=>decide (a.1=k))=true then kvs.map (λa=>if a.1=k then(a.1,v) else a) else kvs++ [(k,v)]
def qv{p:κ×V}{r:List (κ×V)}{k:κ}(e:p.1=k):mR (p::r) k=some p.2:=by simp[mR,List.find?_cons,e]
def pG{p:κ×V}{r:List (κ×V)}{k:κ}(e:¬p.1=k):mR (p::r) k=mR r k:=by simp[mR,List.find?_cons,e]
theorem uI(k:κ):∀kvs:List (κ×V),(kvs.any λkv=>decide (kv.1=k))=(mR kvs k).isSome
 | []=>rfl
 | p::r=>by
   rw[List.any_cons]
   by_cases e:p.1=k
   · simp only[qv e,Qeq e,Bool.true_or,Option.isSome_some]
   · rw[pG e,Qdq e,Bool.false_or];exact uI k r
def gu(kvs:List (κ×V))(k:κ)(v:V):(putK kvs k v).length<=kvs.length+1:=by
 unfold putK
 split
 ·rw[lQm];omega
 ·rw[lQa,Qnq,QGq];omega
def p8.isSome_eq{o:Option V}{u:Option Value}(r:p8 o u):o.isSome=u.isSome:=by
 cases o with
 | none=>cases u with
   |none=>rfl
   |some _=>exact(show False from r).elim
 | some _=>cases u with
   |none=>exact(show False from r).elim
   |some _=>rfl
def KV.val{kvs:List (κ×V)}{vs:List (κ×Value)}(r:KV kvs vs)(k:κ):p8 (mR kvs k) (valueAt vs k):=by
 unfold KV at r
 induction r with
 |nil=>exact True.intro
 | @cons p q ps qs h t ih=>
   obtain⟨c,d⟩:=h
   by_cases e:p.1=k
   · have a:q.1=k:=c.symm.trans e
     have b:valueAt (q::qs) k=some q.2:=by simp[valueAt,List.find?_cons,a]
     rw[qv e,b];exact d
   · have a:¬q.1=k:=λz=>e (c.trans z)
     have b:valueAt (q::qs) k=valueAt qs k:=by simp[valueAt,List.find?_cons,a]
     rw[pG e,b];exact ih
theorem KV.any{kvs:List (κ×V)}{vs:List (κ×Value)}(r:KV kvs vs)(k:κ):(kvs.any λkv=>decide (kv.1=k))=vs.any λkv=>decide (kv.1=k):=by
 unfold KV at r
 induction r with
 |nil=>rfl
 |cons h t a=>rw[List.any_cons,List.any_cons,a,h.1]
def KV.repl{kvs:List (κ×V)}{vs:List (κ×Value)}(r:KV kvs vs)(k:κ){y:V}{u:Value}(c:RelV y u):
  KV (kvs.map λkv=>if kv.1=k then(kv.1,y) else kv) (vs.map λkv=>if kv.1=k then(kv.1,u) else kv):=by
 unfold KV at r⊢
 induction r with
 |nil=>exact .nil
 | @cons p q ps qs h t ih=>
   rw[QDq,QDq]
   refine .cons ?_ ih
   obtain⟨a,b⟩:=h
   by_cases e:p.1=k
   · rw[Qhq e,Qhq (a.symm.trans e)];exact⟨a,c⟩
   · rw[Quq e,Quq (λz=>e (a.trans z))];exact⟨a,b⟩
def KV.put{kvs:List (κ×V)}{vs:List (κ×Value)}(r:KV kvs vs)(k:κ){y:V}{u:Value}(a:RelV y u):KV (putK kvs k y) (stored vs k u):=by
 unfold putK stored
 rw[r.any k]
 by_cases e:(vs.any λb=>decide (b.1=k))=true
 ·rw[Qhq e,Qhq e];exact r.repl k a
 ·rw[Quq e,Quq e];exact Paired.snoc r ⟨rfl,a⟩
def KV.length{kvs:List (κ×V)}{vs:List (κ×Value)}(r:KV kvs vs):kvs.length=vs.length:=Paired.length r
end
def vH{P:Program}{w:World}{k:Key}{u:Value}(r:RelV (kV k) u):(bg P w).is k u=true:=by
 cases k with
 |inl i=>obtain⟨t,e⟩:=(show∃t,u=Value.int i t from r);subst e;exact uJ P w i t
 |inr x=>obtain⟨t,e⟩:=(show∃t,u=Value.str x t from r);subst e;exact uT P w x t
theorem rS{P:Program}{w:World}:∀{a:List Key} {b:List Value},a_ (a.map kV) b->ItemsAre (bg P w) a b
 | [],_,r=>by rw[List.map_nil] at r;cases r;exact .nil
 | k::a,_,r=>by
   rw[QDq] at r
   cases r with
   |cons h t=>exact .cons (vH h) (rS t)
abbrev KT(H:Hp):List (List Key×V)->List (List Key×Addr×Value)->Prop:=Paired λp q=>p.1=q.1/\H q.2.1=some (.tup (p.1.map kV))/\RelV p.2 q.2.2
def KT.val{H:Hp}{kvs:List (List Key×V)}{xs:List (List Key×Addr×Value)}(r:KT H kvs xs)(k:List Key):p8 (mR kvs k) ((atKey xs k).map (·.2)):=by
 induction r with
 |nil=>exact True.intro
 | @cons p q ps qs h t ih=>
   obtain⟨c,_,d⟩:=h
   by_cases e:p.1=k
   · have a:q.1=k:=c.symm.trans e
     have b:atKey (q::qs) k=some q.2:=by simp[atKey,List.find?_cons,a]
     rw[qv e,b];exact d
   · have a:¬q.1=k:=λz=>e (c.trans z)
     have b:atKey (q::qs) k=atKey qs k:=by simp[atKey,List.find?_cons,a]
     rw[pG e,b];exact ih
def KT.repl{H:Hp}{kvs:List (List Key×V)}{xs:List (List Key×Addr×Value)}(r:KT H kvs xs)(k:List Key){y:V}{u:Value}(c:RelV y u):
  KT H (kvs.map λkv=>if kv.1=k then(kv.1,y) else kv) (xs.map (putAt k u)):=by
 induction r with
 |nil=>exact .nil
 | @cons p q ps qs h t ih=>
   rw[QDq,QDq]
   refine .cons ?_ ih
   obtain⟨a,b,d⟩:=h
   unfold putAt
   by_cases e:p.1=k
   · rw[Qhq e,Qhq (a.symm.trans e)];exact⟨a,b,c⟩
   · rw[Quq e,Quq (λz=>e (a.trans z))];exact⟨a,b,d⟩
def KT.put{H:Hp}{kvs:List (List Key×V)}{xs:List (List Key×Addr×Value)}(r:KT H kvs xs)(k:List Key){b:Addr}{y:V}{u:Value}(c:H b=some (.tup (k.map kV)))(a:RelV y u):
  KT H (putK kvs k y) (storedH xs k b u):=by
 have e:(kvs.any λd=>decide (d.1=k))=(atKey xs k).isSome:=by
  rw[uI,(r.val k).isSome_eq,Option.isSome_map]
 unfold putK storedH
 rw[e]
 by_cases q:(atKey xs k).isSome=true
 ·rw[Qhq q,Qhq q];exact r.repl k a
 ·rw[Quq q,Quq q];exact Paired.snoc r ⟨rfl,c,a⟩
def KT.keeps{H a:Hp}{kvs:List (List Key×V)}{xs:List (List Key×Addr×Value)}(r:KT H kvs xs)(c:∀b ys,H b=some (.tup ys)->a b=some (.tup ys)):KT a kvs xs:=
 Paired.mapP r λ_ _ z=>⟨z.1,c _ _ z.2.1,z.2.2⟩
section
variable{P:Program}{w:World}{H:Hp}{h:Heap}{a:Addr}
def Ea{u:HO}(ok:kO P w H h)(e:Rd H a u):bL P w H h a u:=e.ok ok
def BC{kvs:List (Key×V)}(ok:kO P w H h)(e:Rd H a (.dK kvs)):kvs.length<=sizeLine/\(a==sysModules)=false/\∃vs,KV kvs vs/\h.DictOf (bg P w) a vs:=
 show bL P w H h a (.dK kvs) from Ea ok e
def uZ{kvs:List (Key×V)}(ok:kO P w H h)(e:H a=some (.dK kvs)):kvs.length<=sizeLine/\(a==sysModules)=false/\∃vs,KV kvs vs/\h.DictOf (bg P w) a vs:=BC ok (.inl e)
def xc{b:List Key}(ok:kO P w H h)(e:H a=some (.tup (b.map kV))):(tupleKind (bg P w)).is h b a:=by
 obtain⟨_,c,r,o,f,g,_,n,d⟩:=(show bL P w H h a (.tup (b.map kV)) from ok a _ e)
 exact⟨o,c.toArray,n,f,g,d,by simpa using rS r⟩
def B5{kvs:List (List Key×V)}(ok:kO P w H h)(e:Rd H a (.dT kvs)):kvs.length<=sizeLine/\(a==sysModules)=false∧
  ∃xs,KT H kvs xs/\h.DictOfH (tupleKind (bg P w)) a xs:=by
 obtain⟨z,y,xs,r,o,g,d,f,k,i,j,n⟩:=(show bL P w H h a (.dT kvs) from Ea ok e)
 refine⟨z,y,xs,r,o,g,d,f,k,i,j,λx b=> ?_,n⟩
 have c:∀{l:List (List Key×V)} {m:List (List Key×Addr×Value)},KT H l m->∀x∈m,(tupleKind (bg P w)).is h x.1 x.2.1:=by
  intro l m q
  induction q with
  |nil=>intro x b;exact nomatch b
  | @cons p q ps qs hq t ih=>
    intro x b
    rcases Qsq.mp b with e|b
    · subst e
      exact xc ok (by rw[←hq.1];exact hq.2.1)
    · exact ih x b
 exact c r x b
def GZ{kvs:List (List Key×V)}(ok:kO P w H h)(e:H a=some (.dT kvs)):kvs.length<=sizeLine/\(a==sysModules)=false∧
  ∃xs,KT H kvs xs/\h.DictOfH (tupleKind (bg P w)) a xs:=B5 ok (.inl e)
end
def xj(H:Hp)(a:Addr)(y:V)(r:Option V):Prop:=
 (∃c k,Rd H a (.dK c)/\y=kV k/\r=mR c k)\/∃c k b,Rd H a (.dT c)/\y=.ref b/\H b=some (.tup (k.map kV))/\r=mR c k
def AG(H:Hp)(a:Addr)(y v:V)(d:Hp):Prop:=
 (∃c k,H a=some (.dK c)/\y=kV k/\c.length<sizeLine/\d=upd H a (.dK (putK c k v)))∨
 ∃c k b,H a=some (.dT c)/\y=.ref b/\H b=some (.tup (k.map kV))/\c.length<sizeLine/\d=upd H a (.dT (putK c k v))
def xj.k{H:Hp}{a:Addr}{kvs:List (Key×V)}{k:Key}(e:H a=some (.dK kvs)):xj H a (kV k) (mR kvs k):=.inl ⟨kvs,k,.inl e,rfl,rfl⟩
def AG.k{H:Hp}{a:Addr}{kvs:List (Key×V)}{k:Key}{v:V}(e:H a=some (.dK kvs))(b:kvs.length<sizeLine):AG H a (kV k) v (upd H a (.dK (putK kvs k v))):=.inl ⟨kvs,k,e,rfl,b,rfl⟩
section
variable{X:Cx}{pins:List (Addr×Obj)}{σ:St}{H:Hp}{s:Shared}{a:Addr}{y v:V}{u r:Value}{o:Option V}{A:Around}{E:Value->Shared->Prop}
def Inv.big(I:Inv X pins σ H s):sysModules<s.heap.objs.size:=by
 have h:mainGlobals<s.heap.objs.size:=(I.mod.glob.keeps I.bk).lt
 exact Nat.lt_trans (by decide) h
def zf{Q:Value->Shared->Prop}(F:A.units+1<cLine)(I:Inv X pins σ H s)(g:xj H a y (some v))(x:RelV y u)(h:∀f t,Inv X pins σ H t->RelV v f->Q f t):
  wpAny (model X.prog X.w) A (getItem (.ref a) u) Q E s:=by
 rcases g with⟨q,k,e,i,l⟩|⟨q,k,b,e,i,K,l⟩
 ·subst i
  obtain⟨z,J,C,d,n⟩:=BC I.hok e
  obtain⟨f,j,c⟩:=p8.some_of (v:=v) (o:=valueAt C k) (by rw[l];exact d.val k)
  exact wpAny_getItem_of (vH x) n.mapOf j (h f _ (I.tok _) c)
 ·subst i
  cases (show u=Value.ref b from x)
  obtain⟨z,J,G,d,n⟩:=B5 I.hok e
  obtain⟨f,j,c⟩:=p8.some_of (v:=v) (o:=(atKey G k).map (·.2)) (by rw[l];exact d.val k)
  obtain⟨p,B,m⟩:=oQm.mp j
  refine wpAny_getItem_heap (tupleKind_room_in1 F) (xc I.hok K) n B ?_
  rw[m]
  exact h f _ (I.tok _) c
def oK{h':Heap}{t':Nat}{ob:HO}(I:Inv X pins σ H s)(f:Hw (H a))(c:Heap.SameBut a s.heap h')(he:∃q,h'.get? a=some q)(new:bL X.prog X.w (upd H a ob) h' a ob):
  Inv X pins σ (upd H a ob) {s with heap:=h',toks:=t'}:=
 I.write (x:=a) (e:=a) f (.inl rfl) (λb q d z=>(c.2 b d).trans z) he new
def pF{P:Program}{w:World}{d:Hp}{h':Heap}{kvs:List (Key×V)}{vs:List (Key×Value)}(z:kvs.length<=sizeLine)(hd:(a==sysModules)=false)(b:KV kvs vs)(c:h'.DictOf (bg P w) a vs):
  bL P w d h' a (.dK kvs):=⟨z,hd,vs,b,c⟩
def zJ{F:Hp}{Q:Unit->Shared->Prop}(S:A.units+1<cLine)(I:Inv X pins σ H s)(g:AG H a y v F)(M:RelV y u)(J:RelV v r)(h:∀L,Inv X pins σ F L->Q () L):
  wpAny (model X.prog X.w) A (setItem (.ref a) u r) Q E s:=by
 rcases g with⟨d,k,e,m,l,t⟩|⟨d,k,b,e,m,N,l,t⟩
 ·subst m t
  obtain⟨z,B,R,f,x⟩:=uZ I.hok e
  have C:R.length<=sizeLine:=by rw[←f.length];exact z
  have p:(putK d k v).length<=sizeLine:=by have:=gu d k v;omega
  refine wpAny_setItem_pairs (hsz:=C) (vH M) x λK i n=>h _ ?_
  have W:∃q,K.get? a=some q:=let ⟨q,_,_,j,_⟩:=i;⟨q,j⟩
  exact oK I (by rw[e];exact True.intro) n W (pF p B (f.put k J) i)
 ·subst m t
  cases (show u=Value.ref b from M)
  obtain⟨z,B,U,f,x⟩:=GZ I.hok e
  have C:U.length<=sizeLine:=by rw[←Paired.length f];exact z
  have p:(putK d k v).length<=sizeLine:=by have:=gu d k v;omega
  refine wpAny_setItem_heap (hsz:=C) (tupleKind_room_in1 S) (xc I.hok N) x λK i n=>h _ ?_
  obtain⟨q,Y,P,j,h2,Z,h4,_,h5⟩:=i
  refine oK I (by rw[e];exact True.intro) n ⟨q,j⟩ ⟨p,B,_,(f.put k N J).keeps λc ys G=> ?_,q,Y,P,j,h2,Z,h4,h5⟩
  rw[aM (AM G e (λz=>nomatch z))]
  exact G
end
def AD(i:Expr):Prop:=∀b a,subscripted i false b a=operate [b,a] (getItem b a)
def xU{prog:Program}{w:World}{A:Around}{E:Value->Shared->Prop}{s:Shared}{env:Env}{b a:Expr}{pos:Pos}{T id:String}{Q:Value->Shared->Prop}
  (n:typeLookup (.type T) "__getitem__"=pure (some (.builtin id))) (m:AD a)
  (h:wpAny (model prog w) A (eval b env) (λo e=>wpAny (model prog w) A (eval a env) (λi c=>c.TypeIs o T/\wpAny (model prog w) A (getItem o i) Q E c) E e) E s):
  wpAny (model prog w) A (eval (.Subscript b a pos) env) Q E s:=by
 refine Subscript_ (QRq h (λo e k=>QRq k (λi c d=> ?_) λ_ _ x=>x) λ_ _ x=>x)
 obtain⟨l,d⟩:=d
 unfold subscriptTail
 refine Qaq ?_
 rw[getitemInPython_of_ne l.not_modules]
 refine Qaq (wpAny_specialOf l n ?_)
 have g:wpAny (model prog w) A (subscripted a false o i) (λr f=>wpAny (model prog w) A (letTemporaryGo b o r >>= λ_=>pure r) Q E f) E c:=by
  rw[m o i]
  exact wpAny_operating (QRq d (λr f j=>Qaq (wpAny_letTemporaryGo (Qgq j))) λ_ _ x=>x)
 first
  |exact Qgq (Qaq g)
  |exact Qaq (Qgq (Qaq g))
  |exact Qaq g
def u_{X:Cx}{c:List (Addr×Obj)}{h:St}{H:Hp}{s:Shared}{a:Addr}{y:V}{o:Option V}(I:Inv X c h H s)(g:xj H a y o):s.TypeIs (.ref a) "dict":=by
 rcases g with⟨f,k,e,_,_⟩|⟨f,k,b,e,_,_,_⟩
 ·obtain⟨_,_,i,_,d⟩:=BC I.hok e
  exact d.typeIs
 ·obtain⟨_,_,j,_,d⟩:=B5 I.hok e
  exact d.typeIs
def GI(d c:TE):TE:=λb H Q=>d b H λx H1=>c b H1 λy H2=>∃a v,x=.ref a/\xj H2 a y (some v)/\Q v H2
def Hs(e c d:TE):TS:=λD b H=>d b H λv H1=>e b H1 λx H2=>c b H2 λy H3=>∃a H4,x=.ref a/\AG H3 a y v H4/\D.nx b H4
section
variable{X:Cx}{o i e value:Expr}{pos pos' tpos:Pos}{td ty tv:TE}
def xZ(p:X.A.units+1<cLine)(n:PE X o td)(hi:PE X i ty)(k:AD i):PE X (.Subscript o i pos) (GI td ty):=by
 intro b s f H Q I h
 refine xU PySem.F.slot_dict_getitem.lookup k (cg (n b s f H _ I h) λu z ⟨x,H1,q,t,m⟩=>cg (hi b z f H1 _ q m) λG C l=> ?_)
 obtain⟨y,H2,d,B,a,v,w,g,j⟩:=l
 subst w
 obtain rfl:u=Value.ref a:=t
 exact⟨u_ d g,zf p d g B λK J r c=>⟨v,H2,r,c,j⟩⟩
def DR(p:X.A.units+1<cLine)(n:PE X o td)(hi:PE X i ty)(F:PE X value tv)(f:swapsWith value (some (.Subscript o i pos')) pos.line X.env=pure false):
  PS X (.Assign [.Subscript o i pos'] value pos) (Hs td ty tv):=by
 intro b s c H D I h
 refine wpAny_Assign_Subscript (cg (F b s c H _ I h) λr C ⟨v,H1,q,t,m⟩=>cg (n b C c H1 _ q m) λu k ⟨x,H2,l,z,d⟩=>cg (hi b k c H2 _ l d) λK L ⟨y,H3,w,G,a,H4,B,g,J⟩=> ?_) f
 subst B
 obtain rfl:u=Value.ref a:=z
 exact zJ p w g G t λM j=>⟨c,H4,j,J⟩
end
def AN{P:Program}{w:World}{H:Hp}(h:Heap)(a:sysModules<h.objs.size):bL P w H (h.push {cls:=.type "dict",data:=.dict #[]}) h.objs.size (.dK []):=
 ⟨Nat.zero_le _,beq_eq_false_iff_ne.mpr (Ne.symm (Qwq a)),[],.nil,Heap.DictOf.new h⟩
def ES:TE:=λ_ H Q=>∀p,H p=none->Q (.ref p) (upd H p (.dK []))
section
variable{X:Cx}{pos:Pos}
def AF:PE X (.Dict [] [] pos) ES:=λb s c H Q I h=>
 wpAny_Dict_empty ⟨.ref s.heap.objs.size,_,I.laid (a:=s.heap.objs.size) (o:=.dK []) (t':=s.toks) (λ_ _ q=>Qcq _ q) (Qmq _) (AN s.heap I.big),rfl,h _ (I.hok.fresh (Qmq _))⟩
end
def ip(kvs more:List (Key×V)):List (Key×V):=more.foldl (λa b=>putK a b.1 b.2) kvs
def KV.merge:∀{more:List (Key×V)} {a:List (Key×Value)} {kvs:List (Key×V)} {vs:List (Key×Value)},KV more a->KV kvs vs->KV (ip kvs more) (merged vs a):=by
 intro more a kvs vs r
 unfold KV at r
 induction r generalizing kvs vs with
 |nil=>intro q;exact q
 | @cons p q ps qs h t ih=>
   intro b
   have e:KV (putK kvs p.1 p.2) (stored vs q.1 q.2):=by
     have:=b.put p.1 h.2
     rw[←h.1];exact this
   exact ih e
theorem gF:∀(more kvs:List (Key×V)),(ip kvs more).length<=kvs.length+more.length
 | [],kvs=>by show kvs.length<=kvs.length+0;omega
 | p::r,kvs=>by
   have a:=gF r (putK kvs p.1 p.2)
   have b:=gu kvs p.1 p.2
   show(ip (putK kvs p.1 p.2) r).length<=_
   rw[Qnq];omega
end L2
namespace HT
open PySem PyProof.Rows
section
open PySem.SeqAt
open PySem.AutoSeq1 (wpAny_loadPart')
open PySem.MeetsSeq PySem.MeetsSeq2 PySem.MeetsSeq3
end
section
variable{prog:Program}{w:World}{A:Around}{E:Value->Shared->Prop}{s:Shared}
def CY{t b:Addr}{vs ws:List Value}{Q:Value->Shared->Prop}(v:IsTup s.heap t vs.toArray)(y:IsTup s.heap b ws.toArray)(r:vs≠[])
  (u:ws= []->Q (.ref t) s) (x:ws≠[]->Q (.ref s.heap.objs.size) {s with heap:=s.heap.push {cls:=.type "tuple",data:=.seq (vs++ws).toArray}})
  (hsz:vs.length+ws.length<=sizeLine):wpAny (model prog w) A (binaryOp .Add (.ref t) (.ref b)) Q E s:=by
 obtain⟨⟨cls,o,data,q⟩,i,k,n,p⟩:=id v
 obtain⟨⟨m,g,j,f⟩,a,c,l,d⟩:=id y
 simp only at k p c d
 subst k p c d
 have e:vs.toArray++ws.toArray=(vs++ws).toArray:=by simp
 by_cases h:ws= []
 ·exact concat_meets ⟨_,i,rfl⟩ ⟨_,a,rfl⟩ noFill_tuple_add seq_tuple_add PySem.F.slot_tuple_add PySem.F.entry_tuple_add (PySem.F.args_tuple_add_2 _ _)
   (tuple_addW1 t b vs.toArray ws.toArray n l o g q f (by simpa using r) (by simp[h])) ⟨i,a,u h⟩
 ·refine concat_meets ⟨_,i,rfl⟩ ⟨_,a,rfl⟩ noFill_tuple_add seq_tuple_add PySem.F.slot_tuple_add PySem.F.entry_tuple_add (PySem.F.args_tuple_add_2 _ _)
   (tuple_addW2 t b vs.toArray ws.toArray n l o g q f (by simpa using r) (by simpa using h) (by rw[Qjq,Qjq];exact hsz)) ⟨i,a,?_⟩
  rw[e]
  exact x h
def cZ(n d:Nat):Option Int->Nat
 |none=>d
 |some v=>if v<0 then(v+(n:Int)).toNat else min v.toNat n
def qx(n d:Nat):cZ n d none=d:=rfl
def yr(n d k:Nat):cZ n d (some (k:Int))=min k n:=by
 show(if (k:Int)<0 then((k:Int)+(n:Int)).toNat else min (k:Int).toNat n)=min k n
 rw[Quq (by omega),Int.toNat_natCast]
def FG(n d:Nat)(hd:d<=n)(o:Option Int):cZ n d o<=n:=by
 cases o with
 |none=>exact hd
 | some v=>
   show(if v<0 then(v+(n:Int)).toNat else min v.toNat n)<=n
   by_cases a:v<0
   · rw[Qhq a];omega
   · rw[Quq a];exact Nat.min_le_right _ _
def yf(v:Int)(n d:Nat):(if v<0 then max (v+(n:Int)) 0 else min v (n:Int))=((cZ n d (some v):Nat):Int):=by
 show(if v<0 then max (v+(n:Int)) 0 else min v (n:Int))=(((if v<0 then(v+(n:Int)).toNat else min v.toNat n):Nat):Int)
 by_cases a:v<0
 ·simp only[Qhq a];omega
 ·simp only[Quq a];omega
def xt(lo hi:Option Int)(n:Nat):Builtin.Slice.sliceAdjust lo hi 1 (n:Int)=(((cZ n 0 lo:Nat):Int),((cZ n n hi:Nat):Int)):=by
 have a:¬((1:Int)<0):=by omega
 unfold Builtin.Slice.sliceAdjust
 simp only[a,if_false]
 refine Prod.ext ?_ ?_
 ·cases lo with
  |none=>rfl
  |some v=>exact yf v n 0
 ·cases hi with
  |none=>rfl
  |some v=>exact yf v n n
def wH(i j:Nat):Builtin.Slice.slicePlaces (i:Int) (j:Int) 1=j-i:=by
 unfold Builtin.Slice.slicePlaces
 have a:(1:Int)>0:=by omega
 simp only[a,if_true,Int.ediv_one]
 split <;>omega
def qC{v:Value}{o:Option Int}{Q:Option Int->Shared->Prop}(p:IsPart v o)(h:Q o s):wpAny (model prog w) A (Builtin.Slice.slicePartIndex v) Q E s:=by
 cases p with
 |none=>exact slicePart_none h
 |int i t=>exact slicePart_int h
def hG{e:Addr}{d c:Value}{lo hi:Option Int}{n:Nat}{Q:Int×Int×Nat->Shared->Prop}(f:s.heap.IsSliceOf e d c .none)(j:IsPart d lo)(i:IsPart c hi)
  (h:Q (((cZ n 0 lo:Nat):Int),1,cZ n n hi-cZ n 0 lo) s):wpAny (model prog w) A (Builtin.Slice.sliceApplied (.ref e) (pure (n:Int))) Q E s:=by
 obtain⟨k,a,g,b⟩:=id f
 unfold Builtin.Slice.sliceApplied Builtin.Slice.sliceFields
 refine Qaq (Qaq (QMq a b (x:=d) rfl (Qaq (QMq a b (x:=c) rfl (Qaq (QMq a b (x:=.none) rfl (Qgq ?_)))))))
 refine Qaq (slicePart_none ?_)
 show wpAny _ _ (if ((1:Int)==0)=true then _ else _) _ _ s
 rw[Quq (by decide)]
 refine Qaq (qC j (Qaq (qC i (Qaq (Qgq ?_)))))
 show wpAny _ _ (match Builtin.Slice.sliceAdjust lo hi 1 (n:Int) with|(lo,hi)=>pure (lo,(1:Int),Builtin.Slice.slicePlaces lo hi 1)) _ _ s
 rw[xt lo hi n]
 show wpAny _ _ (pure (((cZ n 0 lo:Nat):Int),(1:Int),Builtin.Slice.slicePlaces ((cZ n 0 lo:Nat):Int) ((cZ n n hi:Nat):Int) 1)) _ _ s
 rw[wH]
 exact Qgq h
def BG(xs:Array Value)(i k:Nat):((List.range k).filterMap λ(m:Nat)=>xs[((i:Int)+(m:Int)*1).toNat]?).toArray=((xs.toList.drop i).take k).toArray:=by
 have e:(λ(m:Nat)=>xs[((i:Int)+(m:Int)*1).toNat]?)=λm=>xs[i+m]? :=by
  funext m
  have:((i:Int)+(m:Int)*1).toNat=i+m:=by omega
  rw[this]
 rw[e]
 have:=pick_run xs i k
 rw[List.filterMap_map] at this
 have a:((λx=>xs[x]?)∘λx=>i+x)=λm=>xs[i+m]? :=rfl
 rw[a] at this
 rw[this]
def lM{t f:Addr}{items:Array Value}{k i:Value}{lo hi:Option Int}{Q:Value->Shared->Prop}(b:IsTup s.heap t items)(j:s.heap.IsSliceOf f k i .none)(o:IsPart k lo)(r:IsPart i hi)
  (l:¬(cZ items.size 0 lo=0/\cZ items.size items.size hi=items.size))
  (h:Q (.ref s.heap.objs.size) {s with heap:=s.heap.push {cls:=.type "tuple",data:=.seq ((items.toList.drop (cZ items.size 0 lo)).take (cZ items.size items.size hi-cZ items.size 0 lo)).toArray}})
  (hsz:items.size<=sizeLine):wpAny (model prog w) A (getItem (.ref t) (.ref f)) Q E s:=by
 have a:sizeOk (.seq ((items.toList.drop (cZ items.size 0 lo)).take (cZ items.size items.size hi-cZ items.size 0 lo)).toArray):=by
  show((items.toList.drop (cZ items.size 0 lo)).take (cZ items.size items.size hi-cZ items.size 0 lo)).toArray.size<=sizeLine
  rw[Qjq,Qxq,List.length_drop,Array.length_toList]
  omega
 have x:cZ items.size items.size hi<=items.size:=FG _ _ (Qmq _) hi
 obtain⟨n,e,d,p⟩:=id j
 have g:s.TypeIs (.ref f) "slice":=⟨n,e,d⟩
 unfold getItem
 try with_reducible refine QLq ?_
 first|refine Qaq (Qgq ?_)|skip
 refine Qaq (wpAny_sequenceKey b.typeIs (by decide) ?_)
 refine Qaq (QiQ (name:=Str.ofString "__getitem__") b.typeIs PyProof.Rows.slot_tuple_getitem
  (wpAny_call_entry PyProof.Rows.slot_tuple_getitem b.typeIs entry_tuple_getitem ?_ (args_tuple_getitem _ _)))
 show wpAny _ _ (Builtin.Tuple.tupleItemsOf (.ref t) >>= _) _ _ s
 refine Qaq (tupleItemsOf_ b ?_)
 refine Qaq (wpAny_typeOf g ?_)
 rw[Qhq (by decide)]
 refine Qaq (hG j o r ?_)
 have c:¬((((cZ items.size 0 lo:Nat):Int)==0&&(1:Int)==1&&(cZ items.size items.size hi-cZ items.size 0 lo)==items.size)=true):=by
  intro q
  rw[QCq,QCq] at q
  have v:((cZ items.size 0 lo:Nat):Int)=0:=eq_of_beq q.1.1
  have u:cZ items.size items.size hi-cZ items.size 0 lo=items.size:=eq_of_beq q.2
  exact l ⟨by omega,by omega⟩
 show wpAny _ _ (if (((cZ items.size 0 lo:Nat):Int)==0&&(1:Int)==1&&(cZ items.size items.size hi-cZ items.size 0 lo)==items.size)=true then _ else _) _ _ s
 rw[Quq c,BG]
 first
  |exact Qaq (m:=Builtin.Tuple.tupleExact _) (QhQ (Qgq ⟨_,rfl,Qgq h⟩) a)
  |exact Qaq (m:=Builtin.Tuple.tupleExact _) (QhQ (Qaq (Qgq (Qgq ⟨_,rfl,Qgq h⟩))) a)
  |exact Qaq (Qaq (m:=Builtin.Tuple.tupleExact _) (QhQ (Qgq (Qgq ⟨_,rfl,Qgq h⟩)) a))
  |exact Qaq (Qaq (m:=Builtin.Tuple.tupleExact _) (QhQ (Qgq ⟨_,rfl,Qgq h⟩) a))
end
end HT
namespace L2
open PySem PySem.Spec PyProof.Rows
abbrev TO:=St->Hp->(Option Int->Hp->Prop)->Prop
def PO(X:Cx)(e:Option Expr)(t:TO):Prop:=
 ∀ (a:List (Addr×Obj)) (s:Shared) (b:St) (H:Hp) (Q:Option Int->Hp->Prop),Inv X a b H s->t b H Q→
   wpAny (model X.prog X.w) X.A (evalPart e X.env) (λu d=>∃o c,Inv X a b c d/\IsPart u o/\Q o c) X.xe s
def DM:TO:=λ_ H Q=>Q none H
def Hc(t:TE):TO:=λa H Q=>t a H λx H1=>∃i,x=.int i/\Q (some i) H1
section
variable{X:Cx}{e:Expr}{te:TE}{lo hi:Option Expr}{tl th:TO}{pos p2:Pos}
def CI:PO X none DM:=by
 intro a s b H Q I h
 rw[evalPart_none]
 exact Qgq ⟨none,H,I,.none,h⟩
def De(h:PE X e te):PO X (some e) (Hc te):=by
 intro a s d H Q I f
 rw[evalPart_some]
 refine cg (h a s d H _ I f) λu k g=> ?_
 obtain⟨x,H1,c,j,b⟩:=g
 obtain⟨i,rfl,q⟩:=b
 obtain⟨t,rfl⟩:=j
 exact⟨some i,H1,c,.int i t,q⟩
def Iq(X:Cx)(r:V->Option Int->Option Int->Hp->VK->Prop):Prop:=
 ∀ (a:List (Addr×Obj)) (s:Shared) (c:St) (H:Hp) (x:V) (v f b:Value) (lo hi:Option Int) (d:Addr) (Q:VK),Inv X a c H s->RelV x v->s.heap.IsSliceOf d f b .none->IsPart f lo->IsPart b hi->r x lo hi H Q→
   ∃T id,typeLookup (.type T) "__getitem__"=pure (some (.builtin id))/\s.TypeIs v T/\wpAny (model X.prog X.w) X.A (getItem v (.ref d)) (EP X a c Q) X.xe s
def KP(r:V->Option Int->Option Int->Hp->VK->Prop)(te:TE)(tl th:TO):TE:=λa H Q=>te a H λx H1=>tl a H1 λl H2=>th a H2 λu H3=>r x l u H3 Q
def uw{r:V->Option Int->Option Int->Hp->VK->Prop}(F:Iq X r)(he:PE X e te)(m:PO X lo tl)(y:PO X hi th):PE X (.Subscript e (.Slice lo hi none p2) pos) (KP r te tl th):=by
 intro a s d H Q I h
 refine Subscript_ (cg (he a s d H _ I h) λv J i=> ?_)
 obtain⟨x,H1,B,o,t⟩:=i
 refine wpAny_Slice (cg (m a J d H1 _ B t) λg n ⟨l,H2,p,z,j⟩=>cg (y a n d H2 _ p j) λf c i=> ?_)
 obtain⟨u,H3,C,G,K⟩:=i
 rw[evalPart_none]
 refine Qgq ?_
 have k:Inv X a d H3 {c with heap:=c.heap.push {cls:=.type "slice",data:=.fields #[g,f,.none]}}:=C.kept (t':=c.toks) λb L q=>Qcq _ q
 obtain⟨T,id,hT,ht,hg⟩:=F a {c with heap:=c.heap.push {cls:=.type "slice",data:=.fields #[g,f,.none]}} d H3 x v g f l u c.heap.objs.size Q k o (Heap.IsSliceOf.new ..) z G K
 show wpAny (model X.prog X.w) X.A (subscriptTail e (.Slice lo hi none p2) v (.ref c.heap.objs.size)) (EP X a d Q) X.xe {c with heap:=c.heap.push {cls:=.type "slice",data:=.fields #[g,f,.none]}}
 exact tail_any (ops:= [.ref c.heap.objs.size,v]) ht hT hg (by with_unfolding_all rfl)
def tj(xs:List V)(lo hi:Option Int):List V:=(xs.drop (HT.cZ xs.length 0 lo)).take (HT.cZ xs.length xs.length hi-HT.cZ xs.length 0 lo)
def nI(xs:List V)(lo hi:Option Int):(tj xs lo hi).length<=xs.length:=by
 unfold tj
 rw[Qxq,List.length_drop]
 omega
def JS(K:PySem.W.Frag):V->Option Int->Option Int->Hp->VK->Prop:=λx lo hi H Q=>∃a b,x=.ref a/\fK K H a b∧
 ¬(HT.cZ b.length 0 lo=0/\HT.cZ b.length b.length hi=b.length)/\∀p,H p=none->Q (.ref p) (upd H p (.tup (tj b lo hi)))
def FB:Iq X (JS X.K):=by
 intro g s w H x v u p lo hi y Q I m k l n h
 obtain⟨a,d,rfl,hx,hw,q⟩:=h
 cases m
 obtain⟨f,r,i,j⟩:=I.tuple hx
 have c:f.toArray.size=d.length:=by rw[Qjq];exact r.length.symm
 refine⟨"tuple",_,PyProof.Rows.slot_tuple_getitem.lookup,i.typeIs,?_⟩
 refine HT.lM i k l n (by rw[c];exact hw) ?_ (by rw[c];exact j)
 rw[c]
 refine⟨.ref s.heap.objs.size,_,I.laid (t':=s.toks) (o:=.tup (tj d lo hi)) (λb t q=>Qcq _ q) (Qmq _) ?_,rfl,q _ (I.hok.fresh (Qmq _))⟩
 exact⟨QAq (nI d lo hi) j,_,(r.drop (HT.cZ d.length 0 lo)).take (HT.cZ d.length d.length hi-HT.cZ d.length 0 lo),qM.new _ _⟩
def Eh(K:PySem.W.Frag):R2:=λx y H Q=>∃a b d c,x=.ref a/\y=.ref b/\fK K H a d/\fK K H b c/\d≠[]/\d.length+c.length<=sizeLine∧
 (c= []->Q (.ref a) H)/\(c≠[]->∀p,H p=none->Q (.ref p) (upd H p (.tup (d++c))))
def a_.nil_iff{xs:List V}{a:List Value}(r:a_ xs a):a= []↔xs= []:=by
 cases r with
 |nil=>simp
 |cons _ _=>simp
def C3:iH X (binaryOp .Add) (Eh X.K):=by
 intro f s r H x y v u Q I m n h
 obtain⟨a,b,l,i,rfl,rfl,ha,hb,hx,hz,q1,q2⟩:=h
 cases m
 cases n
 obtain⟨k,d,j,_⟩:=I.tuple ha
 obtain⟨g,c,p2,_⟩:=I.tuple hb
 refine HT.CY j p2 (λz=>hx (d.nil_iff.mp z)) (λz=>⟨.ref a,H,I,rfl,q1 (c.nil_iff.mp z)⟩) (λz=> ?_) (by rw[←d.length,←c.length];exact hz)
 refine⟨.ref s.heap.objs.size,_,I.laid (t':=s.toks) (o:=.tup (l++i)) (λb p q=>Qcq _ q) (Qmq _) ?_,rfl,q2 (λw=>z (c.nil_iff.mpr w)) _ (I.hok.fresh (Qmq _))⟩
 exact⟨by rw[lQa];exact hz,_,d.append c,qM.new _ _⟩
end
def yV(n:Nat)(i:Int):Option Nat:=if 0<=i then(if i<n then some i.toNat else none) else if -(n:Int)<=i then some (i+n).toNat else none
def lW{α:Type}(xs:List α)(i:Int):Option α:=(yV xs.length i).bind λj=>xs[j]?
def uo{n:Nat}{i:Int}{j:Nat}(h:yV n i=some j):seqIndex? i n=some j/\j<n/\ -(n:Int)<=i/\i<n:=by
 unfold yV at h
 by_cases b:0<=i
 ·rw[Qhq b] at h
  by_cases a:i<n
  ·rw[Qhq a] at h
   have e:i.toNat=j:=QdQ h
   exact⟨by rw[seqIndex_of b a,e],by omega,by omega,a⟩
  ·rw[Quq a] at h;cases h
 ·rw[Quq b] at h
  by_cases a: -(n:Int)<=i
  ·rw[Qhq a] at h
   have e:(i+n).toNat=j:=QdQ h
   exact⟨by rw[seqIndex_neg (by omega) a,e],by omega,a,by omega⟩
  ·rw[Quq a] at h;cases h
def uk{α:Type}{xs:List α}{i:Int}{v:α}(h:lW xs i=some v):∃j,seqIndex? i xs.length=some j/\xs[j]?=some v/\j<xs.length/\ -(xs.length:Int)<=i/\i<xs.length:=by
 unfold lW at h
 cases e:yV xs.length i with
 |none=>rw[e] at h;cases h
 | some j=>
   rw[e] at h
   obtain⟨c,d,a,b⟩:=uo e
   exact⟨j,c,h,d,a,b⟩
def yp(b:Expr):Prop:=∀o i,subscripted b false o i=operate [o,i] (getItem o i)
def Ct(X:Cx)(r:R2):Prop:=
 ∀ (c a:Expr) (b:List (Addr×Obj)) (s:Shared) (d:St) (H:Hp) (x y:V) (v u:Value) (Q:VK),Inv X b d H s->RelV x v->RelV y u->r x y H Q→
   subscripted a false v u=operate [v,u] (getItem v u)->wpAny (model X.prog X.w) X.A (subscriptTail c a v u) (EP X b d Q) X.xe s
def Jt(X:Cx)(id:String)(r:V->List V->Hp->VK->Prop):Prop:=
 ∀ (a:List (Addr×Obj)) (s:Shared) (c:St) (H:Hp) (x:V) (d:List V) (v:Value) (b:List Value) (Q:VK),Inv X a c H s->RelV x v->a_ d b->r x d H Q→
   wpAny (model X.prog X.w) X.A (call (.builtin id) (v::b)) (EP X a c Q) X.xe s
section
variable{X:Cx}{a b:Expr}{ta tb:TE}{pos:Pos}
def Ct.or{r g:R2}(h:Ct X r)(h':Ct X g):Ct X (λx y H Q=>r x y H Q\/g x y H Q):=by
 intro c d e s i H x y v u Q I j k q f
 rcases q with q|q
 ·exact h c d e s i H x y v u Q I j k q f
 ·exact h' c d e s i H x y v u Q I j k q f
def GE{r:R2}(k:Ct X r)(d:PE X a ta)(m:PE X b tb)(e:yp b):PE X (.Subscript a b pos) (DY r ta tb):=by
 intro c s i H Q I h
 exact Subscript_ (EA d m I h λv u f x y H2 g j l q=>k a b c f i H2 x y v u Q g j l q (e _ _))
def G2(K:PySem.W.Frag):R2:=λx y H Q=>∃p c i v,x=.ref p/\y=.int i/\gJ K H p c/\lW c i=some v/\Q v H
def Gq(K:PySem.W.Frag):R2:=λx y H Q=>∃p c i v,x=.ref p/\y=.int i/\fK K H p c/\lW c i=some v/\Q v H
def HB:R2:=λx y H Q=>∃z i c,x=.str z/\y=.int i/\z.length<=sizeLine/\lW z.cps.toList i=some c/\Q (.str ⟨#[c]⟩) H
def Dj:Ct X (G2 X.K):=by
 intro g l c s B H x y v u Q I J N h o
 obtain⟨p,S,i,z,rfl,rfl,hq,he,q⟩:=h
 cases J
 obtain⟨t,rfl⟩:=N
 obtain⟨f,r,k,W⟩:=I.list hq
 obtain⟨j,e,M,U,G,P⟩:=uk he
 obtain⟨w,C,m⟩:=r.get M
 have F:=r.length
 have R:=ja
 have d:EP X c B Q w s:=⟨z,H,I,m,q⟩
 by_cases A:0<=i
 ·have n:i.toNat=j:=by
   rw[seqIndex_of A P] at e
   exact QdQ e
  exact item_listR k.isList A (by omega) (by rw[n];simpa using C) d o
 ·have n:(i+(f.toArray.size:Int)).toNat=j:=by
   rw[seqIndex_neg (by omega) G] at e
   rw[Qjq,←F]
   exact QdQ e
  exact subscriptTail_builtinR (x:=w) k.isList.typeIs slot_list_getitem.lookup
   (wpAny_getItem_list_neg (Q:=λr L=>r=w/\EP X c B Q r L) k.isList (by omega) (by rw[Qjq] <;>omega) (by omega) (by rw[n];simpa using C) ⟨rfl,d⟩) o
def Fp:Ct X (Gq X.K):=by
 intro e f c s l H x y v u Q I B J h m
 obtain⟨p,M,i,z,rfl,rfl,hq,he,q⟩:=h
 cases B
 obtain⟨t,rfl⟩:=J
 obtain⟨A,r,k,R⟩:=I.tuple hq
 obtain⟨j,o,G,N,P,S⟩:=uk he
 obtain⟨w,C,g⟩:=r.get G
 have n:=r.length
 have L:=ja
 have d:EP X c l Q w s:=⟨z,H,I,g,q⟩
 exact subscriptTail_builtinR (x:=w) k.typeIs slot_tuple_getitem.lookup
  (getItem_tuple (j:=j) (Q:=λr F=>r=w/\EP X c l Q r F) k (by omega) (by omega) (by rw[Qjq,←n];exact o) (by simpa using C) ⟨rfl,d⟩) m
def E4:Ct X HB:=by
 intro d e g s F H x y v u Q I p w h k
 obtain⟨z,i,c,rfl,rfl,hz,he,q⟩:=h
 obtain⟨t,rfl⟩:=p
 obtain⟨B,rfl⟩:=w
 obtain⟨j,f,r,G,o,A⟩:=uk he
 have l:z.cps.toList.length=z.length:=by simp[Str.length]
 rw[l] at f o A
 have C:=ja
 exact tail_any (typeIs_str s z t) slot_str_getitem.lookup (getItem_str (c:=c) (by
  have n:decide (i< -(2^63:Int))=false:=Qdq (by omega)
  have m:decide (i>=2^63)=false:=Qdq (by omega)
  rw[n,m,Bool.or_false]) (by rw[f];simpa using r) ⟨.str ⟨#[c]⟩,H,I.tok _,⟨_,rfl⟩,q⟩) k
def KF(K:PySem.W.Frag):R2:=λx y H Q=>G2 K x y H Q\/Gq K x y H Q\/HB x y H Q
def EB:Ct X (KF X.K):=Dj.or (Fp.or E4)
def xp(c:List Value)(n j:Nat)(u:Value):Obj.mapSeq (·.setIfInBounds j u) {cls:=.type "list",data:=.seq c.toArray n}={cls:=.type "list",data:=.seq (c.set j u).toArray n}:=by
 simp[Obj.mapSeq]
def Inv.lst{d:List (Addr×Obj)}{f:St}{H:Hp}{s:Shared}{p:Addr}{xs:List V}(I:Inv X d f H s)(h:H p=some (.lst xs)):
  ∃(c:List Value) (n:Nat),a_ xs c/\s.heap.get? p=some {cls:=.type "list",data:=.seq c.toArray n}/\xs.length<=sizeLine:=by
 obtain⟨z,c,n,r,e⟩:=I.hok p _ h
 exact⟨c,n,r,e,z⟩
def Inv.lstUpd{c:List (Addr×Obj)}{j:St}{H:Hp}{s:Shared}{p:Addr}{xs ys:List V}{d its':List Value}{n g:Nat}{f:Obj->Obj}(I:Inv X c j H s)(h:H p=some (.lst xs))
  (k:s.heap.get? p=some {cls:=.type "list",data:=.seq d.toArray n}) (i:f {cls:=.type "list",data:=.seq d.toArray n}={cls:=.type "list",data:=.seq its'.toArray g}) (r:a_ ys its') (hz:ys.length<=sizeLine) (t:Nat):
  Inv X c j (upd H p (.lst ys)) {s with heap:=s.heap.update p f,toks:=t}:=by
 have e:(s.heap.update p f).get? p=some {cls:=.type "list",data:=.seq its'.toArray g}:=by
  rw[Heap.get?_update_self f k (by rw[i] <;>rfl),i]
 refine I.write (x:=p) (e:=p) (by rw[h];trivial) (.inl rfl) (λb u l q=>(Heap.get?_update_other _ _ (Ne.symm l)).trans q) ⟨_,e⟩ ?_
 exact⟨hz,its',g,r,e⟩
def Ei:V->V->V->Hp->(Hp->Prop)->Prop:=λo i v H Q=>∃p c k j,o=.ref p/\i=.int k/\H p=some (.lst c)/\yV c.length k=some j/\Q (upd H p (.lst (c.set j v)))
def set_list:FY X Ei:=by
 intro c s B H o i v L J u Q I C A F h
 obtain⟨p,z,k,j,rfl,rfl,hp,hj,q⟩:=h
 cases C
 obtain⟨t,rfl⟩:=A
 obtain⟨d,n,r,g,G⟩:=I.lst hp
 obtain⟨e,M,w,x⟩:=uo hj
 have f:=r.length
 have K:=ja
 have y:Inv X c B (upd H p (.lst (z.set j v))) {s with heap:=s.heap.update p (Obj.mapSeq (·.setIfInBounds j u))}:=
  I.lstUpd hp g (xp d n j u) (r.set F j) (by rw[List.length_set];exact G) s.toks
 by_cases m:0<=k
 ·have l:k.toNat=j:=by
   rw[seqIndex_of m x] at e
   exact QdQ e
  exact PySem.W.ki_setAt g m (by omega) (by rw[Qjq,←f];exact x) (by rw[l];exact⟨_,y,q⟩)
 ·have l:(k+(d.toArray.size:Int)).toNat=j:=by
   rw[seqIndex_neg (by omega) w] at e
   rw[Qjq,←f]
   exact QdQ e
  exact PySem.W.ki_setBack g (by omega) (by rw[Qjq,←f];exact w) (by omega) (by rw[l];exact⟨_,y,q⟩)
def sy(lo hi:Option Int)(n:Nat):(sliceBounds lo hi none n).1=((HT.cZ n 0 lo:Nat):Int)/\(sliceBounds lo hi none n).2.1=((HT.cZ n n hi:Nat):Int)/\(sliceBounds lo hi none n).2.2=1:=by
 refine⟨?_,?_,rfl⟩
 ·cases lo with
  |none=>simp[sliceBounds,HT.cZ]
  | some i=>
    simp only[sliceBounds,HT.cZ,Option.getD_none,show(1:Int)>0 by decide,if_true]
    by_cases h:i<0
    · simp only[h,if_true] <;>omega
    · simp only[h,if_false] <;>omega
 ·cases hi with
  |none=>simp[sliceBounds,HT.cZ]
  | some i=>
    simp only[sliceBounds,HT.cZ,Option.getD_none,show(1:Int)>0 by decide,if_true]
    by_cases h:i<0
    · simp only[h,if_true] <;>omega
    · simp only[h,if_false] <;>omega
def qP(c:List Value)(lo hi:Option Int):slicePick c.toArray lo hi none=((c.drop (HT.cZ c.length 0 lo)).take (HT.cZ c.length c.length hi-HT.cZ c.length 0 lo)).toArray:=by
 obtain⟨f,e,d⟩:=sy lo hi c.toArray.size
 unfold slicePick
 rw[f,e,d]
 simp only[sliceRange_one,pick_run,Qjq] <;>rfl
def Ja(K:PySem.W.Frag):V->Option Int->Option Int->Hp->VK->Prop:=λx d e H Q=>∃a c,x=.ref a/\gJ K H a c/\∀p,H p=none->Q (.ref p) (upd H p (.lst (tj c d e)))
def CK:Iq X (Ja X.K):=by
 intro g s y H x v w t e f z Q I m j l n h
 obtain⟨a,c,rfl,hx,q⟩:=h
 cases m
 obtain⟨k,r,i,p⟩:=I.list hx
 have d:=r.length
 refine⟨"list",_,slot_list_getitem.lookup,i.isList.typeIs,?_⟩
 refine wpAny_getItem_list_slice i.isList j l n .none (by simp) ?_ (by rw[Qjq] <;>omega)
 rw[qP,←d]
 refine⟨.ref s.heap.objs.size,_,I.laid (t':=s.toks) (o:=.lst (tj c e f)) (λb u q=>Qcq _ q) (Qmq _) ?_,rfl,q _ (I.hok.fresh (Qmq _))⟩
 exact⟨QAq (nI c e f) p,_,0,(r.drop (HT.cZ c.length 0 e)).take (HT.cZ c.length c.length f-HT.cZ c.length 0 e),Qrq _ rfl⟩
def fo:V->Bool
 |.non=>true
 |.bl _=>true
 |.int _=>true
 |.str _=>true
 |_=>false
def lX:V->V->Bool
 |.non,.non=>true
 |.bl a,.bl b=>a==b
 |.bl a,.int b=>(if a then 1 else 0)==b
 |.int a,.bl b=>a==(if b then 1 else 0)
 |.int a,.int b=>a==b
 |.str a,.str b=>a==b
 |_,_=>false
def BJ{A:Around}{s:Shared}{y x:V}{u v:Value}(f:RelV y u)(c:RelV x v)(g:fo y=true)(e:fo x=true):SeqAt.EqAt A s u v (lX y x):=by
 cases y with
 | non=>
   cases f
   cases x with
   |non=>cases c;exact SeqAt.EqAt.same _
   |bl b=>cases c;exact SeqAt.EqAt.none_bool b
   |int b=>obtain⟨t,rfl⟩:=c;exact SeqAt.EqAt.none_int b t
   |str b=>obtain⟨t,rfl⟩:=c;exact SeqAt.EqAt.none_str b t
   |_=>exact absurd (show false=true from e) Qtq
 | bl a=>
   cases f
   cases x with
   |non=>cases c;exact SeqAt.EqAt.bool_none a
   |bl b=>cases c;exact SeqAt.EqAt.bool_bool a b
   |int b=>obtain⟨t,rfl⟩:=c;exact SeqAt.EqAt.bool_int a b t
   |str b=>obtain⟨t,rfl⟩:=c;exact SeqAt.EqAt.bool_str a b t
   |_=>exact absurd (show false=true from e) Qtq
 | int a=>
   obtain⟨d,rfl⟩:=f
   cases x with
   |non=>cases c;exact SeqAt.EqAt.int_none a d
   |bl b=>cases c;exact SeqAt.EqAt.int_bool a d b
   |int b=>obtain⟨t,rfl⟩:=c;exact SeqAt.EqAt.int_int a d b t
   |str b=>obtain⟨t,rfl⟩:=c;exact SeqAt.EqAt.int_str a d b t
   |_=>exact absurd (show false=true from e) Qtq
 | str a=>
   obtain⟨d,rfl⟩:=f
   cases x with
   |non=>cases c;exact SeqAt.EqAt.str_none a d
   |bl b=>cases c;exact SeqAt.EqAt.str_bool a d b
   |int b=>obtain⟨t,rfl⟩:=c;exact SeqAt.EqAt.str_int a d b t
   |str b=>obtain⟨t,rfl⟩:=c;exact SeqAt.EqAt.str_str a d b t
   |_=>exact absurd (show false=true from e) Qtq
 |_=>exact absurd (show false=true from g) Qtq
def v9(x:V)(u:Value):Bool:=match u with
 |.none=>lX .non x
 |.bool b=>lX (.bl b) x
 |.int i _=>lX (.int i) x
 |.str z _=>lX (.str z) x
 |_=>false
def sT{x y:V}{u:Value}(r:RelV y u)(f:fo y=true):v9 x u=lX y x:=by
 cases y with
 |non=>cases r;rfl
 |bl b=>cases r;rfl
 |int i=>obtain⟨t,rfl⟩:=r;rfl
 |str z=>obtain⟨t,rfl⟩:=r;rfl
 |_=>exact absurd (show false=true from f) Qtq
theorem lA{x:V}:∀{xs:List V} {c:List Value},a_ xs c->xs.all fo=true->c.any (v9 x)=xs.any λy=>lX y x
 |_,_,.nil,_=>rfl
 | y::xs,u::c,.cons r t,f=>by
   rw[List.all_cons,QCq] at f
   rw[List.any_cons,List.any_cons,sT r f.1,lA t f.2]
theorem gP{A:Around}{s:Shared}{x:V}{v:Value}(g:RelV x v)(e:fo x=true):∀{xs:List V} {d:List Value},a_ xs d->xs.all fo=true->∀u∈d,SeqAt.EqAt A s u v (v9 x u)
 |_,_,.nil,_=>λu c=>by cases c
 | y::xs,u::d,.cons r t,f=>λh c=>by
   rw[List.all_cons,QCq] at f
   rcases Qsq.mp c with rfl|c
   · rw[sT r f.1];exact BJ r g f.1 e
   · exact gP g e t f.2 h c
def BO(x:V)(xs:List V):Bool:=xs.any λy=>lX y x
def JT(K:PySem.W.Frag)(d:Bool):R2:=λx y H Q=>∃p c,y=.ref p/\(gJ K H p c\/fK K H p c)/\fo x=true/\c.all fo=true/\Q (.bl (if d then !BO x c else BO x c)) H
def zz:iH X (compareOp .In) (JT X.K false):=by
 intro g s m H x y v u Q I i k h
 obtain⟨p,l,rfl,d,fx,fs,q⟩:=h
 cases k
 rcases d with d|d
 ·obtain⟨c,r,f,j⟩:=I.list d
  refine SeqAt.in_listAt (v9 x) f.isList (λw e=>gP i fx r fs w (by simpa using e)) ⟨.bl _,H,I,rfl,?_⟩
  rw[show c.toArray.any (v9 x)=c.any (v9 x) by simp,lA r fs]
  exact q
 ·obtain⟨c,r,f,j⟩:=I.tuple d
  refine SeqAt.in_tupleAt (v9 x) f (λw e=>gP i fx r fs w (by simpa using e)) ⟨.bl _,H,I,rfl,?_⟩
  rw[show c.toArray.any (v9 x)=c.any (v9 x) by simp,lA r fs]
  exact q
def tX:iH X (compareOp .NotIn) (JT X.K true):=by
 intro g s m H x y v u Q I i k h
 obtain⟨p,l,rfl,d,fx,fs,q⟩:=h
 cases k
 rcases d with d|d
 ·obtain⟨c,r,f,j⟩:=I.list d
  refine SeqAt.notIn_listAt (v9 x) f.isList (λw e=>gP i fx r fs w (by simpa using e)) ⟨.bl _,H,I,rfl,?_⟩
  rw[show c.toArray.any (v9 x)=c.any (v9 x) by simp,lA r fs]
  exact q
 ·obtain⟨c,r,f,j⟩:=I.tuple d
  refine SeqAt.notIn_tupleAt (v9 x) f (λw e=>gP i fx r fs w (by simpa using e)) ⟨.bl _,H,I,rfl,?_⟩
  rw[show c.toArray.any (v9 x)=c.any (v9 x) by simp,lA r fs]
  exact q
def sX:iQ X (.builtin "len") (λxs H Q=>∃p ys,xs= [.ref p]/\(gJ X.K H p ys\/fK X.K H p ys)/\Q (.int ys.length) H):=by
 intro i s m H xs k Q I r h
 obtain⟨p,ys,rfl,d,q⟩:=h
 obtain⟨u,rfl,rx⟩:=vals1 r
 cases rx
 have l:=ja
 rcases d with d|d
 ·obtain⟨f,e,g,j⟩:=I.list d
  have c:=e.length
  exact Calls.call_len_list g.isList (by simp only[Qjq] <;>omega) ⟨.int ys.length,H,I.tok _,⟨s.toks+1,by rw[Qjq,c]⟩,q⟩
 ·obtain⟨f,e,g,j⟩:=I.tuple d
  have c:=e.length
  exact len_tuple g (by simp only[Qjq] <;>omega) ⟨.int ys.length,H,I.tok _,⟨s.toks+1,by rw[Qjq,c]⟩,q⟩
def qH:iQ X (.type "tuple") (λxs H Q=>∃p ys,xs= [.ref p]/\((gJ X.K H p ys/\∀l,H l=none->Q (.ref l) (upd H l (.tup ys)))\/(fK X.K H p ys/\Q (.ref p) H))):=by
 intro c s n H xs y Q I r h
 obtain⟨p,ys,rfl,h⟩:=h
 obtain⟨u,rfl,rx⟩:=vals1 r
 cases rx
 rcases h with⟨j,q⟩|⟨j,q⟩
 ·obtain⟨d,g,i,t⟩:=I.list j
  have m:=g.length
  refine call_tuple_list i.isList (λf x=> ?_) (by simp only[Qjq] <;>omega)
  have k:Inv X c n H {s with heap:=f}:=I.kept (t':=s.toks) x
  have v:Inv X c n (upd H f.objs.size (.tup ys)) {s with heap:=f.push {cls:=.type "tuple",data:=.seq d.toArray}}:=
   k.laid (t':=s.toks) (λb o e=>Qcq _ e) (Qmq _) (show bL X.prog X.w _ _ _ (.tup ys) from⟨t,d,g,qM.new _ _⟩)
  exact⟨.ref f.objs.size,_,v,rfl,q _ (k.hok.fresh (Qmq _))⟩
 ·obtain⟨d,g,i,t⟩:=I.tuple j
  exact call_tuple_same i ⟨.ref p,H,I,rfl,q⟩
def Kw(K:PySem.W.Frag)(T:String)(x:V)(H:Hp):Prop:=match x with
 |.str _=>T="str"
 |.int _=>T="int"
 |.ref p=>(T="list" /\∃d,gJ K H p d)\/(T="tuple" /\∃o,K.lookup p=some o/\o.cls=.type "tuple" /\o.dict=none)∨
   (T="dict" /\((∃c,H p=some (.dK c))\/∃c,H p=some (.dT c)))\/(T="set" /\∃S n,H p=some (.set S n))
 |_=>False
def EJ{g:List (Addr×Obj)}{u:St}{H:Hp}{s:Shared}{T:String}{x:V}{v:Value}(I:Inv X g u H s)(r:RelV x v)(h:Kw X.K T x H):
  s.TypeIs v T/\∀a,v=.ref a->∃ob,s.heap.get? a=some ob/\ob.dict=none:=by
 cases x with
 | str z=>
   obtain⟨t,rfl⟩:=r
   cases (show T="str" from h)
   exact⟨typeIs_str s z t,λ_ e=>nomatch e⟩
 | int i=>
   obtain⟨t,rfl⟩:=r
   cases (show T="int" from h)
   exact⟨typeIs_int s i t,λ_ e=>nomatch e⟩
 | ref p=>
   cases r
   rcases h with⟨rfl,xs,hq⟩|⟨rfl,o,d,hc,k⟩|⟨rfl,d⟩|⟨rfl,S,n,d⟩
   · obtain⟨q,_,m,_⟩:=I.list hq
     refine⟨m.isList.typeIs,λa e=> ?_⟩
     cases e
     obtain⟨o,n,e,c,k,_⟩:=m
     exact⟨o,e,k⟩
   · refine⟨⟨o,I.kIn p o d,hc⟩,λa e=> ?_⟩
     cases e
     exact⟨o,I.kIn _ o d,k⟩
   · have z:∃o,s.heap.get? p=some o/\o.ExactDict:=by
       rcases d with⟨l,d⟩|⟨l,d⟩
       · obtain⟨_,_,_,_,o,_,_,e,f,_⟩:=I.hok p _ d
         exact⟨o,e,f⟩
       · obtain⟨_,_,_,_,o,_,_,e,f,_⟩:=I.hok p _ d
         exact⟨o,e,f⟩
     obtain⟨o,e,f⟩:=z
     refine⟨⟨o,e,f.1⟩,λa j=> ?_⟩
     cases j
     exact⟨o,e,f.2.1⟩
   · obtain⟨o,_,_,_,e,f,_⟩:=I.hok p _ d
     refine⟨⟨o,e,f.1⟩,λa j=> ?_⟩
     cases j
     exact⟨o,e,f.2.1⟩
 |_=>exact False.elim h
def Iz(K:PySem.W.Frag)(T:String)(r:V->List V->Hp->VK->Prop)(e:TE)(t:TA):TE:=λc H Q=>e c H λx H1=>Kw K T x H1/\t c H1 λd H2=>r x d H2 Q
variable{o e:Expr}{es:List Expr}{to:TE}{t:TA}{name:Str}{apos cpos:Pos}{T id:String}{r:V->List V->Hp->VK->Prop}
def q_(L:PlainAttrs T)(slot:Slot T name id)(j:typeOf (.builtin id)=pure (.type "method_descriptor"))(N:Jt X id r)(G:PE X o to)(p:PA X (e::es) t)
  (f:attributeBase o name X.env (eval o X.env)=eval o X.env:=by rfl)
  (i:((backTo cpos (starEach (e::es) X.env)).all (λx=> !x.1)&&(backToKw cpos (keywordEach [] X.env)).all (λx=>x.1.isSome)
   &&decide ((e::es).length+([]:List Keyword).length+(if ([]:List Keyword).isEmpty then 0 else 1)<30))=true:=by rfl)
  (g:(apos.endLine==cpos.line)=true:=by rfl) (w:starEach (e::es) X.env=(false,eval e X.env)::starEach es X.env:=by rfl) (d:(backTo cpos (starEach es X.env)).any (·.1)=false:=by rfl):
  PE X (.Call (.Attribute o name apos) (e::es) [] cpos) (Iz X.K T r to t):=by
 intro c s k H Q I h
 refine wpAny_Call_method_late f i g rfl (cg (G c s k H _ I h) λv P A=> ?_)
 obtain⟨x,H1,n,m,y,F⟩:=A
 obtain⟨B,R⟩:=EJ n m y
 refine⟨T,id,L,slot,j,B,R,?_⟩
 have l:=p cpos c P k H1 _ n F
 rw[w] at l⊢
 refine Calls.callWith_builtin (by show(false||(backTo cpos (starEach es X.env)).any (·.1))=false;rw[d] <;>rfl) (Calls.evalArgs_plain ?_)
 exact cg l λu z ⟨J,H2,C,M,q⟩=>N c z k H2 x J v u Q C m M q
end
def Ic(X:Cx)(id:String)(r:V->List V->Hp->VK->Prop):Prop:=
 ∀ (a:List (Addr×Obj)) (s:Shared) (c:St) (H:Hp) (x:V) (d:List V) (v:Value) (b:List Value) (Q:VK),Inv X a c H s->RelV x v->a_ d b->r x d H Q→
   wpAny (model X.prog X.w) X.A (call (.builtin id) (v::b)) (EP X a c Q) X.xe s
def a_.one:∀{x:V} {a:List Value},a_ [x] a->∃u,a= [u]/\RelV x u
 |_,_,.cons r .nil=>⟨_,rfl,r⟩
theorem a_.eraseIdx:∀{xs:List V} {a:List Value} (i:Nat),a_ xs a->a_ (xs.eraseIdx i) (a.eraseIdx i)
 |_,_,_,.nil=>.nil
 |_,_,0,.cons _ t=>t
 |_,_,i+1,.cons r t=>.cons r (a_.eraseIdx i t)
theorem a_.rep{xs:List V}{a:List Value}(h:a_ xs a):∀k:Nat,a_ (List.replicate k xs).flatten (List.replicate k a).flatten
 |0=>.nil
 | k+1=>by
   rw[QNq,QNq,List.flatten_cons,List.flatten_cons]
   exact a_.append h (a_.rep h k)
theorem r8{α:Type}:∀(l:List α) (i:Nat),(l.eraseIdx i).length<=l.length
 | [],_=>Qmq _
 |_::_,0=>Nat.le_succ _
 |_::r,i+1=>Nat.succ_le_succ (r8 r i)
theorem foldl_rep(a:List Value):∀(k:Nat) (b:List Value),
  List.foldl (λc d=>c++d) b.toArray (List.replicate k a.toArray)=(b++(List.replicate k a).flatten).toArray
 |0,b=>by simp
 | k+1,b=>by
   have e:b.toArray++a.toArray=(b++a).toArray:=by simp
   have f:(b++a)++(List.replicate k a).flatten=b++(List.replicate (k+1) a).flatten:=by
     rw[QNq,List.flatten_cons,Qvq]
   rw[←f,←foldl_rep a k (b++a),←e,QNq,List.foldl_cons]
section
variable{X:Cx}{pins:List (Addr×Obj)}{σ:St}{H:Hp}{s:Shared}{l b:Addr}{xs ys zs:List V}
def Inv.lset{a its':List Value}{n:Nat}{f:Array Value->Array Value}{t':Nat}(I:Inv X pins σ H s)(h:H l=some (.lst xs))
  (e:s.heap.get? l=some {cls:=.type "list",data:=.seq a.toArray n}) (c:f a.toArray=its'.toArray) (g:a_ ys its') (hz:ys.length<=sizeLine):
  Inv X pins σ (upd H l (.lst ys)) {s with heap:=s.heap.update l (Obj.mapSeq f),toks:=t'}:=by
 have q:=PySem.IsL.update e f
 rw[c] at q
 refine I.write (x:=l) (e:=l) (by rw[h];exact trivial) (.inl rfl) (λj u i d=>(Heap.get?_update_other s.heap (Obj.mapSeq f) (Ne.symm i)).trans d) ⟨_,q⟩ ?_
 exact⟨hz,its',_,g,q⟩
def Inv.lnew{a:List Value}{t':Nat}(I:Inv X pins σ H s)(c:a_ ys a)(hz:ys.length<=sizeLine):
  Inv X pins σ (upd H s.heap.objs.size (.lst ys)) {s with heap:=s.heap.push {cls:=.type "list",data:=.seq a.toArray},toks:=t'}:=
 I.laid (λ_ _ q=>Qcq _ q) (Qmq _) ⟨hz,a,0,c,Qrq _ rfl⟩
def Inv.fresh(I:Inv X pins σ H s):H s.heap.objs.size=none:=I.hok.fresh (Qmq _)
def Inv.lstM(I:Inv X pins σ H s)(c:H l=some (.lst xs)):xs.length<=sizeLine/\∃(a:List Value) (n:Nat),a_ xs a/\xs.length=a.length/\s.heap.get? l=some {cls:=.type "list",data:=.seq a.toArray n}:=by
 obtain⟨z,a,n,r,e⟩:=I.hok l _ c
 exact⟨z,a,n,r,r.length,e⟩
def vJ{n:Nat}(h:n<=sizeLine):Builtin.List.listTooLong n=false:=by
 unfold Builtin.List.listTooLong
 exact Qdq (by omega)
end
section
variable{X:Cx}
def yD:V->List V->Hp->VK->Prop:=λx b H Q=>∃l a y,x=.ref l/\b= [y]/\H l=some (.lst a)/\a.length<sizeLine/\Q .non (upd H l (.lst (a++ [y])))
def rp:Ic X "list.append" yD:=by
 intro b s k H x i v f Q I d c h
 obtain⟨l,j,y,rfl,rfl,hH,hz,q⟩:=h
 cases d
 obtain⟨u,rfl,ru⟩:=c.one
 obtain⟨z,a,n,r,g,e⟩:=I.lstM hH
 refine call_meets F.slot_list_append ⟨_,e,rfl⟩ F.entry_list_append (F.args_list_append_2 _ _) (PySem.list_append l a.toArray n u (by rw[Qjq];omega)) ⟨e,?_⟩
 refine⟨.non,_,I.lset (its':=a++ [u]) hH e (by simp) (r.append (.cons ru .nil)) ?_,rfl,q⟩
 rw[lQa,List.length_singleton]
 omega
def yS:V->List V->Hp->VK->Prop:=λx d H Q=>∃l b c a,x=.ref l/\d= [.ref b]/\H l=some (.lst c)/\H b=some (.lst a)/\c.length+a.length<=sizeLine/\Q .non (upd H l (.lst (c++a)))
def zw:Ic X "list.extend" yS:=by
 intro g s G H x A v t Q I m k h
 obtain⟨l,b,B,y,rfl,rfl,hH,hB,hz,q⟩:=h
 cases m
 obtain⟨u,rfl,ru⟩:=k.one
 cases ru
 obtain⟨z,c,n,r,w,e⟩:=I.lstM hH
 obtain⟨C,a,i,o,p,j⟩:=I.lstM hB
 have f:c.toArray.size+a.toArray.size<=sizeLine:=by rw[Qjq,Qjq];omega
 have d:¬(!c.toArray.isEmpty&&Builtin.List.listTooLong (c.toArray.size+a.toArray.size))=true:=by
  rw[vJ f,Bool.and_false]
  exact Qtq
 refine call_meets F.slot_list_extend ⟨_,e,rfl⟩ F.entry_list_extend (F.args_list_extend_2 _ _)
  (AutoSeq1.list_extend_list_list_0 l c.toArray n b a.toArray i d (by rw[Qjq];omega) (by omega)) ⟨e,j,?_⟩
 refine⟨.non,_,I.lset (its':=c++a) hH e (by simp) (r.append o) ?_,rfl,q⟩
 rw[lQa]
 omega
def AZ:V->List V->Hp->VK->Prop:=λx b H Q=>∃l a i k y,x=.ref l/\b= [.int i]/\H l=some (.lst a)/\ -(2^63)<=i/\i<2^63/\seqIndex? i a.length=some k/\a[k]?=some y/\Q y (upd H l (.lst (a.eraseIdx k)))
def Ax:Ic X "list.pop" AZ:=by
 intro c s A H x p v o Q I m j h
 obtain⟨l,g,i,k,y,rfl,rfl,hH,h1,h2,hk,hy,q⟩:=h
 cases m
 obtain⟨u,rfl,ru⟩:=j.one
 obtain⟨t,rfl⟩:=ru
 obtain⟨z,a,n,r,d,e⟩:=I.lstM hH
 obtain⟨w,f,b⟩:=r.get hy
 refine call_meets F.slot_list_pop ⟨_,e,rfl⟩ F.entry_list_pop (F.args_list_pop_2 _ _)
  (MeetsSeq.list_pop_at l a.toArray n i t k w (fitsIndex_both h1 h2) (by rw[Qjq,←d];exact hk) (by rw[←Array.getElem?_toList];exact f) (by rw[Qjq];omega)) ⟨e,?_⟩
 refine⟨y,_,I.lset (its':=a.eraseIdx k) hH e ?_ (r.eraseIdx k) ?_,b,q⟩
 ·show a.toArray.eraseIdxIfInBounds k=(a.eraseIdx k).toArray
  rw[List.eraseIdxIfInBounds_toArray]
 ·have:=r8 g k
  omega
def IL:R2:=λx y H Q=>∃l b c a,x=.ref l/\y=.ref b/\H l=some (.lst c)/\H b=some (.lst a)/\c.length+a.length<=sizeLine/\∀p,H p=none->Q (.ref p) (upd H p (.lst (c++a)))
def FM:iH X (binaryOp .Add) IL:=by
 intro d s B H x y v u Q I g m h
 obtain⟨l,b,w,t,rfl,rfl,hH,hB,hz,q⟩:=h
 cases g
 cases m
 obtain⟨z,c,n,r,o,e⟩:=I.lstM hH
 obtain⟨A,a,p,i,j,f⟩:=I.lstM hB
 refine PySem.P.add_list e f ?_ (by rw[Qjq,Qjq];omega)
 have k:c.toArray++a.toArray=(c++a).toArray:=by simp
 rw[k]
 exact⟨.ref _,_,I.lnew (t':=s.toks) (r.append i) (by rw[lQa];omega),rfl,q _ I.fresh⟩
def len_rep{α:Type}(xs:List α)(k:Nat):(List.replicate k xs).flatten.length=k*xs.length:=by
 induction k with
 |zero=>simp
 |succ k a=>rw[QNq,List.flatten_cons,lQa,a,Nat.succ_mul,Nat.add_comm]
end
end L2
namespace Att
open PySem PySem.W PySem.Calls PyProof.Rows
def oo{P:Params}{h:Heap}:∀(ns:List Int) (vs:List Value),WellAll P h vs (ns.map WData.int)->IntsAre vs ns:=by
 intro ns
 induction ns with
 | nil=>
   intro vs w
   rw[List.map_nil] at w
   cases w
   exact .nil
 | cons n ns c=>
   intro vs w
   rw[QDq] at w
   cases w with
   | cons a b=>
     cases a
     exact .cons _ _ (c _ b)
def zM{l:OpenLaw}{n:Nat}(s:l.most=some n){P:Params}{h:Heap}{args:List WData}{vals:List Value}
  (b:l.row.toRowW.claim.pre args=true) (i:WellAll P h vals args):
  ∃a vs ns,vals= [Value.ref a]/\args= [WData.list (ns.map WData.int)]/\h.get? a=some {cls:=.type "list",data:=.seq vs.toArray}/\IntsAre vs ns/\ns.length<=n:=by
 have j:WShape.hasAll [] args [.list .int]=true:=(pre_splitW b).1
 have k:l.pre.holds [] {args:=args}=true:=(pre_splitW b).2
 obtain⟨d,r,rfl,h1,h2⟩:=hasAllW_cons j
 obtain rfl:=hasAllW_nil h2
 obtain⟨u,rfl,h3⟩:=hasW_list h1
 obtain⟨ns,rfl⟩:=items_int h3
 have c:ns.length<=n:=by
  unfold OpenLaw.pre at k
  have f:(WTm.not (.lt (.lit (.int (n:Int))) (.len (.arg 0)))).holds [] {args:= [.list (ns.map .int)]}=true:=by
   have f:=(holds_andW k).1
   rw[s] at f
   exact f
  have g:=condW_of f (w_not (w_lt w_lit (w_len_list (w_arg rfl))))
  rw[lQm] at g
  refine Nat.le_of_not_lt λq=> ?_
  have m:(n:Int)<((ns.length:Nat):Int):=by omega
  first
   |(rw[Qeq m] at g;exact absurd g (by decide))
   |(simp at g;omega)
 cases i with
 | cons o t=>
   cases t
   cases o with
   |list p e=>exact⟨_,_,ns,rfl,rfl,p,oo ns _ e,c⟩
def zC(l:OpenLaw)(args:List WData):l.row.toRowW.claim.post args (.bool true) args=true:=
 postW_of (r:=l.row.toRowW) (X:=(true==true))
  (show WShape.has [] (.bool true) .bool=true by first|rfl|decide|simp[WShape.has,WShape.arms,WShape.armsAll])
  (show(WTm.eq .res (.lit (.bool true))).value [] {args:=args,res:=some (.bool true),after:=args}=some (.bool (true==true)) from w_eq_bool (w_res rfl) w_lit) rfl
def vN{l:OpenLaw}{n:Nat}{q:Program}{c:List Str}{C:(Str->Option Value)->Heap->Prop}{A:World->Heap->Prop}{d:DefRec}
  (K:l.most=some n) (v:d.params.defaults= [])
  (g:∀(w:World) (s₀ b:Shared) (mg p:Str->Option Value) (h:Addr) (o:Obj) (s j e:Value) (a:Addr) (vs:List Value) (ns:List Int),
   Ground q c [] C w s₀ mg p b.heap->A w b.heap→
   b.heap.get? h=some o->o.data=.func (docDef d.name d.params d.body d.scope s j e)->b.heap.CodeRec j d.name->mg d.name=some (.ref h)→
   b.heap.get? a=some {cls:=.type "list",data:=.seq vs.toArray}->IntsAre vs ns->ns.length<=n->b.gens= #[]→
   codeAny (model l.prog w) callerA (.call (.ref h) ⟨[.ref a],[]⟩) (λr k=>r=.ok (.ret (.bool true))/\OldK b.heap k.heap/\k.os=b.os/\AllBare k.gens) b):
  WalkO q c C A l.row.toRowW d [] (λf vs=>PySem.call f vs):=by
 intro w s₀ b mg p G Y h o s j e J kV I M t y u F B x Q i z P m H
 obtain rfl:J=.none:=Dflts.none y v
 obtain rfl:kV=.none:=Dflts.noKw y
 obtain⟨a,vs,ns,rfl,rfl,hobj,hints,hlen⟩:=zM K i m
 refine enter_call (codeAny_mono (g w s₀ b mg p h o s j e a vs ns G Y I (fd_plain M) t u hobj hints hlen F) λr k L=> ?_)
 obtain⟨rfl,h2,h3,h4⟩:=L
 exact⟨.inl ⟨.bool true,.bool true,[],rfl,λ_=>rfl,.bool true,zC l _,λ_=>⟨List.Pairwise.nil,λ_ N=>(nomatch N)⟩⟩,h2,h3,h4⟩
end Att
namespace L2
open PySem PySem.Spec PyProof.Rows
theorem rK:∀{vs:List Value} {ns:List Int},IntsAre vs ns->a_ (ns.map V.int) vs
 |_,_,.nil=>.nil
 |_,_,.cons n t h=>.cons ⟨t,rfl⟩ (rK h)
def DK(H:Hp):Prop:=∀b,H b=none\/∃o a,H b=some (.frz o (.lst a))
def Ba{P:Program}{w:World}{K:PySem.W.Frag}{mg R:Str->Option Value}{CX:Ac}{k:Nat}{Z a:Addr}{fd:FuncData}{x:Str}{sp:Sp}{c:Shared}{vs:List Value}{ns:List Int}
  (KX:K.In c.heap) (L:c.heap.Ns mainGlobals mg) (g:c.heap.Ns builtinsNs R) (S:∀x:Str,x≠"__name__" ->R x=bootBuiltins x) (B:c.heap.NoLimit) (hg:c.gens= #[])
  (N:c.heap.get? a=some {cls:=.type "list",data:=.seq vs.toArray}) (hi:IntsAre vs ns) (hl:ns.length<=sizeLine) (hr:dZ k callerA)
  (F:∀base:Heap,K.In base->base.Ns mainGlobals mg->bc P w K mg base CX k Z fd [x] sp) (p:∀(s:Shared) (u:Value),BindsTo s fd ⟨[u],[]⟩ [(x,u)])
  (U:∀H:Hp,DK H->gJ K H a (ns.map V.int)->sp [.ref a] H (λv _=>v=.bl true) λ_ _ _=>False)
  (Y:∀H e i,CX [] H c (λ_ _ _=>False) e i->False):
  codeAny (model P w) callerA (.call (.ref Z) ⟨[.ref a],[]⟩) (λr i=>r=.ok (.ret (.bool true))/\OldK c.heap i.heap/\i.os=c.os/\AllBare i.gens) c:=by
 have rv:=rK hi
 have M:=hi.length
 have l:∀H:Hp,DK H->gJ K H a (ns.map V.int)->kO P w H c.heap->(∀b,H b≠none->b=a)->(H a≠none->K.lookup a=none)→
   codeAny (model P w) callerA (.call (.ref Z) ⟨[.ref a],[]⟩) (λr i=>r=.ok (.ret (.bool true))/\OldK c.heap i.heap/\i.os=c.os/\AllBare i.gens) c:=by
  intro H hO hS G hA hK
  have f:∀{b:Addr} {o:Obj},c.heap.get? b=some o->H b=none->(sJ c.heap H).get? b=some o:=λe n=>Ag e n
  have Q:∀{b:Addr} {o:Obj} {C:Array DictEntry} {A:Nat},c.heap.get? b=some o->o.data=.dict C A->H b=none:=λ{b o C A} e d=>by
   cases q:H b with
   |none=>rfl
   | some u=>
     have e':b=a:=hA b (by rw[q];simp)
     subst e'
     rw[N] at e;cases e
     have d':Data.seq vs.toArray _=Data.dict C A:=d
     cases d'
  have j:∀{b:Addr} {m:Str->Option Value},c.heap.Ns b m->(sJ c.heap H).Ns b m:=λ{b m} ⟨o,C,A,e,d,r⟩=>⟨o,C,A,f e (Q e d),d,r⟩
  have y:K.In (sJ c.heap H):=λb o e=>f (KX b o e) (by
   cases q:H b with
   |none=>rfl
   | some u=>
     have e':b=a:=hA b (by rw[q];simp)
     subst e'
     rw[hK (by rw[q];simp)] at e;cases e)
  have hM:Mod K mg (sJ c.heap H):=⟨y,j L,⟨R,j g,S⟩,let ⟨mc,h1,h2⟩:=B;⟨mc,j h1,h2⟩⟩
  have e0:Df P w K mg (sJ c.heap H) callerA [] c H:=⟨rfl,hM,λb o e=>C5 e,Nat.le_of_eq (yZ _ _),trivial,λb g=>absurd (show b∈([]:List Addr) from g) (by simp),G,.of_eq hg⟩
  refine codeAny_mono ((F _ y (j L)).run callerA [] c H ⟨[.ref a],[]⟩ [.ref a] [.ref a] _ _ hr e0 (p c (.ref a)) (.cons rfl .nil) (U H hO hS)) λr i h=> ?_
  cases r with
  |error e=>exact(Y H e i h).elim
  | ok fl=>
    cases fl with
    |next=>exact False.elim h
    |brk=>exact False.elim h
    |cont=>exact False.elim h
    | ret u=>
      obtain⟨v,H',os,I,un,t,r',q⟩:=h
      have q':v=.bl true:=q
      subst q'
      obtain rfl:u=Value.bool true:=r'
      refine⟨rfl,OldK.of_keep λb o e=> ?_,os,I⟩
      cases q:H b with
      |none=>exact un.keep b o e q (by intro z;exact absurd (show b∈([]:List Addr) from z) (by simp)) (by simp)
      | some u=>
        rcases hO b with z|⟨ob,xs,z⟩
        · rw[q] at z;cases z
        · have z2:=un.frzs b ob _ z
          obtain⟨e1,_⟩:=G b _ z
          obtain⟨e2,_⟩:=t b _ z2
          rw[e] at e1;cases e1
          exact e2
 cases X:K.lookup a with
 | some o=>
   have e:=KX a o X
   rw[N] at e
   cases e
   refine l (λ_=>none) (λ_=>.inl rfl) (.inr ⟨_,vs.toArray,_,X,rfl,rfl,rfl,by rw[Qjq,M];exact hl,by simpa using rv⟩) (λb u z=>by have J:(none:Option HO)=some u:=z;cases J) (λb z=>absurd rfl z) λz=>absurd rfl z
 | none=>
   refine l (λb=>if b=a then some (.frz {cls:=.type "list",data:=.seq vs.toArray} (.lst (ns.map V.int))) else none) (λb=> ?_) (.inl (.inr ⟨{cls:=.type "list",data:=.seq vs.toArray},Qhq rfl⟩)) (λb u z=> ?_) (λb z=> ?_) λ_=>X
   · by_cases g:b=a
     · exact .inr ⟨_,_,Qhq g⟩
     · exact .inl (Quq g)
   · by_cases g:b=a
     · have J:=(Qhq g).symm.trans z
       cases J
       subst g
       exact⟨N,by rw[lQm];exact hl,vs,_,rv,N⟩
     · have J:=(Quq g).symm.trans z
       cases J
   · by_cases g:b=a
     · exact g
     · exact absurd (Quq g) z
def Ds{l:PySem.W.OpenLaw}{n k:Nat}{q:Program}{i:List Str}{XP:(Str->Option Value)->Heap->Prop}{L:World->Heap->Prop}{d:DefRec}{K:Params->PySem.W.Frag}{CX:World->Ac}{sp:World->Sp}{x:Str}
  (R:l.most=some n) (A:n<=sizeLine) (C:d.params.defaults= []) (Z:dZ k callerA)
  (hY:∀(w:World) (h:Heap),L w h->(K w.params).In h)
  (F:∀(w:World) (mg:Str->Option Value) (r:Addr) (h:Heap),(K w.params).In h->h.Ns mainGlobals mg->mg d.name=some (.ref r)→
   ∃ t:FuncData,(∀(s:Shared) (u:Value),BindsTo s t ⟨[u],[]⟩ [(x,u)])∧
     ∀base:Heap,(K w.params).In base->base.Ns mainGlobals mg->bc l.prog w (K w.params) mg base (CX w) k r t [x] (sp w))
  (z:∀(w:World) (H:Hp) (a:Addr) (ns:List Int),ns.length<=n->DK H->gJ (K w.params) H a (ns.map V.int)->sp w [.ref a] H (λv _=>v=.bl true) λ_ _ _=>False)
  (B:∀(w:World) (H:Hp) (s:Shared) (e:Value) (I:Shared),CX w [] H s (λ_ _ _=>False) e I->False):
  PySem.W.WalkO q i XP L l.row.toRowW d [] (λf vs=>PySem.call f vs):=by
 refine Att.vN R C λw M p mg mb r o pm cd X a vs ns G Y ho hd S y m j c P=> ?_
 have J:=hY w _ Y
 obtain⟨t,hb,N⟩:=F w mg r _ J G.T.g y
 exact Ba J G.T.g G.T.b G.T.builtins G.T.nolimit P m j (QAq c A) Z N hb (λH Q U=>z w H a ns c Q U) λH e I=>B w H p e I
def fu(s:Stmt):Arguments:=match s with
 |.FunctionDef _ a _ _ _ _ _ _ _ _=>a
 |_=>{posonlyargs:= [],args:= [],vararg:=none,kwonlyargs:= [],kw_defaults:= [],kwarg:=none,defaults:= []}
def eB(s:Stmt):List Stmt:=match s with
 |.FunctionDef _ _ b _ _ _ _ _ _ _=>b
 |_=> []
def ay(s:Stmt):Scope:=match s with
 |.FunctionDef _ _ _ _ _ _ a _ _ _=>a
 |_=>{kind:=.function,names:= [],isGenerator:=false,isCoroutine:=false}
abbrev dC:Ac:=λ_ _ _ _ _ _=>False
abbrev E0:XK:=λ_ _ _=>False
def Av{X:Cx}:wj dC X E0:=λ_ _ _ _ _ _ _ h=>h.elim
structure d_(K:PySem.W.Frag)(x qual:Str)(st:Stmt)(f:Addr)(fd:FuncData):Prop where
 ex:∃(oc:Value) (od:Option Addr) (kV doc pm:Value) (an:Option Addr) (cdv ct:Value) (osl:Array (Option Value)),
  fd=PySem.W.fnOf x qual (fu st) (eB st) (ay st) .none kV doc pm an cdv ct/\K.lookup f=some ⟨oc,od,.func fd,osl⟩/\PySem.W.codeIn K cdv qual=true
 kp:PySem.W.keepIn K (.ref f)=true
section
variable{P:Program}{w:World}{K:PySem.W.Frag}{mg:Str->Option Value}{base:Heap}
def d_.ok{x a:Str}{st:Stmt}{f:Addr}{e:FuncData}{N ps:List Str}{k:Nat}{sp:Sp}(F:d_ K x a st f e)(S:aC N ps (ay st))(len:∀vs H Q E,sp vs H Q E->vs.length=ps.length)
  (c:∀(b:Value) (A:Around) (outer:List Env) (s:Shared) (H:Hp) (vs:List V) (Q:VK) (E:XK),dZ k (A.deeper (envOfC a (ay st) s.heap.objs.size f b))->sp vs H Q E→
   ∃t,oF (wL dC P w K mg base N a (ay st) f b A outer s H E).nox (eB st) t/\t {nx:=λ_ g=>Q .non g,rt:=Q} (start N vs) H):bc P w K mg base dC (k+1) f e ps sp:=by
 obtain⟨r,m,kV,j,n,p,b,o,i,rfl,lk,hcd⟩:=F.ex
 refine HW lk hcd S len λA outer s H vs Q E l d=> ?_
 obtain⟨t,h,q⟩:=c b A outer s H vs Q E l d
 exact⟨t,h.nox,q⟩
def d_.binds{x a:Str}{st:Stmt}{f:Addr}{i:FuncData}{ps:List Str}(F:d_ K x a st f i)
  (h:∀(kV c d:Value) (g:Option Addr) (b ct:Value) (e:List Value),e.length=ps.length->bindArgs (PySem.W.fnOf x a (fu st) (eB st) (ay st) .none kV c d g b ct) ⟨e,[]⟩=pure (ps.zip e)):Binds K i ps []:=by
 obtain⟨k,l,kV,c,d,g,b,ct,j,rfl,lk,hcd⟩:=F.ex
 exact .all (h kV c d g b ct)
def wm{x a:Str}{st:Stmt}{f:Addr}{i:Value}{j h:Option Addr}{e:Array (Option Value)}{kV d g b ct:Value}(l:K.lookup f=some ⟨i,j,.func (PySem.W.fnOf x a (fu st) (eB st) (ay st) .none kV d g h b ct),e⟩)
  (c:PySem.W.codeIn K b a=true) (k:PySem.W.keepIn K (.ref f)=true):d_ K x a st f (PySem.W.fnOf x a (fu st) (eB st) (ay st) .none kV d g h b ct):=⟨⟨i,j,kV,d,g,h,b,ct,e,rfl,l,c⟩,k⟩
end
def BV{A:Around}{k:Nat}(a:dZ k A):A.units+1<cLine:=Nat.lt_of_le_of_lt (Nat.add_le_add_left (by decide:1<=64) _) a.units
def aH{n:Nat}(h:n<=1000):n<sizeLine:=Nat.lt_of_le_of_lt h (by decide)
section
variable{X:Cx}
def pv(i:Nat){x:Str}{pos:Pos}(b:X.N[i]?=some x:=by rfl)(c:FD X.env.scope x:=by first|exact Or.inl rfl|exact Or.inr (Or.inl rfl)|exact Or.inr (Or.inr rfl))(hd:(x==("__debug__":Str))=false:=by decide)
  (a:(x==("__classdict__":Str))=false:=by decide):PE X (.Name x pos) (EO i):=Ci b c hd a
end
section
variable{prog:Program}{w:World}{A:Around}{s:Shared}
def sP{t a k:Expr}{q:List Expr}{d:Scope}{pos:Pos}{it p:Value}{env:Env}{R:Result->Shared->Prop}(I:Nat->Shared->Prop)
  (y:∀n s,I n s->wpAny (model prog w) A (pyNext it) (λr b=>match r with
   |none=>R (.ok .next) b
   |some v=>wpAny (model prog w) A (letOwnedTupleGo a it v) (λ_ e=>wpAny (model prog w) A (assign a env v) (λ_ g=>
     wpAny (model prog w) A (forIn q true λc r=>if r=true then do let ok←isTrue c env (eval c env);pure (ForInStep.yield ok) else pure (ForInStep.yield r)) (λok s₃=>
      if ok=true then wpAny (model prog w) A (eval t env) (λx i=>
       wpAny (model prog w) A (call (.builtin "list.append") [p,x]) (λ_ j=>∃m,m<n/\I m j) (λ_ _=>False) i) (λ_ _=>False) s₃
      else∃m,m<n/\I m s₃) (λ_ _=>False) g) (λ_ _=>False) e) (λ_ _=>False) b) (λ_ _=>False) s)
  (n:Nat) (h:I n s):codeAny (model prog w) A (.compLoop (.ListComp t [⟨a,k,q,0⟩] d pos) 0 it p env) R s:=by
 refine codeAny_loop rfl I (λn s C=> ?_) n h
 show wpAny _ A ((compTurn (.ListComp t [⟨a,k,q,0⟩] d pos) 0 it p env).onRaise (λx=>do noteFrame x env;theTreesLotGoes x)) _ _ s
 refine wpAny_noted ?_
 rw[compTurn_list]
 refine Qaq (wpAny_standAt (Qaq (QRq (y n s C) (λr b l=> ?_) λ_ _ f=>f.elim)))
 cases r with
 |none=>exact Qgq l
 | some v=>
   refine Qaq (QRq l (λ_ e o=> ?_) λ_ _ f=>f.elim)
   refine Qaq (QRq o (λ_ g u=>Qaq (QRq u (λok s₃ h₃=> ?_) λ_ _ f=>f.elim)) λ_ _ f=>f.elim)
   cases ok with
   |false=>exact Qgq ⟨rfl,h₃⟩
   | true=>
     exact Qaq (Qaq (QRq h₃ (λx i B=>Qaq (QRq B (λ_ j z=>Qgq (Qgq ⟨rfl,z⟩)) λ_ _ f=>f.elim)) λ_ _ f=>f.elim))
end
def aJ(X:Cx)(N:List Str)(a:Scope)(b:List (Str×Addr))(C:Addr)(s:Shared)(H:Hp)(fp:List Addr):Cx where
 prog:=X.prog
 w:=X.w
 K:=X.K
 mg:=X.mg
 base:=X.base
 A:=X.A
 N:=N
 s₀:=s
 H₀:=H
 env:=compEnvC a b C X.env
 outer:=X.stack
 stack:=X.stack
 ex:=fp
 fn:=λ_=>false
 calm:=X.calm
 pn:= []
 xe:=λ_ _=>False
def j3(js:List (Option Nat))(a:St):St:=js.map λo=>o.bind λj=>a.getD j none
structure aX(X:Cx)(N:List Str)(js:List (Option Nat))(scope:Scope)(cl:List (Str×Addr)):Prop where
 kind:scope.kind=.function
 nocell:∀y∈scope.names,y.2≠.cell
 names:∀y∈scope.names,y.2=.local->scope.names.lookup y.1=some .local
 clos:closureFor scope X.env=pure cl
 sub:∀x c,cl.lookup x=some c->X.env.cells.lookup x=some c
 has:∀x,((relabel scope X.env).names.lookup x=some .cell\/(relabel scope X.env).names.lookup x=some .free)->∃c,cl.lookup x=some c
 cap:∀(k j:Nat) (x:Str),js[k]?=some (some j)->N[k]?=some x->X.N[j]?=some x/\(X.env.kindOf x=some .cell\/X.env.kindOf x=some .free)/\((relabel scope X.env).names.lookup x=some .cell\/(relabel scope X.env).names.lookup x=some .free)
 len:js.length=N.length
def nZ(X:Cx)(b:List Expr)(t:TT):Prop:=
 ∀ (a:List (Addr×Obj)) (s:Shared) (d:St) (H:Hp) (Q:Bool->Hp->Prop),Inv X a d H s->t d H Q→
   wpAny (model X.prog X.w) X.A (forIn b true λc r=>if r=true then do let ok←isTrue c X.env (eval c X.env);pure (ForInStep.yield ok) else pure (ForInStep.yield r)) (TP X a d Q) X.xe s
def EM{X:Cx}:nZ X [] (λ_ H Q=>Q true H):=λ_ _ _ H _ I h=>wpAny_tests_nil ⟨H,I,h⟩
def E8{X:Cx}{c:Expr}{t:TT}(b:PT X c t):nZ X [c] t:=λa s d H Q I h=>
 wpAny_tests_one (cg (b a s d H Q I h) λok s' h'=>h')
def GV(J:It)(g:TG)(l:TT)(k:TE)(Q:VK)(D:Addr)(n:St)(H:Hp):Prop:=
 ∃ W:Nat->Nat->St->Hp->Prop,(∃m,W 0 m n H)/\∀i m d e,W i m d e→
   (J.stop i e/\Q (.ref D) e)\/(J.go i e/\∃f:St->Hp->Prop,(∀b c,f b c->∃j,j<m/\W (i+1) j b c)∧
     ∀ x H2,J.yld i e x H2->g x d H2 λa H3=>l a H3 λok H4=>
       if ok=true then k a H4 λy H5=>∃h,H5 D=some (.lst h)/\h.length<sizeLine/\f a (upd H5 D (.lst (h++ [y]))) else f a H4)
def Eo(js:List (Option Nat))(d:TI)(g:TG)(b:TT)(c:TE):TE:=λa H Q=>d a H λJ H1=>∀D,H1 D=none->GV J g b c Q D (j3 js a) (upd H1 D (.lst []))
def C_{X:Cx}{N:List Str}{js:List (Option Nat)}{a:Scope}{P:List (Str×Addr)}{tg R b1:Expr}{a9:List Expr}{pos:Pos}{wi:TI}{g:TG}{tt:TT}{te:TE}
  (S:aX X N js a P) (hc:X.calm=true) (hi:PI X tg R wi)
  (hg:∀C s H fp,PG (aJ X N a P C s H fp) tg g) (ht:∀C s H fp,nZ (aJ X N a P C s H fp) a9 tt) (he:∀C s H fp,PE (aJ X N a P C s H fp) b1 te)
  (hs:∀x,foldedSetIterable R X.env x=pure x:=by intro _;rfl):PE X (.ListComp b1 [⟨tg,R,a9,0⟩] a pos) (Eo js wi g tt te):=by
 intro a8 s σ H Q I h
 rw[eval_ListComp]
 refine wpAny_comprehension_free (use:=none) rfl hs S.clos S.kind S.names (cg (hi a8 s σ H _ I h) λv s1 h1=>cg h1 λd5 f h2=> ?_)
 obtain⟨it,fp,tn,J,H2,e,B,T,b4,f2,hD⟩:=h2
 subst e
 refine QhQ (wpAny_newFunctionEnv S.nocell (by intro y hy;simp at hy) (λL G t=> ?_) S.kind)
 dsimp only at G t⊢
 generalize b2:f.heap.push {cls:=.type "list",dict:=none,data:=.seq ([]:List Value).toArray}=P2 at G t⊢
 have hC:P2.objs.size=f.heap.objs.size+1:=by rw[←b2,Heap.size_push]
 have c4:f.heap.objs.size≠P2.objs.size:=by rw[hC];exact Qwq (Nat.lt_succ_self _)
 have a7:f.heap.objs.size<=P2.objs.size:=by rw[hC];exact Nat.le_succ _
 have F:∀b,b<f.heap.objs.size->b≠P2.objs.size:=λb k=>by rw[hC];exact Qwq (Nat.lt_succ_of_lt k)
 have Z:∀b o,f.heap.get? b=some o->L.get? b=some o:=λb o e=>t.extBut b o (F b (Qiq e)) (Qcq _ (b2▸Qcq _ e))
 have b6:L.get? f.heap.objs.size=some {cls:=.type "list",dict:=none,data:=.seq ([]:List Value).toArray}:=t.extBut _ _ c4 (Qcq _ (b2▸Qrq _ rfl))
 have nD:H2 f.heap.objs.size=none:=B.fresh
 have nC:H2 P2.objs.size=none:=B.hok.fresh a7
 have b0:∀b∈fp,b<f.heap.objs.size:=λb k=>by
  obtain⟨o,e,_⟩:=T.obj _ _ b4 b k
  exact Qiq e
 obtain⟨W,⟨m0,w0⟩,d1⟩:=hD f.heap.objs.size nD
 have b5:(aJ X N a P P2.objs.size f H2 fp).Ok:=by
  refine⟨B.ok.mod,S.kind,B.ok.glob,B.ok.blt,a7,λx y c h1 h2=>B.ok.inj x y c (S.sub x c h1) (S.sub y c h2),S.has,(λx c h=>by cases h),B.ok.hd,B.ok.frames,.inl rfl,
   λb k=>⟨F b (b0 b k),λx c h=>(f2 b k).2.2.2.2.1 x c (S.sub x c h)⟩,B.bs,QAq B.ok.bsz B.sz,λb o e k=> ?_,λb k z=> ?_,B.stack,B.stkFree⟩
  ·rcases(f2 b k).2.2.2.1 with z|z
   ·exact B.ok.noex b o e z
   ·exact absurd (Qqq (Qqq (Qiq e) B.ok.bsz) z) (Nat.lt_irrefl _)
  ·rcases Qsq.mp (B.stkSub b z) with q|q
   ·exact(f2 b k).2.1 q
   ·exact(f2 b k).2.2.1 q
 have c6:bL X.prog X.w (upd H2 f.heap.objs.size (.lst [])) L f.heap.objs.size (.lst []):=⟨Nat.zero_le _,[],0,.nil,b6⟩
 have I4:Inv (aJ X N a P P2.objs.size f H2 fp) [] (j3 js σ) (upd H2 f.heap.objs.size (.lst [])) {f with heap:=L,toks:=f.toks+([]:List (Str×Value)).length}:=by
  refine⟨b5,rfl,B.bare,Un.laid Z (Qmq _) nD,⟨_,G,λi x v h1 h2 h3=> ?_⟩,λx c h=> ?_,by show upd H2 _ _ P2.objs.size=none;rw[aM c4.symm];exact nC,λx c h=> ?_,λp hp=>absurd (show p∈([]:List (Addr×Obj)) from hp) (by simp),B.hok.laid Z (Qmq _) c6,by show(j3 js σ).length=N.length;unfold j3;rw[lQm];exact S.len⟩
  ·unfold j3 at h2
   rw[gQm] at h2
   cases e:js[i]? with
   |none=>rw[e] at h2;cases h2
   | some o=>
     rw[e] at h2
     cases o with
     |none=>cases h2
     | some j=>
       have a3:σ.getD j none=some v:=QdQ h2
       have hj:σ[j]?=some (some v):=by
         rw[Qlq] at a3
         cases q:σ[j]? with
         |none=>rw[q] at a3;cases a3
         |some y=>rw[q] at a3;exact congrArg some a3
       obtain⟨c1,c2,c3⟩:=S.cap i j x e h1
       obtain⟨m,hn,hl⟩:=B.loc
       have d3:FD X.env.scope x:=by
         rcases c2 with z|z
         · exact .inr (.inl z)
         · exact .inr (.inr z)
       obtain⟨u,r,l⟩:=hl j x v c1 hj d3
       refine⟨u,r,.inr ⟨c3,?_⟩⟩
       obtain⟨c,c0⟩:=S.has x c3
       refine⟨c,c0,?_⟩
       rcases l with⟨z,_⟩|⟨_,c',e',z⟩
       · rcases c2 with y|y <;>rw[y] at z <;>cases z
       · rw[S.sub x c c0] at e'
         cases e'
         obtain⟨o,ho,hd⟩:=z
         exact⟨o,Z _ _ ho,hd⟩
  ·obtain⟨v,o,ho,hd⟩:=B.cell x c (S.sub x c h)
   exact⟨v,o,Z _ _ ho,hd⟩
  ·obtain⟨v,o,ho,hd⟩:=B.cell x c (S.sub x c h)
   rw[aM (Qwq (Qiq ho))]
   exact B.freeC x c (S.sub x c h)
 have a2:∀{M:List (Addr×Obj)} {U:Hp},M= []->(∀b∈fp,U b=none)->∀b∈fp,ph (aJ X N a P P2.objs.size f H2 fp) M U b:=λ{M U} ep hn b k=>by
  subst ep
  refine⟨hn b k,F b (b0 b k),λz=>b5.exfs b k z,.inl k,λx c h=>(f2 b k).2.2.2.2.1 x c (S.sub x c h),λp hp=>absurd (show p∈([]:List (Addr×Obj)) from hp) (by simp)⟩
 have a6:codeAny (model X.prog X.w) X.A (.compLoop (.ListComp b1 [⟨tg,R,a9,0⟩] a pos) 0 (.ref it) (.ref f.heap.objs.size) (compEnvC a P P2.objs.size X.env))
   (compPost (model X.prog X.w) X.A X.xe none (EP X a8 σ Q) (.ref f.heap.objs.size) P2.objs.size) {f with heap:=L,toks:=f.toks+([]:List (Str×Value)).length}:=by
  refine sP (λn s'=>∃i a1 U,Inv (aJ X N a P P2.objs.size f H2 fp) [] a1 U s'/\tn i s'.heap/\(∀b∈fp,U b=none)/\W i n a1 U) ?_ m0
   ⟨0,_,_,I4,T.keep _ _ _ b4 λb _ o e=>Z b o e,λb k=>by rw[aM (Qwq (b0 b k))];exact(f2 b k).1,w0⟩
  rintro n s3 ⟨i,a5,H3,I3,c5,b7,w3⟩
  rcases d1 i n a5 H3 w3 with⟨stop,q⟩|⟨go,Nx,hN,b8⟩
  ·refine cg (T.done (aJ X N a P P2.objs.size f H2 fp) rfl rfl rfl hc i [] s3 a5 H3 _ I3 (a2 rfl b7) c5 stop) λr s4 Y=> ?_
   obtain⟨hr,I5⟩:=Y
   subst hr
   obtain⟨m,hn,_⟩:=id I5.loc
   refine⟨m,hn,λh' a4=>⟨.ref f.heap.objs.size,H3,?_,rfl,q⟩⟩
   have u:=I5.base
   have ne:∀b o,f.heap.get? b=some o->b≠P2.objs.size:=λb o e=>F b (Qiq e)
   refine B.call' (ch:=fp) I5.os ⟨λb o e n k hx=>(a4.2 b (ne b o e)).trans (u.keep b o e n k hx),λb o e n k hx=> ?_,u.free,λb o e hx=> ?_,u.tups,u.frzs,u.tbls⟩ (λb ob e=> ?_) I5.bare λb k=>⟨(f2 b k).2.2.2.1,(f2 b k).2.1,(f2 b k).2.2.2.2.1,(f2 b k).2.2.2.2.2⟩
   ·obtain⟨sl,e1⟩:=u.slot b o e n k hx
    exact⟨sl,(a4.2 b (ne b o e)).trans e1⟩
   ·obtain⟨o',e1⟩:=u.there b o e hx
    exact⟨o',(a4.2 b (ne b o e)).trans e1⟩
   ·refine(I5.hok b ob e).stay (λc w' hc q=>(a4.2 c ?_).trans q) (λ_ q=>q) λ_ _ q=>q
    have fC:H3 P2.objs.size=none:=I5.free
    rintro rfl
    rcases hc with z|z
    ·rw[←z,fC] at e;cases e
    ·rw[fC] at z;cases z
  ·refine cg (T.item (aJ X N a P P2.objs.size f H2 fp) rfl rfl rfl hc i [] s3 a5 H3 _ I3 (a2 rfl b7) c5 go) λr s4 Y=> ?_
   obtain⟨u,hr,h4⟩:=Y
   subst hr
   refine cg h4 λ_ s5 Y=> ?_
   obtain⟨x,H5,I5,r5,y5,b3,d4⟩:=Y
   have d2:=I5.pinned (a2 rfl d4) (T.obj _ _ b3)
   refine cg (hg P2.objs.size f H2 fp _ s5 a5 H5 x u _ d2 r5 (b8 x H5 y5)) λ_ s6 Y=> ?_
   obtain⟨K,H6,I6,q6⟩:=Y
   refine cg (ht P2.objs.size f H2 fp _ s6 K H6 _ I6 q6) λok s7 Y=> ?_
   obtain⟨H7,I7,q7⟩:=Y
   have again:∀{s8:Shared} {H8:Hp},Inv (aJ X N a P P2.objs.size f H2 fp) ([]++mz fp s5.heap) K H8 s8->Nx K H8->∃m,m<n/\∃i a1 U,Inv (aJ X N a P P2.objs.size f H2 fp) [] a1 U s8/\tn i s8.heap/\(∀b∈fp,U b=none)/\W i m a1 U:=λ{s8 H8} I8 n8=>by
    obtain⟨m',hm,w8⟩:=hN K H8 n8
    refine⟨m',hm,i+1,K,H8,I8.unpinned,T.keep _ _ _ b3 λb k o e=>(I8.pin (b,o) (Qoq _ (Qoq _ (dJ k e)))).1,λb k=> ?_,w8⟩
    obtain⟨o,e,d⟩:=T.obj _ _ b3 b k
    exact(I8.pin (b,o) (Qoq _ (Qoq _ (dJ k e)))).2.1
   cases ok with
   |false=>exact again I7 q7
   | true=>
     refine cg (he P2.objs.size f H2 fp _ s7 K H7 _ I7 q7) λyv s8 Y=> ?_
     obtain⟨y,H8,I8,ry,xs,hx,hl,n8⟩:=Y
     refine cg (rp (X:=aJ X N a P P2.objs.size f H2 fp) _ s8 K H8 (.ref f.heap.objs.size) [y] (.ref f.heap.objs.size) [yv] (λ_ U=>Nx K U) I8 rfl (.cons ry .nil) ⟨_,xs,y,rfl,rfl,hx,hl,n8⟩) λ_ s9 Y=> ?_
     obtain⟨z,H9,I9,_,q9⟩:=Y
     exact again I9 q9
 exact codeAny_compStart_list a6 (T.self _ 0 _ _ _ (T.keep _ _ _ b4 λb _ o e=>Z b o e) a6)
section
variable{X:Cx}
def BZ:iQ X (.builtin "isinstance") (λxs H Q=>∃x T t b,xs= [x,.ty T]/\mw X.K H x t/\PySem.W.kitOne X.K t (.type T)=some b/\Q (.bl b) H):=by
 intro a s g H xs f Q I r h
 obtain⟨x,T,t,b,rfl,ty,e,q⟩:=h
 obtain⟨u,d,rfl,rx,rt⟩:=vals2 r
 cases (show d=Value.type T from rt)
 exact y1 I rx ty e λc=>⟨.bl b,H,I.tok c,rfl,q⟩
def Ef:List V->List V->Bool
 | [],[]=>true
 |x::xs,y::ys=>lX x y&&Ef xs ys
 |_,_=>false
theorem yi:∀{xs ys:List V},xs.length≠ys.length->Ef xs ys=false
 | [],[],h=>absurd rfl h
 | [],_::_,_=>rfl
 |_::_,[],_=>rfl
 | x::xs,y::ys,h=>by
   have:=yi (xs:=xs) (ys:=ys) λe=>h (by simp[e])
   show(lX x y&&Ef xs ys)=false
   rw[this,Bool.and_false]
theorem yu:∀{xs ys:List V},xs.length=ys.length->(List.range xs.length).all (λj=>lX (xs.getD j .non) (ys.getD j .non))=Ef xs ys
 | [],[],_=>rfl
 | [],_::_,h=>by cases h
 |_::_,[],h=>by cases h
 | x::xs,y::ys,h=>by
   have a:=yu (xs:=xs) (ys:=ys) (Nat.succ.inj h)
   rw[Qnq,List.range_succ_eq_map,List.all_cons,List.all_map]
   show(lX x y&&_)=(lX x y&&Ef xs ys)
   rw[←a]
   rfl
def FH{A:Around}{s:Shared}{xs ys:List V}{a vs:List Value}(r:a_ xs a)(d:a_ ys vs)(f:xs.all fo=true)(f':ys.all fo=true)(j:Nat)(g:j<a.toArray.size)(q:j<vs.toArray.size):
  SeqAt.EqAt A s a.toArray[j] vs.toArray[j] (lX (xs.getD j .non) (ys.getD j .non)):=by
 have o:=r.length
 have t:=d.length
 have c:j<xs.length:=by rw[o];simpa using g
 have b:j<ys.length:=by rw[t];simpa using q
 obtain⟨u,l,i⟩:=r.get (gQe c)
 obtain⟨v,h,e⟩:=d.get (gQe b)
 have m:xs.getD j .non=xs[j]:=by rw[Qlq,gQe c];rfl
 have n:ys.getD j .non=ys[j]:=by rw[Qlq,gQe b];rfl
 have k:a.toArray[j]=u:=by
  have:=(gQs.mp l).2
  simpa using this
 have p:vs.toArray[j]=v:=by
  have:=(gQs.mp h).2
  simpa using this
 rw[k,p,m,n]
 exact BJ i e (QUq.mp f _ (List.getElem_mem c)) (QUq.mp f' _ (List.getElem_mem b))
def IS(K:PySem.W.Frag)(e:Bool):R2:=λx y H Q=>∃a b d c,x=.ref a/\y=.ref b/\gJ K H a d/\gJ K H b c/\d.all fo=true/\c.all fo=true/\Q (.bl (if e then !Ef d c else Ef d c)) H
def Fs(p:X.A.units<cLine):iH X (compareOp .NotEq) (IS X.K true):=by
 intro n s G H x y v u Q I B F h
 obtain⟨a,b,g,i,rfl,rfl,ha,hb,fa,fb,q⟩:=h
 cases B
 cases F
 obtain⟨c,r,t,J⟩:=I.list ha
 obtain⟨k,l,d,z⟩:=I.list hb
 by_cases f:g.length=i.length
 ·have m:c.toArray.size=k.toArray.size:=by simp[←r.length,←l.length,f]
  refine SeqAt.RcNeAt.lists (e:=λj=>lX (g.getD j .non) (i.getD j .non)) t.isList d.isList m p (λj w C=>FH r l fa fb j w C) _ _ _ _ ⟨.bl _,H,I,rfl,?_⟩
  rw[show c.toArray.size=g.length by simp[r.length],yu f]
  exact q
 ·refine SeqAt.RcNeAt.lists_lengths t.isList d.isList (by simpa [←r.length,←l.length] using f) p _ _ _ _ ⟨.bl _,H,I,rfl,?_⟩
  have o:Q (.bl (!Ef g i)) H:=q
  rw[yi f] at o
  exact o
def B6:iQ X (.type "range") (λxs H Q=>∃j:Int,xs= [.int j]/\∀p,H p=none->Q (.ref p) (upd H p (.rng 0 j))):=by
 intro a s e H xs d Q I r h
 obtain⟨j,rfl,q⟩:=h
 obtain⟨u,rfl,t,rfl⟩:=vals1 r
 refine call_range_1 ⟨.ref _,_,I.laid (o:=.rng 0 j) (λb c q=>Qcq _ q) (Qmq _) ⟨_,_,_,Qrq _ rfl⟩,rfl,q _ I.fresh⟩
def upTo(lo:Int)(n:Nat):List V:=(List.range n).map λ(i:Nat)=>V.int (lo+(i:Int))
def y_{lo:Int}{n:Nat}{a:List Value}(h:a.length=n)(b:∀(j:Nat) (v:Value),a[j]?=some v->∃t,v=.int (lo+j) t):a_ (upTo lo n) a:=by
 have d:∀(a:List Value) (lo:Int) (n:Nat),a.length=n->(∀(j:Nat) (v:Value),a[j]?=some v->∃t,v=.int (lo+j) t)->a_ (upTo lo n) a:=by
  intro a
  induction a with
  |nil=>intro lo n h _;subst h;exact .nil
  | cons v r g=>
    intro lo n h b
    cases n with
    |zero=>cases h
    | succ n=>
      have e:upTo lo (n+1)=V.int lo::upTo (lo+1) n:=by
        unfold upTo
        rw[List.range_succ_eq_map,QDq,QPq]
        refine congr (congrArg List.cons (by simp)) (List.map_congr_left λi _=> ?_)
        simp only[Function.comp]
        exact congrArg V.int (by omega)
      rw[e]
      obtain⟨t,c⟩:=b 0 v rfl
      refine .cons ⟨t,by rw[c];simp⟩ (g (lo+1) n (Nat.succ.inj h) λj w f=> ?_)
      obtain⟨t,c⟩:=b (j+1) w (by simpa using f)
      exact⟨t,by rw[c];congr 1;omega⟩
 exact d a lo n h b
end
section
variable{X:Cx}
def AR{bs:List Bool}{a:List Value}(r:a_ (bs.map V.bl) a){i:Nat}{v:Value}(h:a.toArray[i]?=some v):v=.bool (bs.getD i false):=by
 have f:i<a.length:=by
  have:=(Array.getElem?_eq_some_iff.mp h).1
  simpa using this
 have l:=r.length
 rw[lQm] at l
 have b:i<bs.length:=by omega
 obtain⟨u,e,q⟩:=r.get (i:=i) (x:=V.bl bs[i]) (by rw[gQm,gQe b];rfl)
 have c:a[i]?=some v:=by simpa using h
 rw[e] at c
 cases c
 have d:bs.getD i false=bs[i]:=by rw[Qlq,gQe b];rfl
 rw[d]
 exact q
theorem uA:∀bs:List Bool,(List.range bs.length).all (λi=>bs.getD i false)=bs.all id
 | []=>rfl
 | b::bs=>by
   rw[Qnq,List.range_succ_eq_map,List.all_cons,List.all_map,List.all_cons,←uA bs]
   rfl
def GX(K:PySem.W.Frag)(f:List Bool->Bool):List V->Hp->VK->Prop:=λc H Q=>∃a b,c= [.ref a]/\gJ K H a (b.map V.bl)/\Q (.bl (f b)) H
def y6(k:X.calm=true):iQ X (.builtin "all") (GX X.K λbs=>bs.all id):=by
 intro g s y H x t Q I r h
 obtain⟨a,bs,rfl,ha,q⟩:=h
 obtain⟨u,rfl,rx⟩:=vals1 r
 cases (show u=Value.ref a from rx)
 obtain⟨c,j,d,C⟩:=I.list ha
 have l:c.toArray.size=bs.length:=by have:=j.length;simp at this;simp[this]
 have f:a<s.heap.objs.size:=by obtain⟨o,e,_⟩:=d.isList;exact Qiq e
 refine call_all_walk (wpAny_pyIter_list d.isList ⟨s.heap.objs.size,_,_,_,_,_,λi=>bs.getD i false,rfl,Walks.list (A:=X.A.in1) (show X.A.in1.handled=none from I.ok.hd k) s.heap.objs.size a (Qwq f) c.toArray,⟨⟨_,Qrq _ rfl,rfl,rfl⟩,d.isList.at λo e=>Qcq _ e⟩,?_,λh' B p=> ?_⟩)
 ·intro i v F z w n m
  rw[AR j n]
  exact wpAny_truthy_bool m
 ·rw[l,uA]
  refine⟨.bl _,H,I.kept (h':=h') λb o e=>p b o ?_ (Qcq _ e),rfl,q⟩
  have:=Qiq e
  simp
  exact Qwq this
end
end L2
namespace Dk
open PySem
def o8:mroOf (Value.type "dict")=pure [Value.type "dict",Value.type "object"]:=by
 rw[mroOf_type]
 rfl
def nO:typeLookup (Value.type "dict") (Str.ofString "__new__")=pure (some (Value.builtin "dict.__new__")):=by
 rw[typeLookup_type,builtinLookup_eq_fast]
 rfl
def vb:isSubtype (Value.type "dict") (Value.type "dict")=pure true:=by
 rw[isSubtype_type]
 rfl
def f_:plainId "dict.__new__"=true:=by decide +kernel
def cz:TypeCalled "dict" "dict.__new__" "dict.__init__" where
 notType:=by decide +kernel
 canCreate:=by decide +kernel
 mro:=⟨_,_,o8⟩
 made:=madeBy_type o8 nO (by decide +kernel)
 plain:=f_
 sub:=vb
 init:=F.slot_dict_init
def om(a:Value):checkTypeCall "dict" {pos:= [a]}=pure ():=by rfl
def oW(a:Value):checkBuiltinCall "dict.__new__" {pos:= [Value.type "dict",a]}=pure ():=by with_unfolding_all rfl
def qz:entryFor table "dict.__new__"=some Builtin.«dict.__new__»:=by rfl
def og{prog:Program}{w:World}{A:Around}{E:Value->Shared->Prop}{s:Shared}(a:Value){Q₁:Value->Shared->Prop}
  (h:Q₁ (.ref s.heap.objs.size) {s with heap:=s.heap.push {cls:=.type "dict",data:=.dict #[]}}):
  codeAny (model prog w) A (.call (.builtin "dict.__new__") {pos:= [.type "dict",a]}) (wants Q₁ E) s:=by
 refine codeAny_of_tree ?_
 show wpAny _ _ (do checkBuiltinCall "dict.__new__" _;_) _ _ _
 refine Qaq (wpAny_of_eq (oW a) (Qgq ⟨plainId_quiet f_ _,codeAny_builtin qz ?_⟩))
 rw[Around.under_plainId f_]
 refine Qaq (Qgq (QgQ rfl (Qaq (wpAny_of_eq vb (QgQ rfl (Qaq (wpAny_of_eq o8 (QgQ ?_ ?_))))))))
 ·rfl
 ·refine Qaq ?_
  have e:newObj (.type "dict") (.dict #[])=newObjAsIs (.type "dict") (.dict #[]):=by
   unfold newObj
   simp
  rw[e]
  exact Qaq (wpAny_alloc (Qgq (Qgq h)))
def uW{prog:Program}{w:World}{A:Around}{E:Value->Shared->Prop}{s:Shared}{a:Value}{Q:Value->Shared->Prop}
  (h:wpAny (model prog w) A.in1.in1 (Builtin.«dict.__init__» {pos:= [.ref s.heap.objs.size,a]})
   (λq l=>match q with|.done f=>wants (λr b=>r=.none/\Q (.ref s.heap.objs.size) b) E (.ok f) l|.again x=>x.quiet=true/\codeAny (model prog w) A.in1 x (wants (λr b=>r=.none/\Q (.ref s.heap.objs.size) b) E) l)
   (λe l=>wants (λr b=>r=.none/\Q (.ref s.heap.objs.size) b) E (.error e) l) {s with heap:=s.heap.push {cls:=.type "dict",data:=.dict #[]}}):
  wpAny (model prog w) A (call (.type "dict") [a]) Q E s:=by
 obtain⟨c,C,k⟩:=cz.mro
 have g:=cz.made
 have j:=cz.sub
 refine wpAny_call (codeAny_of_tree ?_)
 refine Qgq ⟨Code.quiet_builtin _ (by decide +kernel),codeAny_builtin F.entry_type_call ?_⟩
 rw[Around.under_plain (weight_type_call_type "dict" [a] []) rfl]
 have G:=cz.notType
 have B:=cz.canCreate
 have p:=om a
 unfold Builtin.«type.__call__»
 dsimp only
 refine QgQ rfl ?_
 refine QgQ (by rw[B];rfl) ?_
 refine Qaq (wpAny_of_eq p (Qaq (wpAny_of_eq k (QgQ rfl (Qaq (wpAny_of_eq g (Qaq (Qgq (Qaq (QLq (wpAny_call (codeAny_mono (og (E:=E) (Q₁:=λv d=>v=.ref s.heap.objs.size/\d={s with heap:=s.heap.push {cls:=.type "dict",data:=.dict #[]}}) a ⟨rfl,rfl⟩) λr d i=> ?_))))))))))))
 cases r with
 |error e=>exact i
 | ok u=>
   cases u with
   | ret z=>
     obtain⟨rfl,rfl⟩:=i
     have y:=Qrq s.heap (o:={cls:=.type "dict",data:=.dict #[]}) rfl
     have m:Shared.TypeIs {s with heap:=s.heap.push {cls:=.type "dict",data:=.dict #[]}} (.ref s.heap.objs.size) "dict":=⟨_,y,rfl⟩
     have n:=cz.init.lookup
     have t:=cz.init.bind (.ref s.heap.objs.size)
     refine Qaq (wpAny_isInstance m j (QgQ rfl (Qaq (QLq ?_))))
     unfold callSpecial?
     refine Qaq (wpAny_specialOf m n (QLq (Qaq (wpAny_of_eq t (Qaq (wpAny_call (codeAny_mono (codeAny_call_builtin cz.init.plain F.entry_dict_init (cz.init.check _ _ _ _ _ [a] [] _ m (F.args_dict_init_2 _ _) h)) λr b i=> ?_)))))))
     cases r with
     |error e=>exact i
     | ok u=>
       cases u with
       | ret v=>
         obtain⟨rfl,hq⟩:=i
         exact Qgq (QgQ rfl (Qgq hq))
       |_=>exact i.elim
   |_=>exact i.elim
def iO:entryFor table "dict.update.loop"=some Builtin.«dict.update.loop»:=by rfl
def fh:plainId "dict.update.loop"=true:=by decide +kernel
section
variable{prog:Program}{w:World}{K:Type}[DecidableEq K]{knd:KeyKind prog w K}
def xb(kvs:List (K×Value))(k:K)(v:Value):(stored kvs k v).length<=kvs.length+1:=by
 unfold stored
 split
 ·rw[lQm];omega
 ·rw[lQa];simp
def F1(b:Nat->K)(a:Nat->Value):Nat->List (K×Value)
 |0=> []
 |i+1=>stored (F1 b a i) (b i) (a i)
theorem yB(b:Nat->K)(a:Nat->Value):∀i,(F1 b a i).length<=i
 |0=>Qmq _
 |i+1=>QAq (xb _ _ _) (Nat.succ_le_succ (yB b a i))
end
end Dk
namespace L2
open PySem PySem.Spec PyProof.Rows
section
variable{X:Cx}
def key_is{k:Key}{u:Value}(r:RelV (kV k) u)(P:Program)(w:World):(bg P w).is k u=true:=by
 cases k with
 |inl i=>obtain⟨t,rfl⟩:=(show∃t,u=Value.int i t from r);simp[bg,iU,Value.isInt]
 |inr x=>obtain⟨t,rfl⟩:=(show∃t,u=Value.str x t from r);simp[bg,iU,Value.isStrOf]
end
end L2
namespace Dk
open PySem
end Dk
namespace L2
open PySem PySem.Spec PyProof.Rows
end L2
namespace Dk
open PySem
end Dk
namespace L2
open PySem PySem.Spec PyProof.Rows
end L2
namespace Zp
open PySem
section
variable{prog:Program}{w:World}{A:Around}{E:Value->Shared->Prop}{s:Shared}
def HE{i t:Addr}{k:Nat}{vs:Array Value}{v:Value}{Q:Value->Shared->Prop}(c:s.heap.IsTupleIter i t k)(e:s.heap.IsTuple t vs)(h:vs[k]?=some v)
  (q:∀h',h'.IsTupleIter i t (k+1)->Heap.SameBut i s.heap h'->Q v {s with heap:=h'}):wpAny (model prog w) A (Builtin.SmallTypes.nextOf (.ref i)) Q E s:=by
 obtain⟨m,b,g,a⟩:=id c
 obtain⟨l,d,_,j,f⟩:=e
 unfold Builtin.SmallTypes.nextOf
 refine Qaq (QiQ (name:=Str.ofString "__next__") c.typeIs F.slot_tuple_iterator_next (wpAny_call_entry F.slot_tuple_iterator_next c.typeIs F.entry_tuple_iterator_next ?_ (F.args_tuple_iterator_next_1 _)))
 refine(?_:wpAny _ _ (field (.ref i) 0 >>= _) _ _ s)
 refine Qaq (QMq b a (x:=.ref t) rfl ?_)
 refine(?_:wpAny _ _ (if (Value.ref t==Value.none)=true then _ else _) _ _ s)
 rw[Quq (λz=>by cases (show false=true from z))]
 refine(?_:wpAny _ _ (field (.ref i) 1 >>= _) _ _ s)
 refine Qaq (QMq b a (x:=.int k 0) rfl ?_)
 refine(?_:wpAny _ _ (seqItems? (.ref t) >>= _) _ _ s)
 refine Qaq (wpAny_seqItems d f ?_)
 simp only[Int.toNat_natCast,h]
 refine Qaq (wpAny_setField b a (by simp) (Qgq ⟨v,rfl,Qgq (q _ ⟨_,Heap.get?_update_self _ b (Obj.isFreed_of_fields (Obj.data_mapFields a _)),(Obj.cls_mapFields ..).trans g,?_⟩ (Heap.SameBut.update ..))⟩))
 rw[Obj.data_mapFields a]
 simp[rawInt]
def Hh{i t:Addr}{k:Nat}{vs:Array Value}{Q:Value->Shared->Prop}(f:A.handled=none)(c:s.heap.IsTupleIter i t k)(h:s.heap.IsTuple t vs)(l:vs[k]?=none)
  (q:∀h' e,Heap.ExtBut i s.heap h'->(∃o,h'.get? e=some o/\o.cls=.type "StopIteration")->E (.ref e) {s with heap:=h'}):wpAny (model prog w) A (Builtin.SmallTypes.nextOf (.ref i)) Q E s:=by
 obtain⟨u,b,p,d⟩:=id c
 obtain⟨r,g,_,n,j⟩:=h
 unfold Builtin.SmallTypes.nextOf
 refine Qaq (QiQ (name:=Str.ofString "__next__") c.typeIs F.slot_tuple_iterator_next (wpAny_call_entry F.slot_tuple_iterator_next c.typeIs F.entry_tuple_iterator_next ?_ (F.args_tuple_iterator_next_1 _)))
 refine(?_:wpAny _ _ (field (.ref i) 0 >>= _) _ _ s)
 refine Qaq (QMq b d (x:=.ref t) rfl ?_)
 refine(?_:wpAny _ _ (if (Value.ref t==Value.none)=true then _ else _) _ _ s)
 rw[Quq (λz=>by cases (show false=true from z))]
 refine(?_:wpAny _ _ (field (.ref i) 1 >>= _) _ _ s)
 refine Qaq (QMq b d (x:=.int k 0) rfl ?_)
 refine(?_:wpAny _ _ (seqItems? (.ref t) >>= _) _ _ s)
 refine Qaq (wpAny_seqItems g j ?_)
 simp only[Int.toNat_natCast,l]
 refine Qaq (wpAny_rule (Qaq (wpAny_setField b d (by simp) ?_)))
 refine(?_:wpAny _ _ (newExc (.type "StopIteration") [] >>= _) _ _ _)
 refine Qaq ?_
 simp only[newExc,newTuple]
 refine Qaq (QhQ ?_ (by size_fits))
 refine Qaq (m:=firstArgMember _ _) (wpAny_of_eq (a:=Value.none) (by first|rfl|(simp only[firstArgMember];rfl)) (QhQ ?_ (by size_fits)))
 simp only[raiseNew]
 refine Qaq (wpAny_handled ?_)
 first|rw[show A.in1.handled=none from f]|rw[f]
 exact Qaq (Qgq (wpAny_throw (q _ _ (((Heap.SameBut.update ..).extBut.push _).push _) ⟨_,Qrq _ rfl,rfl⟩)))
end
def Rest(z O i j:Addr)(h h':Heap):Prop:=∀c o,c≠z->c≠O->c≠i->c≠j->h.get? c=some o->h'.get? c=some o
end Zp
namespace L2
open PySem PySem.Spec PyProof.Rows
section
variable{X:Cx}{pins:List (Addr×Obj)}{σ:St}{H:Hp}{s:Shared}{h':Heap}
def Inv.turnedL{t':Nat}{fp:List Addr}(I:Inv X pins σ H s)(d:∀b∈fp,ph X pins H b)(k:∀b o,b∉fp->s.heap.get? b=some o->h'.get? b=some o):Inv X pins σ H {s with heap:=h',toks:=t'}:=by
 have f:∀b u,H b=some u->b∉fp:=λb u e z=>by rw[(d b z).1] at e;cases e
 refine I.step (g':=s.gens) (d':=s.drawn) (ch:=fp) (λb g=>⟨(d b g).2.2.2.1,(d b g).2.1,(d b g).2.2.2.2.1,(d b g).2.2.2.2.2⟩) (λb o _ _ a e _=>k b o a e) (λb o _ _ a e _=>⟨o.slots,k b o a e⟩) (λ_ _ _ _ n=>n)
  (λb o a e=>⟨o,k b o a e⟩) (λ_ _ e=>e) (λ_ _ _ e=>e) (λb p e=>⟨#[],by rw[e];simp⟩) (λm l=> ?_) (λb u e=> ?_) I.bare
 ·obtain⟨o,j,h,i,r⟩:=l
  exact⟨o,j,h,k _ o (λz=>(d _ z).2.1 rfl) i,r⟩
 ·refine(I.hok b u e).stay (λc v a q=>k c v ?_ q) (λ_ q=>q) λ_ _ q=>q
  rcases a with z|z
  ·rw[z];exact f b u e
  ·exact f c _ z
def Inv.turnedNew{t':Nat}{fp:List Addr}{p:Addr}{o:HO}(I:Inv X pins σ H s)(f:∀b∈fp,ph X pins H b)(k:∀b u,b∉fp->s.heap.get? b=some u->h'.get? b=some u)(i:s.heap.objs.size<=p)
  (new:bL X.prog X.w (upd H p o) h' p o):Inv X pins σ (upd H p o) {s with heap:=h',toks:=t'}:=by
 have t:=I.hok.fresh i
 have g:∀b u,H b=some u->b∉fp:=λb u e z=>by rw[(f b z).1] at e;cases e
 have h:∀b u,H b=some u->upd H p o b=some u:=λb u e=>by rw[aM (dH e t)];exact e
 refine I.step (g':=s.gens) (d':=s.drawn) (ch:=fp) (λb d=>⟨(f b d).2.2.2.1,(f b d).2.1,(f b d).2.2.2.2.1,(f b d).2.2.2.2.2⟩) (λb o _ _ a e _=>k b o a e) (λb o _ _ a e _=>⟨o.slots,k b o a e⟩)
  (λb u _ e n=>by rw[aM (λz=>Nat.lt_irrefl _ (Qqq (Qiq e) (by rw[z];exact i)))];exact n)
  (λb o a e=>⟨o,k b o a e⟩) (λb A e=>h b _ e) (λb u v e=>h b _ e) (λb B e=>⟨#[],by rw[h b _ e];simp⟩) (λm y=> ?_) (λb u e=> ?_) I.bare
 ·obtain⟨o,x,j,l,r⟩:=y
  exact⟨o,x,j,k _ o (λz=>(f _ z).2.1 rfl) l,r⟩
 ·by_cases d:b=p
  ·subst d
   rw[aR] at e
   cases e
   exact new
  ·rw[aM d] at e
   refine(I.hok b u e).stay (λc v a q=>k c v ?_ q) (λc q=>h c _ q) λc _ q=>h c _ q
   rcases a with z|z
   ·rw[z];exact g b u e
   ·exact g c _ z
end
end L2
namespace Zp
open PySem PySem.W PyProof.Rows
end Zp
namespace L2
open PySem PySem.Spec PyProof.Rows
mutual
inductive nU(N:Addr->Prop)(H:Hp):PyData->V->Prop
 |non:nU N H .none .non
 |bl (b:Bool):nU N H (.bool b) (.bl b)
 |int (i:Int):nU N H (.int i) (.int i)
 |str (x:Str):nU N H (.str x) (.str x)
 |tup {a:Addr} {us:List V} {xs:List PyData}:H a=some (.tup us)->oV N H xs us->nU N H (.tuple xs) (.ref a)
 |lst {a:Addr} {us:List V} {xs:List PyData}:H a=some (.lst us)->N a->oV N H xs us->nU N H (.list xs) (.ref a)
 |dct {a:Addr}:H a=some (.dK [])->nU N H (.dict []) (.ref a)
inductive oV(N:Addr->Prop)(H:Hp):List PyData->List V->Prop
 |nil:oV N H [] []
 |cons {x:PyData} {u:V} {xs:List PyData} {us:List V}:nU N H x u->oV N H xs us->oV N H (x::xs) (u::us)
end
section
variable{X:Cx}
mutual
theorem pw{f:List (Addr×Obj)}{C:St}{H:Hp}{s:Shared}{N:Addr->Prop}(I:Inv X f C H s)(j:∀a,N a->a≠sysModules):∀{d:PyData} {v:V} {u:Value},nU N H d v->RelV v u->∃as,Reads s.heap u d as/\sysModules∉as
 |_,_,_,.non,r=>by cases r;exact⟨_,.none,by simp⟩
 |_,_,_,.bl b,r=>by cases r;exact⟨_,.bool b,by simp⟩
 |_,_,_,.int i,r=>by obtain⟨t,rfl⟩:=r;exact⟨_,.int i t,by simp⟩
 |_,_,_,.str x,r=>by obtain⟨t,rfl⟩:=r;exact⟨_,.str x t,by simp⟩
 | _,_,_,.tup (a:=a) h hs,r=>by
   cases r
   obtain⟨k,p,⟨o,c,g,n,q⟩,K⟩:=I.tuple (fK.of h)
   obtain⟨as,l,m⟩:=mB I j hs p
   exact⟨as,.tuple c g q (by simpa using l),m⟩
 | _,_,_,.lst (a:=a) h n hs,r=>by
   cases r
   obtain⟨k,p,A,K⟩:=I.list (gJ.of h)
   obtain⟨o,c,g,P,q⟩:=A.isList
   obtain⟨as,l,m⟩:=mB I j hs p
   exact⟨_,.list c g q (by simpa using l),by rw[Qsq];exact λe=>e.elim (λe=>j _ n e.symm) m⟩
 | _,_,_,.dct (a:=a) h,r=>by
   cases r
   obtain⟨_,y,M,G,J⟩:=uZ I.hok h
   cases G
   obtain⟨o,B,L,c,F,g,_,z,_⟩:=J
   have w:B.toList= []:=List.eq_nil_of_length_eq_zero z.length
   exact⟨_,.dict (as:= []) (bs:= []) (kvs:= []) c F.1 g (by rw[w];exact .nil) (by rw[w];exact .nil),by
     simp
     intro e
     rw[e] at y
     simp at y⟩
theorem mB{b:List (Addr×Obj)}{j:St}{H:Hp}{s:Shared}{N:Addr->Prop}(I:Inv X b j H s)(d:∀a,N a->a≠sysModules):∀{xs:List PyData} {c:List V} {vs:List Value},oV N H xs c->a_ c vs->∃as,ReadsAll s.heap vs xs as/\sysModules∉as
 |_,_,_,.nil,r=>by cases r;exact⟨_,.nil,by simp⟩
 | _,_,_,.cons h hs,r=>by
   cases r with
   | cons r l=>
     obtain⟨as,g,i⟩:=pw I d h r
     obtain⟨m,f,k⟩:=mB I d hs l
     exact⟨_,.cons g f,by rw[mQa];exact λe=>e.elim i k⟩
end
end
section
variable{X:Cx}
def CT:iH X (binaryOp .Mult) (rI IntMulOk λi j=>.int (i*j)):=Ih λ_ _ _ _ _ _ _ a q=>mul_int q a
end
section
variable{X:Cx}
def Ah:GW X (λx y H Q=>∃p xs k v,x=.ref p/\y=.int ((k:Nat):Int)/\gJ X.K H p xs/\xs[k]?=some v/\Q v H):=by
 intro b s l H x y v u Q I e g h
 obtain⟨p,xs,k,z,rfl,rfl,hq,he,q⟩:=h
 cases e
 obtain⟨t,rfl⟩:=g
 obtain⟨c,r,d,m⟩:=I.list hq
 obtain⟨i,f,a⟩:=r.get he
 have n:k<xs.length:=(gQs.mp he).1
 have j:=ja
 exact wpAny_getItem_list d.isList (x:=i) (Int.natCast_nonneg k) (by omega) (by simpa using f) ⟨z,H,I,a,q⟩
end
section
variable{X:Cx}
def Cm(K:PySem.W.Frag):R2:=λx y H Q=>∃a b c,x=.ref a/\y=.ref b/\gJ K H a c/\gJ K H b []/\Q (.bl (!c.isEmpty)) H
def Ce(e:X.A.units<cLine):iH X (compareOp .NotEq) (Cm X.K):=by
 intro c s n H x y v u Q I f g h
 obtain⟨a,b,m,rfl,rfl,ha,hb,q⟩:=h
 cases m with
 |nil=>exact Fs e c s n H _ _ v u Q I f g ⟨a,b,[],[],rfl,rfl,ha,hb,rfl,rfl,q⟩
 | cons z w=>
   cases f
   cases g
   obtain⟨k,r,l,B⟩:=I.list ha
   obtain⟨i,j,d,o⟩:=I.list hb
   have p:=r.length
   have t:=j.length
   exact SeqAt.RcNeAt.lists_lengths l.isList d.isList (by simp[←p,←t]) e _ _ _ _ ⟨.bl true,H,I,rfl,q⟩
end
end L2
namespace HT
open PySem PySem.Spec PyProof.Rows
section
variable{prog:Program}{w:World}{A:Around}{E:Value->Shared->Prop}{s:Shared}
def jO{t e:Addr}{items:Array Value}{k g:Value}{lo hi:Option Int}{Q:Value->Shared->Prop}(a:IsTup s.heap t items)(i:s.heap.IsSliceOf e k g .none)(n:IsPart k lo)(q:IsPart g hi)
  (j:cZ items.size 0 lo=0/\cZ items.size items.size hi=items.size) (h:Q (.ref t) s):wpAny (model prog w) A (getItem (.ref t) (.ref e)) Q E s:=by
 obtain⟨l,d,c,o⟩:=id i
 have f:s.TypeIs (.ref e) "slice":=⟨l,d,c⟩
 unfold getItem
 try with_reducible refine QLq ?_
 first|refine Qaq (Qgq ?_)|skip
 refine Qaq (wpAny_sequenceKey a.typeIs (by decide) ?_)
 refine Qaq (QiQ (name:=Str.ofString "__getitem__") a.typeIs PyProof.Rows.slot_tuple_getitem
  (wpAny_call_entry PyProof.Rows.slot_tuple_getitem a.typeIs entry_tuple_getitem ?_ (args_tuple_getitem _ _)))
 show wpAny _ _ (Builtin.Tuple.tupleItemsOf (.ref t) >>= _) _ _ s
 refine Qaq (tupleItemsOf_ a ?_)
 refine Qaq (wpAny_typeOf f ?_)
 rw[Qhq (by decide)]
 refine Qaq (hG i n q ?_)
 have b:(((cZ items.size 0 lo:Nat):Int)==0&&(1:Int)==1&&(cZ items.size items.size hi-cZ items.size 0 lo)==items.size)=true:=by
  rw[j.1,j.2]
  simp
 show wpAny _ _ (if (((cZ items.size 0 lo:Nat):Int)==0&&(1:Int)==1&&(cZ items.size items.size hi-cZ items.size 0 lo)==items.size)=true then _ else _) _ _ s
 rw[Qhq b]
 have p:∀{A:Around} {E:Value->Shared->Prop} {R:Bool->Shared->Prop},R true s->wpAny (model prog w) A (Builtin.Tuple.tupleIsExact (.ref t)) R E s:=λ{A E R} h=>by
  unfold Builtin.Tuple.tupleIsExact
  exact Qaq (wpAny_typeOf a.typeIs (Qgq h))
 refine Qaq (m:=Builtin.Tuple.tupleIsExact _) (p ?_)
 rw[Qhq rfl]
 refine Qaq (wpAny_rule ?_)
 exact Qgq ⟨_,rfl,Qgq h⟩
end
end HT
namespace L2
open PySem PySem.Spec PyProof.Rows
def JA(K:PySem.W.Frag):V->Option Int->Option Int->Hp->VK->Prop:=λx c d H Q=>∃a b,x=.ref a/\fK K H a b∧
 (HT.cZ b.length 0 c=0/\HT.cZ b.length b.length d=b.length->Q (.ref a) H)/\(¬(HT.cZ b.length 0 c=0/\HT.cZ b.length b.length d=b.length)->∀p,H p=none->Q (.ref p) (upd H p (.tup (tj b c d))))
def Da{X:Cx}:Iq X (JA X.K):=by
 intro c s q H x v p o m j t Q I l g k n h
 obtain⟨a,b,rfl,hx,q1,q2⟩:=h
 by_cases e:HT.cZ b.length 0 m=0/\HT.cZ b.length b.length j=b.length
 ·cases l
  obtain⟨f,r,i,u⟩:=I.tuple hx
  have d:f.toArray.size=b.length:=by rw[Qjq];exact r.length.symm
  refine⟨"tuple",_,PyProof.Rows.slot_tuple_getitem.lookup,i.typeIs,?_⟩
  exact HT.jO i g k n (by rw[d];exact e) ⟨.ref a,H,I,rfl,q1 e⟩
 ·exact FB c s q H _ v p o m j t Q I l g k n ⟨a,b,rfl,hx,e,q2 e⟩
end L2
namespace DL
open PySem PySem.Spec PyProof.Rows L2
inductive D where
 |non|bl (b:Bool)|int (i:Int)|str (x:Str)|tup (xs:List D)|ref (k:Nat)|fn (x:Str)
inductive O where
 |lst (xs:List D)|frz (xs:List D)|dct (kvs:List (Key×D))|fdc (kvs:List (Key×D))
abbrev aA:=List O
abbrev cE:=List (Option D)
structure Md where
 K:PySem.W.Frag
 mg:Str->Option Value
mutual
inductive Rel(M:Md)(ρ:List Addr)(H:Hp):D->V->Prop
 |non:Rel M ρ H .non .non
 |bl (b:Bool):Rel M ρ H (.bl b) (.bl b)
 |int (i:Int):Rel M ρ H (.int i) (.int i)
 |str (x:Str):Rel M ρ H (.str x) (.str x)
 |tup {a:Addr} {vs:List V} {ds:List D}:H a=some (.tup vs)->aK M ρ H ds vs->Rel M ρ H (.tup ds) (.ref a)
 |ref {k:Nat} {a:Addr}:ρ[k]?=some a->Rel M ρ H (.ref k) (.ref a)
 |fn {x:Str} {a:Addr}:M.mg x=some (.ref a)->Rel M ρ H (.fn x) (.ref a)
inductive aK(M:Md)(ρ:List Addr)(H:Hp):List D->List V->Prop
 |nil:aK M ρ H [] []
 |cons {d:D} {v:V} {ds:List D} {vs:List V}:Rel M ρ H d v->aK M ρ H ds vs->aK M ρ H (d::ds) (v::vs)
end
section
variable{M:Md}{ρ ρ':List Addr}{H H':Hp}
def I0:HO->Prop
 |.tup _=>True
 |.frz _ _=>True
 |_=>False
structure bx(ρ:List Addr)(H:Hp)(ρ':List Addr)(H':Hp):Prop where
 pre:ρ <+: ρ'
 new:∀a∈ρ',a∈ρ\/H a=none
 keep:∀a o,H a=some o->a∉ρ\/I0 o->H' a=some o
 grow:∀a,H' a=none->H a=none
def bx.refl:bx ρ H ρ H:=⟨List.prefix_refl _,λ_ h=>.inl h,λ_ _ h _=>h,λ_ h=>h⟩
def bx.trans{d b:List Addr}{H1 H2:Hp}(e:bx ρ H d H1)(f:bx d H1 b H2):bx ρ H b H2 where
 pre:=e.pre.trans f.pre
 new:=λa h=>(f.new a h).elim (λh=>e.new a h) λh=>.inr (e.grow a h)
 keep:=λa o h c=>f.keep a o (e.keep a o h c) (c.imp (λn m=>(e.new a m).elim n λz=>by rw[z] at h;cases h) id)
 grow:=λa h=>e.grow a (f.grow a h)
def bx.laid{a:Addr}{o:HO}(h:H a=none):bx ρ H ρ (upd H a o) where
 pre:=List.prefix_refl _
 new:=λ_ h=>.inl h
 keep:=λb c e _=>by rw[aM];exact e;intro z;subst z;rw[h] at e;cases e
 grow:=λb e=>by
  by_cases z:b=a
  ·subst z;exact h
  ·rw[aM z] at e;exact e
theorem jz{α:Type}:∀{l:List α},l.Nodup->∀{i j:Nat} {a:α},l[i]?=some a->l[j]?=some a->i=j
 | [],_,_,_,_,h,_=>by simp at h
 |x::l,n,0,0,_,_,_=>rfl
 | x::l,n,0,j+1,a,h1,h2=>by
   rw[List.nodup_cons] at n
   simp at h1 h2
   subst h1
   exact absurd (mQg h2) n.1
 | x::l,n,i+1,0,a,h1,h2=>by
   rw[List.nodup_cons] at n
   simp at h1 h2
   subst h2
   exact absurd (mQg h1) n.1
 | x::l,n,i+1,j+1,a,h1,h2=>by
   rw[List.nodup_cons] at n
   simp at h1 h2
   exact congrArg (·+1) (jz n.2 h1 h2)
def bG{α e:Type}{a c:α}{b d:e}(h:some (a,b)=some (c,d)):a=c/\b=d:=by cases h;exact⟨rfl,rfl⟩
def bV{α:Type}{l b:List α}(h:l <+: b){k:Nat}{a:α}(e:l[k]?=some a):b[k]?=some a:=by
 obtain⟨t,rfl⟩:=h
 rw[QHq (gQs.mp e).1]
 exact e
mutual
theorem Rel.ext(e:bx ρ H ρ' H'):∀{d:D} {v:V},Rel M ρ H d v->Rel M ρ' H' d v
 |_,_,.non=>.non
 |_,_,.bl b=>.bl b
 |_,_,.int i=>.int i
 |_,_,.str x=>.str x
 |_,_,.tup h hs=>.tup (e.keep _ _ h (.inr trivial)) (aK.ext e hs)
 |_,_,.ref h=>.ref (bV e.pre h)
 |_,_,.fn h=>.fn h
theorem aK.ext(e:bx ρ H ρ' H'):∀{ds:List D} {vs:List V},aK M ρ H ds vs->aK M ρ' H' ds vs
 |_,_,.nil=>.nil
 |_,_,.cons h hs=>.cons (Rel.ext e h) (aK.ext e hs)
end
mutual
theorem Rel.pre(e:ρ <+: ρ'):∀{d:D} {v:V},Rel M ρ H d v->Rel M ρ' H d v
 |_,_,.non=>.non
 |_,_,.bl b=>.bl b
 |_,_,.int i=>.int i
 |_,_,.str x=>.str x
 |_,_,.tup h hs=>.tup h (aK.pre e hs)
 |_,_,.ref h=>.ref (bV e h)
 |_,_,.fn h=>.fn h
theorem aK.pre(e:ρ <+: ρ'):∀{ds:List D} {vs:List V},aK M ρ H ds vs->aK M ρ' H ds vs
 |_,_,.nil=>.nil
 |_,_,.cons h hs=>.cons (Rel.pre e h) (aK.pre e hs)
end
theorem aK.length:∀{ds:List D} {vs:List V},aK M ρ H ds vs->ds.length=vs.length
 |_,_,.nil=>rfl
 |_,_,.cons _ h=>congrArg (·+1) h.length
theorem aK.append:∀{ds a:List D} {vs ws:List V},aK M ρ H ds vs->aK M ρ H a ws->aK M ρ H (ds++a) (vs++ws)
 |_,_,_,_,.nil,h=>h
 |_,_,_,_,.cons h hs,h'=>.cons h (hs.append h')
theorem aK.get:∀{ds:List D} {vs:List V} {i:Nat} {d:D},aK M ρ H ds vs->ds[i]?=some d->∃v,vs[i]?=some v/\Rel M ρ H d v
 |_,_,0,_,.cons h _,e=>by cases e;exact⟨_,rfl,h⟩
 |_,_,i+1,_,.cons _ hs,e=>hs.get (i:=i) (by simpa using e)
 |_,_,_,_,.nil,e=>by simp at e
theorem aK.set{d:D}{v:V}(h:Rel M ρ H d v):∀{ds:List D} {vs:List V} (i:Nat),aK M ρ H ds vs->aK M ρ H (ds.set i d) (vs.set i v)
 |_,_,_,.nil=>.nil
 |_,_,0,.cons _ t=>.cons h t
 |_,_,i+1,.cons q t=>.cons q (aK.set h i t)
theorem aK.take:∀{ds:List D} {vs:List V} (n:Nat),aK M ρ H ds vs->aK M ρ H (ds.take n) (vs.take n)
 |_,_,0,_=>.nil
 |_,_,_+1,.nil=>.nil
 |_,_,n+1,.cons h hs=>.cons h (hs.take n)
theorem aK.drop:∀{ds:List D} {vs:List V} (n:Nat),aK M ρ H ds vs->aK M ρ H (ds.drop n) (vs.drop n)
 |_,_,0,h=>h
 |_,_,_+1,.nil=>.nil
 |_,_,n+1,.cons _ hs=>hs.drop n
theorem aK.eraseIdx:∀{ds:List D} {vs:List V} (n:Nat),aK M ρ H ds vs->aK M ρ H (ds.eraseIdx n) (vs.eraseIdx n)
 |_,_,_,.nil=>.nil
 |_,_,0,.cons _ h=>h
 |_,_,n+1,.cons h hs=>.cons h (hs.eraseIdx n)
theorem aK.rep{ds:List D}{vs:List V}(h:aK M ρ H ds vs):∀k:Nat,aK M ρ H (List.replicate k ds).flatten (List.replicate k vs).flatten
 |0=>.nil
 |k+1=>by rw[QNq,QNq,List.flatten_cons,List.flatten_cons];exact h.append (h.rep k)
def bu(M:Md)(ρ:List Addr)(H:Hp):List (Key×D)->List (Key×V)->Prop
 | [],kv=>kv= []
 |(k,d)::r,kv=>∃v t,kv=(k,v)::t/\Rel M ρ H d v/\bu M ρ H r t
theorem bu.imp{ρ':List Addr}{H':Hp}(f:∀d v,Rel M ρ H d v->Rel M ρ' H' d v):∀{l:List (Key×D)} {kv:List (Key×V)},bu M ρ H l kv->bu M ρ' H' l kv
 | [],_,h=>h
 |(_,_)::_,_,⟨v,t,e,h,hs⟩=>⟨v,t,e,f _ _ h,bu.imp f hs⟩
theorem bu.length:∀{l:List (Key×D)} {kv:List (Key×V)},bu M ρ H l kv->l.length=kv.length
 | [],_,h=>by cases h;rfl
 |(_,_)::_,_,⟨v,t,e,h,hs⟩=>by subst e;exact congrArg (·+1) hs.length
def lD(M:Md)(ρ:List Addr)(H:Hp)(a:Addr):O->Prop
 |.lst e=>∃c,H a=some (.lst c)/\aK M ρ H e c
 |.frz e=>∃c o,H a=some (.frz o (.lst c))/\aK M ρ H e c
 |.dct b=>∃d,H a=some (.dK d)/\bu M ρ H b d
 |.fdc b=>∃d o,H a=some (.frz o (.dK d))/\bu M ρ H b d
structure eD(M:Md)(ρ:List Addr)(S:aA)(H:Hp):Prop where
 len:ρ.length=S.length
 nd:ρ.Nodup
 obj:∀(k:Nat) (a:Addr) (o:O),ρ[k]?=some a->S[k]?=some o->lD M ρ H a o
def lD.lay{a b:Addr}{o:O}{u:HO}(h:lD M ρ H a o)(k:H b=none):lD M ρ (upd H b u) a o:=by
 have e:bx ρ H ρ (upd H b u):=bx.laid k
 have f:∀{x},H a=some x->upd H b u a=some x:=λ{x} h=>by rw[aM];exact h;intro z;subst z;rw[k] at h;cases h
 cases o with
 |lst l=>obtain⟨i,c,d⟩:=h;exact⟨i,f c,d.ext e⟩
 |frz l=>obtain⟨i,o,c,d⟩:=h;exact⟨i,o,f c,d.ext e⟩
 |dct g=>obtain⟨j,c,d⟩:=h;exact⟨j,f c,d.imp λ_ _ r=>r.ext e⟩
 |fdc g=>obtain⟨j,o,c,d⟩:=h;exact⟨j,o,f c,d.imp λ_ _ r=>r.ext e⟩
def eD.lay{S:aA}{b:Addr}{u:HO}(h:eD M ρ S H)(e:H b=none):eD M ρ S (upd H b u):=⟨h.len,h.nd,λk a o c d=>(h.obj k a o c d).lay e⟩
theorem lD.pre{a:Addr}{o:O}(e:ρ <+: ρ')(h:lD M ρ H a o):lD M ρ' H a o:=by
 cases o with
 |lst i=>obtain⟨f,b,c⟩:=h;exact⟨f,b,c.pre e⟩
 |frz i=>obtain⟨f,o,b,c⟩:=h;exact⟨f,o,b,c.pre e⟩
 |dct d=>obtain⟨g,b,c⟩:=h;exact⟨g,b,c.imp λ_ _ r=>r.pre e⟩
 |fdc d=>obtain⟨g,o,b,c⟩:=h;exact⟨g,o,b,c.imp λ_ _ r=>r.pre e⟩
def eD.box{S:aA}{a:Addr}{o:O}(h:eD M ρ S H)(l:a∉ρ)(i:lD M (ρ++ [a]) H a o):eD M (ρ++ [a]) (S++ [o]) H where
 len:=by rw[lQa,lQa,h.len];rfl
 nd:=by rw[List.nodup_append];exact⟨h.nd,by simp,λx j y f=>by rw[Qfq] at f;subst f;exact λz=>l (z▸j)⟩
 obj:=λk b u d e=>by
  by_cases c:k<ρ.length
  ·rw[QHq c] at d
   rw[QHq (h.len▸c)] at e
   exact(h.obj k b u d e).pre (List.prefix_append _ _)
  ·have c:ρ.length<=k:=Nat.le_of_not_lt c
   rw[QQq c] at d
   rw[QQq (h.len▸c)] at e
   have z:k-ρ.length=0:=by
    have:=(gQs.mp d).1
    simp at this
    omega
   have g:k-S.length=0:=by rw[←h.len];exact z
   rw[z] at d
   rw[g] at e
   cases d
   cases e
   exact i
def eD.put{S:aA}{k:Nat}{a:Addr}{o o':O}{u:HO}(h:eD M ρ S H)(s:ρ[k]?=some a)(F:S[k]?=some o)(G:lD M ρ (upd H a u) a o')(J:∀x,H a=some x->¬I0 x):eD M ρ (S.set k o') (upd H a u)/\bx ρ H ρ (upd H a u):=by
 have K:a∈ρ:=mQg s
 have e:bx ρ H ρ (upd H a u):=by
  refine⟨List.prefix_refl _,λ_ h=>.inl h,λb x y c=> ?_,λb m=> ?_⟩
  ·rw[aM]
   ·exact y
   ·intro z
    subst z
    exact c.elim (λn=>n K) λC=>J _ y C
  ·by_cases z:b=a
   ·subst z;rw[aR] at m;cases m
   ·rw[aM z] at m;exact m
 refine⟨⟨by rw[List.length_set];exact h.len,h.nd,λj b p g l=> ?_⟩,e⟩
 by_cases c:j=k
 ·subst c
  rw[s] at g
  cases g
  rw[Qyq (gQs.mp F).1] at l
  cases l
  exact G
 ·rw[QKq (Ne.symm c)] at l
  have i:b≠a:=by
   intro z
   subst z
   have A:=(gQs.mp g)
   have B:=(gQs.mp s)
   obtain⟨A,N⟩:=A
   obtain⟨B,L⟩:=B
   exact c (jz h.nd g s)
  have q:=h.obj j b p g l
  cases p with
  |lst I=>obtain⟨t,f,d⟩:=q;exact⟨t,by rw[aM i];exact f,d.ext e⟩
  |frz I=>obtain⟨t,o,f,d⟩:=q;exact⟨t,o,by rw[aM i];exact f,d.ext e⟩
  |dct w=>obtain⟨v,f,d⟩:=q;exact⟨v,by rw[aM i];exact f,d.imp λ_ _ r=>r.ext e⟩
  |fdc w=>obtain⟨v,o,f,d⟩:=q;exact⟨v,o,by rw[aM i];exact f,d.imp λ_ _ r=>r.ext e⟩
end
structure En(M:Md)(ρ:List Addr)(H:Hp)(Γ:cE)(σ:L2.St):Prop where
 len:σ.length=Γ.length
 get:∀(i:Nat) (d:D),Γ[i]?=some (some d)->∃v,σ[i]?=some (some v)/\Rel M ρ H d v
def En.ext{M:Md}{ρ a:List Addr}{H f:Hp}{b:cE}{c:L2.St}(h:En M ρ H b c)(e:bx ρ H a f):En M a f b c:=⟨h.len,λi d q=>by obtain⟨v,g,j⟩:=h.get i d q;exact⟨v,g,j.ext e⟩⟩
def En.set{M:Md}{ρ:List Addr}{H:Hp}{a:cE}{b:L2.St}{i:Nat}{d:D}{v:V}(h:En M ρ H a b)(r:Rel M ρ H d v):En M ρ H (a.set i (some d)) (b.set i (some v)) where
 len:=by rw[List.length_set,List.length_set];exact h.len
 get:=λj e q=>by
  by_cases c:i=j
  ·subst c
   have l:i<a.length:=by
    have:=(gQs.mp q).1
    rwa [List.length_set] at this
   rw[Qyq l] at q
   cases q
   exact⟨v,Qyq (h.len▸l),r⟩
  ·rw[QKq c] at q⊢
   exact h.get j e q
structure Ok(M:Md)(ρ:List Addr)(Γ:cE)(S:aA)(σ:L2.St)(H:Hp):Prop where
 en:En M ρ H Γ σ
 st:eD M ρ S H
def Ok.to{M:Md}{ρ a:List Addr}{d:cE}{S c:aA}{f:L2.St}{H b:Hp}(h:Ok M ρ d S f H)(e:bx ρ H a b)(s:eD M a c b):Ok M a d c f b:=⟨h.en.ext e,s⟩
abbrev aW:=cE->aA->Option (D×aA)
abbrev fc:=cE->aA->Option (List D×aA)
abbrev h_:=cE->aA->Option (Bool×aA)
def tD(M:Md)(f:aW):TE:=λh H Q=>∃g e S d c,Ok M g e S h H/\f e S=some (d,c)/\∀a v b,bx g H a b->eD M a c b->Rel M a b d v->Q v b
def tL(M:Md)(f:fc):TE:=λj H Q=>∃i g S e d,Ok M i g S j H/\f g S=some (e,d)∧
 ∀b a h c,bx i H b c->eD M b d c->H a=none->a∉b->c a=some (.lst h)->aK M b c e h->Q (.ref a) c
def vA(M:Md)(f:fc):TA:=λi H Q=>∃h e S d c,Ok M h e S i H/\f e S=some (d,c)/\∀a g b,bx h H a b->eD M a c b->aK M a b d g->Q g b
def tB(M:Md)(f:h_):TT:=λh H Q=>∃g e S b d,Ok M g e S h H/\f e S=some (b,d)/\∀a c,bx g H a c->eD M a d c->Q b c
section
variable{X:Cx}
abbrev md(X:Cx):Md:=⟨X.K,X.mg⟩
def jf{e:Expr}{t t':TE}(h:PE X e t)(w:∀b H Q,t' b H Q->t b H Q):PE X e t':=λa s b H Q I q=>h a s b H Q I (w _ _ _ q)
def Ig{e:Expr}{t t':TT}(h:PT X e t)(w:∀b H Q,t' b H Q->t b H Q):PT X e t':=λa s b H Q I q=>h a s b H Q I (w _ _ _ q)
def Kd{e:Expr}{t t':TT}(h:PW X e t)(w:∀b H Q,t' b H Q->t b H Q):PW X e t':=λc a s b H Q I q=>h c a s b H Q I (w _ _ _ q)
def Ku{d:List Expr}{t t':TA}(h:PA X d t)(w:∀b H Q,t' b H Q->t b H Q):PA X d t':=λc a s b H Q I q=>h c a s b H Q I (w _ _ _ q)
def zH{e:Stmt}{t t':TS}(h:PS X e t)(w:∀D b H,t' D b H->t D b H):PS X e t':=λa s b H D I q=>h a s b H D I (w _ _ _ q)
def HL{e:List Stmt}{t t':TS}(h:oF X e t)(w:∀D b H,t' D b H->t D b H):oF X e t':=λa s b H D I q=>h a s b H D I (w _ _ _ q)
noncomputable def av(i:Nat):aW:=λa S=>match a[i]? with
 |some (some d)=>some (d,S)
 |_=>none
def yW{i:Nat}{b:cE}{S:aA}{d:D}{a:aA}(h:av i b S=some (d,a)):b[i]?=some (some d)/\a=S:=by
 unfold av at h
 split at h
 ·cases h;exact⟨by assumption,rfl⟩
 ·cases h
def Gw{e:Expr}{i:Nat}(h:PE X e (EO i)):PE X e (tD (md X) (av i)):=jf h λk H Q a=>by
 obtain⟨c,l,S,d,j,ok,e,q⟩:=a
 obtain⟨b,rfl⟩:=yW e
 obtain⟨v,f,g⟩:=ok.en.get i d b
 exact⟨v,f,q c v H bx.refl ok.st g⟩
noncomputable def cF(d:D):aW:=λ_ S=>some (d,S)
def iC{e:Expr}{v:V}{d:D}(h:PE X e (tC v))(r:∀ρ H,Rel (md X) ρ H d v):PE X e (tD (md X) (cF d)):=jf h λf H Q a=>by
 obtain⟨ρ,g,S,c,b,ok,e,q⟩:=a
 cases e
 exact q ρ v H bx.refl ok.st (r _ _)
def dU{i:Int}{j pos}:PE X (.Constant (.int i) j pos) (tD (md X) (cF (.int i))):=iC FW λ_ _=>.int i
def Cj{b:Bool}{j pos}:PE X (.Constant (.bool b) j pos) (tD (md X) (cF (.bl b))):=iC HS λ_ _=>.bl b
def Ki{j pos}:PE X (.Constant .none j pos) (tD (md X) (cF .non)):=iC E5 λ_ _=>.non
def HD{x:Str}{j pos}:PE X (.Constant (.str x) j pos) (tD (md X) (cF (.str x))):=iC Fb λ_ _=>.str x
def kM(f:fc):aW:=λc S=>(f c S).bind λ(b,a)=>some (.ref a.length,a++ [.lst b])
def yO{e:Expr}{f:fc}(h:PE X e (tL (md X) f)):PE X e (tD (md X) (kM f)):=jf h λA H Q n=>by
 obtain⟨t,l,S,d,z,ok,e,q⟩:=n
 unfold kM at e
 cases i:f l S with
 |none=>rw[i] at e;cases e
 | some p=>
   obtain⟨u,y⟩:=p
   rw[i] at e
   obtain⟨rfl,rfl⟩:=bG e
   refine⟨t,l,S,u,y,ok,i,λg a r o x k s v m w=> ?_⟩
   have j:=w.pre (List.prefix_append g [a])
   refine q (g++ [a]) (.ref a) o ⟨x.pre.trans (List.prefix_append _ _),λb c=> ?_,x.keep,x.grow⟩ (k.box v ⟨r,m,j⟩) (.ref ?_)
   · rcases mQa.mp c with c|c
     · exact x.new b c
     · rw[Qfq] at c;subst c;exact .inr s
   · rw[←k.len,QQq (Qmq _)]
     simp
noncomputable def aw:fc:=λ_ S=>some ([],S)
noncomputable def ax(f:aW)(g:fc):fc:=λa S=>(f a S).bind λ(d,c)=>(g a c).bind λ(b,e)=>some (d::b,e)
def aq{α c:Type}{o:Option α}{f:α->Option c}{b:c}(h:o.bind f=some b):∃a,o=some a/\f a=some b:=by
 cases o with
 |none=>cases h
 |some a=>exact⟨a,rfl,h⟩
def b_:PA X [] (vA (md X) aw):=Ku fg λf H Q a=>by
 obtain⟨b,g,S,d,c,ok,e,q⟩:=a
 cases e
 exact q b [] H bx.refl ok.st .nil
def aF{e:Expr}{a:List Expr}{f:aW}{g:fc}(n:PE X e (tD (md X) f))(A:PA X a (vA (md X) g))(o:starEach (e::a) X.env=(false,eval e X.env)::starEach a X.env:=by rfl):PA X (e::a) (vA (md X) (ax f g)):=
 Ku (cQ n A o) λF H Q p=>by
  obtain⟨z,k,S,d,C,ok,e,q⟩:=p
  obtain⟨⟨x,m⟩,u,e⟩:=aq e
  obtain⟨⟨y,t⟩,r,e⟩:=aq e
  obtain⟨rfl,rfl⟩:=bG e
  refine⟨z,k,S,x,m,ok,u,λi v H1 l h s=>⟨i,k,m,y,t,ok.to l h,r,λc w H2 j b B=> ?_⟩⟩
  exact q c (v::w) H2 (l.trans j) b (.cons (s.ext j) B)
def aV(f:fc):aW:=λb S=>(f b S).bind λ(a,c)=>if a.length<=sizeLine then some (.tup a,c) else none
def vh{j:List Expr}{f:fc}{k pos}(h:PA X j (vA (md X) f)):PE X (.Tuple j k pos) (tD (md X) (aV f)):=jf (Fi h) λw H Q l=>by
 obtain⟨r,n,S,d,u,ok,e,q⟩:=l
 obtain⟨⟨s,t⟩,m,e⟩:=aq e
 dsimp only at e
 split at e
 ·rename_i c
  obtain⟨rfl,rfl⟩:=bG e
  refine⟨r,n,S,s,t,ok,m,λg v H1 o b i=>⟨i.length▸c,λp a=> ?_⟩⟩
  exact q g (.ref p) _ (o.trans (bx.laid a)) (b.lay a) (.tup aR (i.ext (bx.laid a)))
 ·cases e
def gg(f:fc):fc:=λb S=>(f b S).bind λ(a,c)=>if a.length<=sizeLine then some (a,c) else none
def dk{M:Md}{ρ a:List Addr}{S:aA}{H c:Hp}{p:Addr}(x:bx ρ H a c)(st:eD M a S c)(b:c p=none):p∉a:=λm=>by
 obtain⟨k,g⟩:=List.getElem?_of_mem m
 have l:k<S.length:=st.len▸(gQs.mp g).1
 have:=st.obj k p _ g (gQe l)
 cases e:S[k] with
 |lst f=>rw[e] at this;obtain⟨d,h,_⟩:=this;rw[b] at h;cases h
 |frz f=>rw[e] at this;obtain⟨d,o,h,_⟩:=this;rw[b] at h;cases h
 |dct f=>rw[e] at this;obtain⟨d,h,_⟩:=this;rw[b] at h;cases h
 |fdc f=>rw[e] at this;obtain⟨d,o,h,_⟩:=this;rw[b] at h;cases h
def BX{k:List Expr}{f:fc}{pos}(h:PA X k (vA (md X) f)):PE X (.List k pos) (tL (md X) (gg f)):=jf (EI h) λv H Q l=>by
 obtain⟨r,n,S,d,u,ok,e,q⟩:=l
 obtain⟨⟨s,t⟩,m,e⟩:=aq e
 dsimp only at e
 split at e
 ·rename_i c
  obtain⟨rfl,rfl⟩:=bG e
  refine⟨r,n,S,s,t,ok,m,λi o H1 g b j=>⟨j.length▸c,λp a=> ?_⟩⟩
  exact q i p o _ (g.trans (bx.laid a)) (b.lay a) (g.grow p a) (dk g b a) aR (j.ext (bx.laid a))
 ·cases e
end
section
variable{X:Cx}{a b c e:Expr}{pos:Pos}
def BA:iH X (binaryOp .Add) (λx y H Q=>∃a b ys,x=.ref a/\y=.ref b/\fK X.K H a []/\fK X.K H b ys/\Q (.ref b) H):=by
 intro r s R H x y v u Q I J P h
 obtain⟨a,b,ys,rfl,rfl,ha,m,q⟩:=h
 cases J
 cases P
 obtain⟨G,B,C,_⟩:=I.tuple ha
 obtain⟨g,S,m,_⟩:=I.tuple m
 cases B
 obtain⟨⟨N,L,p,M⟩,t,o,n,z⟩:=id C
 obtain⟨⟨w,l,j,k⟩,i,d,A,f⟩:=id m
 simp only at o z d f
 subst o z d f
 exact concat_meets ⟨_,t,rfl⟩ ⟨_,i,rfl⟩ noFill_tuple_add seq_tuple_add PySem.F.slot_tuple_add PySem.F.entry_tuple_add (PySem.F.args_tuple_add_2 _ _)
   (tuple_addW0 a b _ g.toArray n A L l M k (by simp)) ⟨t,i,.ref b,H,I,rfl,q⟩
abbrev pD:=aA->D->D->Option D
def iS(M:Md)(r:R2)(o:pD):Prop:=∀{f:List Addr} {S:aA} {H:Hp} {x y d:D} {u v:V} {Q:VK},eD M f S H->Rel M f H x u->Rel M f H y v->o S x y=some d->(∀w g,bx f H f g->eD M f S g->Rel M f g d w->Q w g)->r u v H Q
noncomputable def bj(o:pD)(f g:aW):aW:=λh S=>(f h S).bind λ(x,j)=>(g h j).bind λ(y,i)=>(o i x y).bind λd=>some (d,i)
def kQ{r:R2}{o:pD}{f g:aW}(J:iS (md X) r o)(h:PE X e (DY r (tD (md X) f) (tD (md X) g))):PE X e (tD (md X) (bj o f g)):=jf h λR H Q u=>by
 obtain⟨K,p,S,d,N,ok,e,q⟩:=u
 obtain⟨⟨x,t⟩,G,e⟩:=aq e
 obtain⟨⟨y,C⟩,A,e⟩:=aq e
 obtain⟨P,L,e⟩:=aq e
 obtain⟨rfl,rfl⟩:=bG e
 refine⟨K,p,S,x,t,ok,G,λl v H1 s k B=>⟨l,p,t,y,C,ok.to s k,A,λj w H2 n i M=> ?_⟩⟩
 exact J i (B.ext n) M L λI H3 z m F=>q j I H3 ((s.trans n).trans z) m F
def bX:pD:=λ_ x y=>match x,y with
 |.int i,.int j=>some (.int (i+j))
 |.str i,.str j=>if i.length+j.length<=sizeLine then some (.str (i++j)) else none
 |.tup i,.tup j=>if i.length+j.length<=sizeLine then some (.tup (i++j)) else none
 |_,_=>none
abbrev GN(K:PySem.W.Frag):R2:=λx y H Q=>(∃i j,x=.int i/\y=.int j/\Q (.int (i+j)) H)\/(∃i j,x=.str i/\y=.str j/\i.length+j.length<=sizeLine/\Q (.str (i++j)) H)∨
 (∃a b d,x=.ref a/\y=.ref b/\fK K H a []/\fK K H b d/\Q (.ref b) H)\/Eh K x y H Q
def Dl:iH X (binaryOp .Add) (GN X.K):=FO.or (xP.or (BA.or C3))
def EZ{M:Md}:iS M (GN M.K) bX:=by
 intro w S H x y d u v Q f r n e q
 cases r with
 |int i=>cases n <;>simp only[bX,reduceCtorEq] at e;cases e;exact .inl ⟨_,_,rfl,rfl,q _ _ bx.refl f (.int _)⟩
 | str i=>
   cases n <;>simp only[bX,reduceCtorEq] at e
   split at e <;>cases e
   exact .inr (.inl ⟨_,_,rfl,rfl,by assumption,q _ _ bx.refl f (.str _)⟩)
 | tup k h=>
   cases n with
   | tup m j=>
     simp only[bX] at e
     split at e <;>cases e
     rename_i o
     have s:=h.length
     have t:=j.length
     cases h with
     |nil=>exact .inr (.inr (.inl ⟨_,_,_,rfl,rfl,fK.of k,fK.of m,q _ _ bx.refl f (.tup m j)⟩))
     | cons h g=>
       refine .inr (.inr (.inr ⟨_,_,_,_,rfl,rfl,fK.of k,fK.of m,by simp,by rw[←s,←t];exact o,λz=> ?_,λz p l=> ?_⟩))
       · subst z
         cases j
         rw[List.append_nil] at q
         exact q _ _ bx.refl f (.tup k (.cons h g))
       · exact q _ _ (bx.laid l) (f.lay l) (.tup aR ((aK.append (.cons h g) j).ext (bx.laid l)))
   |_=>simp only[bX,reduceCtorEq] at e
 |_=>simp only[bX,reduceCtorEq] at e
def Ee{f g:aW}(d:PE X a (tD (md X) f))(h:PE X b (tD (md X) g)):PE X (.BinOp a .Add b pos) (tD (md X) (bj bX f g)):=kQ EZ (ni Dl d h)
def intD(C:Int->Int->Prop)[∀i j,Decidable (C i j)](k:Int->Int->D):pD:=λ_ x y=>match x,y with
 |.int i,.int j=>if C i j then some (k i j) else none
 |_,_=>none
def t4{M:Md}{C:Int->Int->Prop}[∀i j,Decidable (C i j)]{k:Int->Int->D}{g:Int->Int->V}(m:∀i j ρ H,Rel M ρ H (k i j) (g i j)):iS M (rI C g) (intD C k):=by
 intro ρ S H x y d u v Q f h l e q
 cases h <;>cases l <;>simp only[intD,reduceCtorEq] at e
 split at e <;>cases e
 exact⟨_,_,rfl,rfl,by assumption,q _ _ bx.refl f (m _ _ _ _)⟩
def kR{M:Md}{k:Int->Int->D}{g:Int->Int->V}(m:∀i j ρ H,Rel M ρ H (k i j) (g i j)):iS M (zF g) (intD (λ_ _=>True) k):=by
 intro ρ S H x y d u v Q f h l e q
 cases h <;>cases l <;>simp only[intD,reduceCtorEq] at e
 rw[Qhq trivial] at e
 cases e
 exact⟨_,_,rfl,rfl,q _ _ bx.refl f (m _ _ _ _)⟩
instance{i j:Int}:Decidable (Bk i j):=by unfold Bk;infer_instance
instance{i j:Int}:Decidable (Ai i j):=by unfold Ai;infer_instance
open Classical in
noncomputable instance{i j:Int}:Decidable (IntMulOk i j):=Classical.propDecidable _
abbrev Du:pD:=intD (λ_ _=>True) λi j=>.int (i-j)
noncomputable abbrev kB:pD:=intD IntMulOk λi j=>.int (i*j)
abbrev oh:pD:=intD (λ_ j=>0<j) λi j=>.int (i%j)
abbrev u3:pD:=intD Bk λi j=>.int (i/j)
abbrev ur:pD:=intD Ai λi j=>.int (i^j.toNat)
def Km{f g:aW}(d:PE X a (tD (md X) f))(h:PE X b (tD (md X) g)):PE X (.BinOp a .Sub b pos) (tD (md X) (bj Du f g)):=kQ (kR λi j _ _=>.int _) (ni EK d h)
def Kt{f g:aW}(d:PE X a (tD (md X) f))(h:PE X b (tD (md X) g)):PE X (.BinOp a .Mult b pos) (tD (md X) (bj kB f g)):=kQ (t4 λi j _ _=>.int _) (ni CT d h)
def J_{f g:aW}(d:PE X a (tD (md X) f))(h:PE X b (tD (md X) g)):PE X (.BinOp a .Mod b pos) (tD (md X) (bj oh f g)):=kQ (t4 λi j _ _=>.int _) (ni EU d h)
def JN{f g:aW}(d:PE X a (tD (md X) f))(h:PE X b (tD (md X) g)):PE X (.BinOp a .FloorDiv b pos) (tD (md X) (bj u3 f g)):=kQ (t4 λi j _ _=>.int _) (ni DQ d h)
def Kx{f g:aW}(d:PE X a (tD (md X) f))(h:PE X b (tD (md X) g)):PE X (.BinOp a .Pow b pos) (tD (md X) (bj ur f g)):=kQ (t4 λi j _ _=>.int _) (ni Fm d h)
def p_(f:aW):aW:=λg S=>(f g S).bind λ(d,h)=>match d with
 |.int i=>some (.int (-i),h)
 |_=>none
def Hg{f:aW}(h:PE X a (tD (md X) f)):PE X (.UnaryOp .USub a pos) (tD (md X) (p_ f)):=jf (GF FT h) λs H Q i=>by
 obtain⟨n,l,S,d,r,ok,e,q⟩:=i
 obtain⟨⟨x,p⟩,k,e⟩:=aq e
 dsimp only at e
 split at e
 ·obtain⟨rfl,rfl⟩:=bG e
  refine⟨n,l,S,_,p,ok,k,λo v H1 m g j=> ?_⟩
  cases j
  exact⟨_,rfl,q _ _ _ m g (.int _)⟩
 ·cases e
def rL:D->Option V
 |.non=>some .non
 |.bl b=>some (.bl b)
 |.int i=>some (.int i)
 |.str x=>some (.str x)
 |_=>none
def j9{M:Md}{ρ:List Addr}{H:Hp}{d:D}{u v:V}(r:Rel M ρ H d u)(e:rL d=some v):u=v:=by
 cases r <;>simp[rL] at e <;>exact e
def gL(d:Bool):pD:=λ_ x y=>match rL x,rL y with
 |some u,some v=>if xA u v=true then some (.bl (if d then !decide (u=v) else decide (u=v))) else none
 |_,_=>none
def uU{f:Bool}{S:aA}{x y d:D}(e:gL f S x y=some d):∃u v,rL x=some u/\rL y=some v/\xA u v=true/\d=.bl (if f then !decide (u=v) else decide (u=v)):=by
 unfold gL at e
 split at e
 ·split at e <;>cases e
  exact⟨_,_,by assumption,by assumption,by assumption,rfl⟩
 ·cases e
def Ha{M:Md}:iS M KB (gL false):=by
 intro m S H x y d u v Q f h j e q
 obtain⟨n,l,g,k,i,rfl⟩:=uU e
 cases j9 h g
 cases j9 j k
 exact⟨i,q _ _ bx.refl f (.bl _)⟩
def Kf{M:Md}:iS M KA (gL true):=by
 intro m S H x y d u v Q f h j e q
 obtain⟨n,l,g,k,i,rfl⟩:=uU e
 cases j9 h g
 cases j9 j k
 exact⟨i,q _ _ bx.refl f (.bl _)⟩
abbrev Jh:pD:=intD (λ_ _=>True) λi j=>.bl (decide (i<j))
abbrev IT:pD:=intD (λ_ _=>True) λi j=>.bl (decide (i<=j))
abbrev HH:pD:=intD (λ_ _=>True) λi j=>.bl (decide (j<i))
abbrev Jp:pD:=intD (λ_ _=>True) λi j=>.bl (decide (j<=i))
def J8{M:Md}:iS M (zF λi j=>.bl (decide (i<j))) Jh:=kR λi j _ _=>.bl _
def KC{M:Md}:iS M (zF λi j=>.bl (decide (i<=j))) IT:=kR λi j _ _=>.bl _
def Ky{M:Md}:iS M (zF λi j=>.bl (decide (j<i))) HH:=kR λi j _ _=>.bl _
def J1{M:Md}:iS M (zF λi j=>.bl (decide (j<=i))) Jp:=kR λi j _ _=>.bl _
def isNone:D->Bool
 |.non=>true
 |_=>false
def vy(d:Bool):pD:=λ_ x y=>match y with
 |.non=>some (.bl (if d then !isNone x else isNone x))
 |_=>none
def rg{M:Md}{ρ:List Addr}{H:Hp}{d:D}{u:V}(r:Rel M ρ H d u):decide (u=V.non)=isNone d:=by
 cases r <;>simp[isNone]
def Jr{M:Md}:iS M (λx y H Q=>y=.non/\Q (.bl (decide (x=.non))) H) (vy false):=by
 intro i S H x y d u v Q g h f e q
 cases f <;>simp only[vy,reduceCtorEq] at e
 cases e
 rw[rg h]
 exact⟨rfl,q _ _ bx.refl g (.bl _)⟩
def Iu{M:Md}:iS M (λx y H Q=>y=.non/\Q (.bl (!decide (x=.non))) H) (vy true):=by
 intro i S H x y d u v Q g h f e q
 cases f <;>simp only[vy,reduceCtorEq] at e
 cases e
 rw[rg h]
 exact⟨rfl,q _ _ bx.refl g (.bl _)⟩
def Kh{d:CmpOp}{r:R2}{o:pD}{f g:aW}(i:iH X (compareOp d) r)(l:iS (md X) r o)(h:PE X a (tD (md X) f))(k:PE X b (tD (md X) g))(j:behindInMarks d b=false):PE X (.Compare a [d] [b] pos) (tD (md X) (bj o f g)):=kQ l (DU i h k j)
noncomputable def aO(f:aW):h_:=λg S=>(f g S).bind λ(d,h)=>match d with
 |.bl k=>some (k,h)
 |_=>none
def qf{f:aW}{h:cE}{S g:aA}{k:Bool}(e:aO f h S=some (k,g)):f h S=some (.bl k,g):=by
 obtain⟨⟨d,j⟩,i,e⟩:=aq e
 dsimp only at e
 split at e
 ·cases e;exact i
 ·cases e
def GA{r:R2}{o:pD}{f g:aW}(I:iS (md X) r o)(h:PT X e (Bw (DY r (tD (md X) f) (tD (md X) g)))):PT X e (tB (md X) (aO (bj o f g))):=Ig h λR H Q u=>by
 obtain⟨J,p,S,d,M,ok,e,q⟩:=u
 have e:=qf e
 obtain⟨⟨x,t⟩,G,e⟩:=aq e
 obtain⟨⟨y,C⟩,A,e⟩:=aq e
 obtain⟨N,K,e⟩:=aq e
 obtain⟨rfl,rfl⟩:=bG e
 refine⟨J,p,S,x,t,ok,G,λl v H1 s k B=>⟨l,p,t,y,C,ok.to s k,A,λj w H2 n i L=> ?_⟩⟩
 exact I i (B.ext n) L K λP H3 z m F=>by cases F;exact⟨_,rfl,q j H3 ((s.trans n).trans z) m⟩
def D5{d:CmpOp}{r:R2}{o:pD}{f g:aW}(i:iH X (compareOp d) r)(l:iS (md X) r o)(h:PE X a (tD (md X) f))(k:PE X b (tD (md X) g))(j:behindInMarks d b=false):PT X (.Compare a [d] [b] pos) (tB (md X) (aO (bj o f g))):=GA l (oz i h k j)
def wW(S:aA):D->Option Bool
 |.non=>some false
 |.bl b=>some b
 |.int i=>some (i !=0)
 |.str y=>if y.length<=sizeLine then some ((y.length:Int) !=0) else none
 |.tup d=>some (!d.isEmpty)
 | .ref k=>match S[k]? with
   |some (.lst d)=>some (!d.isEmpty)
   |some (.dct d)=>some (!d.isEmpty)
   |_=>none
 |.fn _=>none
def aK.isEmpty{M:Md}{ρ:List Addr}{H:Hp}{ds:List D}{vs:List V}(h:aK M ρ H ds vs):ds.isEmpty=vs.isEmpty:=by cases h <;>rfl
theorem bu.isEmpty{M:Md}{ρ:List Addr}{H:Hp}{ds:List (Key×D)}{vs:List (Key×V)}(h:bu M ρ H ds vs):ds.isEmpty=vs.isEmpty:=by
 cases ds with
 |nil=>cases h;rfl
 |cons p r=>obtain⟨v,t,e,_⟩:=h;subst e;rfl
def CF{M:Md}{ρ:List Addr}{S:aA}{H:Hp}{d:D}{u:V}{k:Bool}(st:eD M ρ S H)(r:Rel M ρ H d u)(e:wW S d=some k):Fz M.K u H k:=by
 cases r with
 |non=>cases e;rfl
 |bl=>cases e;rfl
 |int=>cases e;rfl
 |str=>simp only[wW] at e;split at e <;>cases e;exact⟨by assumption,rfl⟩
 |tup h j=>cases e;exact .inr (.inl ⟨_,fK.of h,by rw[j.isEmpty]⟩)
 |fn=>cases e
 | ref h=>
   simp only[wW] at e
   split at e
   · cases e
     obtain⟨f,g,i⟩:=st.obj _ _ _ h (by assumption)
     exact .inl ⟨f,gJ.of g,by rw[i.isEmpty]⟩
   · cases e
     obtain⟨f,g,i⟩:=st.obj _ _ _ h (by assumption)
     exact .inr (.inr ⟨f,g,by rw[i.isEmpty]⟩)
   · cases e
def i_(f:aW):h_:=λh S=>(f h S).bind λ(d,g)=>(wW g d).bind λk=>some (k,g)
def Ar{f:aW}(h:PE X a (tD (md X) f))(he:∀d,isTrue a X.env d=(do let v←d;standAt a.pos;holding [v] (truthy v)):=by intro _;rfl):PT X a (tB (md X) (i_ f)):=Ig (BK h he) λw H Q i=>by
 obtain⟨p,n,S,k,u,ok,e,q⟩:=i
 obtain⟨⟨x,t⟩,m,e⟩:=aq e
 obtain⟨r,j,e⟩:=aq e
 obtain⟨rfl,rfl⟩:=bG e
 exact⟨p,n,S,x,t,ok,m,λs v H1 o g l=>⟨r,CF g l j,q _ _ o g⟩⟩
def uc(f:h_):h_:=λd S=>(f d S).bind λ(k,g)=>some (!k,g)
def BU{f:h_}(g:PT X a (tB (md X) f)):PT X (.UnaryOp .Not a pos) (tB (md X) (uc f)):=Ig (EE g) λs H Q h=>by
 obtain⟨m,j,S,k,r,ok,e,q⟩:=h
 obtain⟨⟨o,p⟩,i,e⟩:=aq e
 obtain⟨rfl,rfl⟩:=bG e
 exact⟨m,j,S,o,p,ok,i,λn H1 l d=>q _ _ l d⟩
def vj(f g:h_):h_:=λd S=>(f d S).bind λ(k,h)=>if k=true then g d h else some (false,h)
def FZ(f g:h_):h_:=λd S=>(f d S).bind λ(k,h)=>if k=true then some (true,h) else g d h
def IY{f:h_}(d:PT X a (tB (md X) f)):PW X (.BoolOp .And [a] pos) (tB (md X) f):=C8 d
def Hq{f:h_}(d:PT X a (tB (md X) f)):PW X (.BoolOp .Or [a] pos) (tB (md X) f):=Eu d
def w_and{d:List Expr}{f g:h_}(o:PT X a (tB (md X) f))(x:PW X (.BoolOp .And (b::d) pos) (tB (md X) g)):PW X (.BoolOp .And (a::b::d) pos) (tB (md X) (vj f g)):=Kd (Fo o x) λy H Q r=>by
 obtain⟨v,m,S,k,p,ok,e,q⟩:=r
 obtain⟨⟨w,n⟩,s,e⟩:=aq e
 refine⟨v,m,S,w,n,ok,s,λl H1 j h=> ?_⟩
 dsimp only at e
 split at e
 ·rename_i c
  rw[Qhq c]
  exact⟨l,m,n,k,p,ok.to j h,e,λu H2 t i=>q _ _ (j.trans t) i⟩
 ·rename_i c
  rw[Quq c]
  obtain⟨rfl,rfl⟩:=bG e
  exact q _ _ j h
def w_or{d:List Expr}{f g:h_}(o:PT X a (tB (md X) f))(x:PW X (.BoolOp .Or (b::d) pos) (tB (md X) g)):PW X (.BoolOp .Or (a::b::d) pos) (tB (md X) (FZ f g)):=Kd (Gr o x) λy H Q r=>by
 obtain⟨v,m,S,k,p,ok,e,q⟩:=r
 obtain⟨⟨w,n⟩,s,e⟩:=aq e
 refine⟨v,m,S,w,n,ok,s,λl H1 j h=> ?_⟩
 dsimp only at e
 split at e
 ·rename_i c
  rw[Qhq c]
  obtain⟨rfl,rfl⟩:=bG e
  exact q _ _ j h
 ·rename_i c
  rw[Quq c]
  exact⟨l,m,n,k,p,ok.to j h,e,λu H2 t i=>q _ _ (j.trans t) i⟩
def uR(f g:aW):aW:=λh S=>(f h S).bind λ(d,i)=>match d with
 |.bl true=>g h i
 |.bl false=>some (.bl false,i)
 |_=>none
def C7(f:aW):aW:=λg S=>(f g S).bind λ(d,h)=>match d with
 |.bl k=>some (.bl (!k),h)
 |_=>none
def Ks{op}{f:aW}(h:PE X a (tD (md X) f)):PE X (.BoolOp op [a] pos) (tD (md X) f):=F5 h
def JZ{h:List Expr}{f g:aW}(p:PE X a (tD (md X) f))(B:PE X (.BoolOp .And (b::h) pos) (tD (md X) g)):PE X (.BoolOp .And (a::b::h) pos) (tD (md X) (uR f g)):=jf (FK p B) λC H Q s=>by
 obtain⟨z,n,S,d,r,ok,e,q⟩:=s
 obtain⟨⟨x,o⟩,t,e⟩:=aq e
 refine⟨z,n,S,x,o,ok,t,λl v H1 k i m=> ?_⟩
 dsimp only at e
 split at e
 ·cases m
  refine⟨_,rfl,?_⟩
  rw[Qhq rfl]
  exact⟨l,n,o,d,r,ok.to k i,e,λy w H2 u j A=>q _ _ _ (k.trans u) j A⟩
 ·cases m
  refine⟨_,rfl,?_⟩
  rw[Quq Qtq]
  obtain⟨rfl,rfl⟩:=bG e
  exact q _ _ _ k i (.bl _)
 ·cases e
def Kc{f:aW}(h:PE X a (tD (md X) f)):PE X (.UnaryOp .Not a pos) (tD (md X) (C7 f)):=jf (Fc h) λs H Q i=>by
 obtain⟨n,l,S,d,r,ok,e,q⟩:=i
 obtain⟨⟨x,p⟩,k,e⟩:=aq e
 refine⟨n,l,S,x,p,ok,k,λo v H1 m g j=> ?_⟩
 dsimp only at e
 split at e
 ·cases j
  obtain⟨rfl,rfl⟩:=bG e
  exact⟨_,rfl,q _ _ _ m g (.bl _)⟩
 ·cases e
def pN(c:h_)(f g:aW):aW:=λd S=>(c d S).bind λ(k,h)=>if k=true then f d h else g d h
def Kp{h:h_}{f g:aW}(u:PT X c (tB (md X) h))(t:PE X a (tD (md X) f))(A:PE X b (tD (md X) g)):PE X (.IfExp c a b pos) (tD (md X) (pN h f g)):=jf (Bx u t A) λB H Q v=>by
 obtain⟨y,n,S,d,s,ok,e,q⟩:=v
 obtain⟨⟨z,r⟩,x,e⟩:=aq e
 refine⟨y,n,S,z,r,ok,x,λk H1 l j=> ?_⟩
 dsimp only at e
 split at e
 ·rename_i c
  rw[Qhq c]
  exact⟨k,n,r,d,s,ok.to l j,e,λo w H2 m i p=>q _ _ _ (l.trans m) i p⟩
 ·rename_i c
  rw[Quq c]
  exact⟨k,n,r,d,s,ok.to l j,e,λo w H2 m i p=>q _ _ _ (l.trans m) i p⟩
def sG:pD:=λS x y=>match x,y with
 |.tup xs,.int i=>lW xs i
 |.str z,.int i=>if z.length<=sizeLine then(lW z.cps.toList i).map λc=>.str ⟨#[c]⟩ else none
 | .ref k,.int i=>match S[k]? with
   |some (.lst xs)=>lW xs i
   |some (.frz xs)=>lW xs i
   |_=>none
 |_,_=>none
def Cw{α d:Type}{xs:List α}{ys:List d}{i:Int}{x:α}(h:lW xs i=some x)(l:xs.length=ys.length):∃j:Nat,xs[j]?=some x/\∀y,ys[j]?=some y->lW ys i=some y:=by
 unfold lW at h
 obtain⟨j,e,h⟩:=aq h
 exact⟨j,h,λy f=>by unfold lW;rw[←l,e];exact f⟩
def aK.atI{M:Md}{ρ:List Addr}{H:Hp}{ds:List D}{vs:List V}{i:Int}{d:D}(h:aK M ρ H ds vs)(e:L2.lW ds i=some d):∃v,L2.lW vs i=some v/\Rel M ρ H d v:=by
 obtain⟨j,g,k⟩:=Cw e h.length
 obtain⟨v,f,l⟩:=h.get g
 exact⟨v,k v f,l⟩
def Hd{M:Md}:iS M (KF M.K) sG:=by
 intro r S H x y d u v Q i m p e q
 cases p <;>cases m <;>simp only[sG,reduceCtorEq] at e
 ·split at e
  ·obtain⟨c,f,g⟩:=oQm.mp e
   subst g
   exact .inr (.inr ⟨_,_,c,rfl,rfl,by assumption,f,q _ _ bx.refl i (.str _)⟩)
  ·cases e
 ·rename_i h l
  obtain⟨v,f,g⟩:=l.atI e
  exact .inr (.inl ⟨_,_,_,v,rfl,rfl,fK.of h,f,q _ _ bx.refl i g⟩)
 ·rename_i h
  split at e
  ·obtain⟨n,k,j⟩:=i.obj _ _ _ h (by assumption)
   obtain⟨v,f,g⟩:=j.atI e
   exact .inl ⟨_,_,_,v,rfl,rfl,gJ.of k,f,q _ _ bx.refl i g⟩
  ·obtain⟨n,o,k,j⟩:=i.obj _ _ _ h (by assumption)
   obtain⟨v,f,g⟩:=j.atI e
   exact .inl ⟨_,_,_,v,rfl,rfl,.inl (.inr ⟨o,k⟩),f,q _ _ bx.refl i g⟩
  ·cases e
def jN{f g:aW}(d:PE X a (tD (md X) f))(i:PE X b (tD (md X) g))(h:yp b:=by intro _ _;rfl):PE X (.Subscript a b pos) (tD (md X) (bj sG f g)):=kQ Hd (GE EB d i h)
end
inductive Tag where
 |tu|fr|st (k:Nat)|fz (k:Nat)
def xJ(M:Md)(ρ:List Addr)(H:Hp)(a:Addr)(vs:List V):Tag->Prop
 |.tu=>fK M.K H a vs
 |.fr=>H a=some (.lst vs)/\a∉ρ
 |.st k=>ρ[k]?=some a/\H a=some (.lst vs)
 |.fz k=>ρ[k]?=some a/\∃o,H a=some (.frz o (.lst vs))
abbrev et:=cE->aA->Option ((List D×Tag)×aA)
def tQ(M:Md)(f:et):TE:=λj H Q=>∃h g S e t d,Ok M h g S j H/\f g S=some ((e,t),d)∧
 ∀b a i c,bx h H b c->eD M b d c->xJ M b c a i t->aK M b c e i->Q (.ref a) c
def xJ.sq{M:Md}{ρ:List Addr}{H:Hp}{a:Addr}{vs:List V}{t:Tag}(h:xJ M ρ H a vs t):gJ M.K H a vs\/fK M.K H a vs:=by
 cases t with
 |tu=>exact .inr h
 |fr=>exact .inl (gJ.of h.1)
 |st k=>exact .inl (gJ.of h.2)
 |fz k=>obtain⟨_,o,h⟩:=h;exact .inl (.inl (.inr ⟨o,h⟩))
def Tag.isL:Tag->Bool
 |.tu=>false
 |_=>true
def Tag.isM:Tag->Bool
 |.fr=>true
 |.st _=>true
 |_=>false
def xJ.sqL{M:Md}{ρ:List Addr}{H:Hp}{a:Addr}{vs:List V}{t:Tag}(h:xJ M ρ H a vs t)(c:t.isL=true):gJ M.K H a vs:=by
 cases t with
 |tu=>cases c
 |fr=>exact gJ.of h.1
 |st k=>exact gJ.of h.2
 |fz k=>obtain⟨_,o,h⟩:=h;exact .inl (.inr ⟨o,h⟩)
def xJ.sqM{M:Md}{ρ:List Addr}{H:Hp}{a:Addr}{vs:List V}{t:Tag}(h:xJ M ρ H a vs t)(c:t.isM=true):H a=some (.lst vs):=by
 cases t with
 |tu=>cases c
 |fr=>exact h.1
 |st k=>exact h.2
 |fz k=>cases c
def xJ.sqT{M:Md}{ρ:List Addr}{H:Hp}{a:Addr}{vs:List V}{t:Tag}(h:xJ M ρ H a vs t)(c:t.isL=false):fK M.K H a vs:=by
 cases t with
 |tu=>exact h
 |fr=>cases c
 |st k=>cases c
 |fz k=>cases c
def Tag.stays(S:aA)(ds:List D):Tag->Prop
 |.st k=>S[k]?=some (.lst ds)
 |.fz k=>S[k]?=some (.frz ds)
 |_=>True
def fK.ext{K:PySem.W.Frag}{ρ b:List Addr}{H c:Hp}{a:Addr}{vs:List V}(e:bx ρ H b c)(h:fK K H a vs):fK K c a vs:=by
 rcases h with(h|⟨o,h⟩)|h
 ·exact .inl (.inl (e.keep _ _ h (.inr trivial)))
 ·exact .inl (.inr ⟨o,e.keep _ _ h (.inr trivial)⟩)
 ·exact .inr h
def xJ.to{M:Md}{ρ d:List Addr}{S:aA}{H i:Hp}{a:Addr}{vs:List V}{ds:List D}{t:Tag}(h:xJ M ρ H a vs t)(r:aK M ρ H ds vs)(e:bx ρ H d i)(st:eD M d S i)(c:t.stays S ds):∃b,xJ M d i a b t/\aK M d i ds b:=by
 cases t with
 |tu=>exact⟨vs,fK.ext e h,r.ext e⟩
 |fr=>exact⟨vs,⟨e.keep _ _ h.1 (.inl h.2),λm=>(e.new a m).elim h.2 λz=>by have f:=h.1;rw[z] at f;cases f⟩,r.ext e⟩
 | st k=>
   have g:=bV e.pre h.1
   obtain⟨b,f,j⟩:=st.obj k a _ g c
   exact⟨b,⟨g,f⟩,j⟩
 | fz k=>
   have g:=bV e.pre h.1
   obtain⟨b,o,f,j⟩:=st.obj k a _ g c
   exact⟨b,⟨g,o,f⟩,j⟩
section
variable{X:Cx}{a b c e:Expr}{pos:Pos}
def kN(f:fc):et:=λg S=>(f g S).bind λ(d,h)=>some ((d,.fr),h)
def KW{f:fc}(h:PE X e (tL (md X) f)):PE X e (tQ (md X) (kN f)):=jf h λz H Q i=>by
 obtain⟨n,m,S,A,t,u,ok,e,q⟩:=i
 obtain⟨⟨d,s⟩,l,e⟩:=aq e
 obtain⟨k,rfl⟩:=bG e
 obtain⟨rfl,rfl⟩:=Prod.mk.inj k
 exact⟨n,m,S,d,s,ok,l,λo a w v x j y p g r=>q _ _ _ _ x j ⟨g,p⟩ r⟩
def pz(S:aA):D->Option (List D×Tag)
 |.tup d=>some (d,.tu)
 | .ref k=>match S[k]? with
   |some (.lst d)=>some (d,.st k)
   |some (.frz d)=>some (d,.fz k)
   |_=>none
 |_=>none
def bF(f:aW):et:=λh S=>(f h S).bind λ(d,g)=>(pz g d).bind λp=>some (p,g)
def DC{M:Md}{ρ:List Addr}{S:aA}{H:Hp}{d:D}{v:V}{ds:List D}{t:Tag}(st:eD M ρ S H)(r:Rel M ρ H d v)(e:pz S d=some (ds,t)):∃a vs,v=.ref a/\xJ M ρ H a vs t/\aK M ρ H ds vs:=by
 cases r with
 |tup h i=>simp only[pz] at e;cases e;exact⟨_,_,rfl,fK.of h,i⟩
 | ref h=>
   simp only[pz] at e
   split at e
   · rename_i q
     cases e
     obtain⟨vs,f,g⟩:=st.obj _ _ _ h q
     exact⟨_,vs,rfl,⟨h,f⟩,g⟩
   · rename_i q
     cases e
     obtain⟨vs,o,f,g⟩:=st.obj _ _ _ h q
     exact⟨_,vs,rfl,⟨h,o,f⟩,g⟩
   · cases e
 |_=>simp only[pz,reduceCtorEq] at e
def Gn{f:aW}(h:PE X e (tD (md X) f)):PE X e (tQ (md X) (bF f)):=jf h λA H Q i=>by
 obtain⟨n,m,S,B,t,u,ok,e,q⟩:=i
 obtain⟨⟨d,s⟩,l,e⟩:=aq e
 obtain⟨⟨k,w⟩,j,e⟩:=aq e
 obtain⟨o,rfl⟩:=bG e
 obtain⟨rfl,rfl⟩:=Prod.mk.inj o
 refine⟨n,m,S,d,s,ok,l,λp v y x g r=> ?_⟩
 obtain⟨a,z,rfl,h1,h2⟩:=DC g r j
 exact q _ _ _ _ x g h1 h2
def yw{f:et}{p:Pos}(o:Gl X "len")(y:X.mg "len"=none)(l:PE X a (tQ (md X) f))(j:starEach [a] X.env= [(false,eval a X.env)]:=by rfl):
  PE X (.Call (.Name "len" p) [a] [] pos) (tD (md X) λg S=>(f g S).bind λ(p,i)=>some (.int p.1.length,i)):=
 jf (iX sX o y PySem.boot_len (cQ l fg j) (he:=j)) λB H Q m=>by
  obtain⟨u,g,S,d,z,ok,e,q⟩:=m
  obtain⟨⟨⟨v,t⟩,i⟩,s,e⟩:=aq e
  obtain⟨rfl,rfl⟩:=bG e
  refine⟨u,g,S,v,t,i,ok,s,λw a k A x n h r=>⟨a,k,rfl,h.sq,?_⟩⟩
  have:=q _ (.int k.length) _ x n (by rw[←r.length];exact .int _)
  exact this
def iZ(f:et):aW:=λd S=>(f d S).bind λ(p,g)=>some (.int p.1.length,g)
def tupQ(f:et):aW:=λd S=>(f d S).bind λ(p,g)=>some (.tup p.1,g)
def Ik{f:et}{p:Pos}(u:Gl X "tuple")(A:X.mg "tuple"=none)(n:PE X a (tQ (md X) f))(k:starEach [a] X.env= [(false,eval a X.env)]:=by rfl)(v:∀i S ds t j,f i S=some ((ds,t),j)->t.isL=true):
  PE X (.Call (.Name "tuple" p) [a] [] pos) (tD (md X) (tupQ f)):=
 jf (m3 qH u A (by rfl) (cQ n fg k) (he:=k)) λF H Q o=>by
  obtain⟨y,i,S,d,j,ok,e,q⟩:=o
  obtain⟨⟨⟨ds,t⟩,B⟩,m,e⟩:=aq e
  obtain⟨rfl,rfl⟩:=bG e
  refine⟨y,i,S,ds,t,B,ok,m,λz a w C x s h r=>⟨a,w,rfl,.inl ⟨h.sqL (v _ _ _ _ _ m),λl g=> ?_⟩⟩⟩
  exact q _ _ _ (x.trans (bx.laid g)) (s.lay g) (.tup aR (r.ext (bx.laid g)))
def Ip{f:fc}:∀g S ds t d,kN f g S=some ((ds,t),d)->t.isL=true:=λg S ds t d e=>by
 obtain⟨⟨h,j⟩,i,e⟩:=aq e
 cases e
 rfl
def lB(f:et):et:=λd S=>(f d S).bind λ(p,g)=>if p.2.isL=true then some (p,g) else none
def Eg{f:et}:∀g S ds t d,lB f g S=some ((ds,t),d)->t.isL=true:=λg S ds t d e=>by
 obtain⟨⟨⟨h,k⟩,j⟩,i,e⟩:=aq e
 dsimp only at e
 split at e <;>cases e
 assumption
def J5{f:et}(h:PE X e (tQ (md X) f)):PE X e (tQ (md X) (lB f)):=jf h λr H Q g=>by
 obtain⟨k,j,S,p,t,o,ok,e,q⟩:=g
 obtain⟨⟨⟨d,m⟩,l⟩,i,e⟩:=aq e
 dsimp only at e
 split at e
 ·obtain⟨n,rfl⟩:=bG e
  obtain⟨rfl,rfl⟩:=Prod.mk.inj n
  exact⟨k,j,S,d,m,l,ok,i,q⟩
 ·cases e
def Fg:List D->Option (List Bool)
 | []=>some []
 |.bl b::r=>(Fg r).bind λd=>some (b::d)
 |_::_=>none
theorem A8{M:Md}{ρ:List Addr}{H:Hp}:∀{ds:List D} {vs:List V} {bs:List Bool},aK M ρ H ds vs->Fg ds=some bs->vs=bs.map V.bl
 | [],_,_,h,e=>by cases h;cases e;rfl
 | d::ds,_,_,h,e=>by
   cases d with
   | bl b=>
     simp only[Fg] at e
     obtain⟨i,f,e⟩:=aq e
     cases e
     cases h with
     | cons h g=>
       cases h
       rw[A8 g f]
       rfl
   |_=>cases e
def Ck(f:et):aW:=λg S=>(f g S).bind λ(p,h)=>if p.2.isL=true then(Fg p.1).bind λd=>some (.bl (d.all id),h) else none
def Kq{f:et}{p:Pos}(j:X.calm=true)(m:Gl X "all")(z:X.mg "all"=none)(i:PE X a (tQ (md X) f))(g:starEach [a] X.env= [(false,eval a X.env)]:=by rfl):
  PE X (.Call (.Name "all" p) [a] [] pos) (tD (md X) (Ck f)):=
 jf (iX (y6 j) m z (by rfl) (cQ i fg g) (he:=g)) λG H Q k=>by
  obtain⟨v,u,S,d,B,ok,e,q⟩:=k
  obtain⟨⟨⟨w,t⟩,A⟩,s,e⟩:=aq e
  dsimp only at e
  split at e
  ·rename_i c
   obtain⟨o,n,e⟩:=aq e
   obtain⟨rfl,rfl⟩:=bG e
   refine⟨v,u,S,w,t,A,ok,s,λy a F C x l h r=>⟨a,o,rfl,?_,q _ _ _ x l (.bl _)⟩⟩
   rw[←A8 r n]
   exact h.sqL c
  ·cases e
def Dq(S:aA)(T:String):D->Option Bool
 |.non=>some (T=="NoneType")
 |.bl _=>some (T=="bool" ||T=="int")
 |.int _=>some (T=="int")
 |.str _=>some (T=="str")
 |.tup _=>some (T=="tuple")
 | .ref k=>match S[k]? with
   |some (.lst _)=>some (T=="list")
   |some (.frz _)=>some (T=="list")
   |some (.dct _)=>some (T=="dict")
   |_=>none
 |.fn _=>none
def GM(K:PySem.W.Frag)(T:String):Prop:=(PySem.W.kitOne K (.type "NoneType") (.type T)=some (T=="NoneType"))/\(PySem.W.kitOne K (.type "bool") (.type T)=some (T=="bool" ||T=="int"))/\(PySem.W.kitOne K (.type "int") (.type T)=some (T=="int"))/\(PySem.W.kitOne K (.type "str") (.type T)=some (T=="str"))∧
 (PySem.W.kitOne K (.type "tuple") (.type T)=some (T=="tuple"))/\(PySem.W.kitOne K (.type "list") (.type T)=some (T=="list"))/\(PySem.W.kitOne K (.type "dict") (.type T)=some (T=="dict"))
def l_(T:String)(f:aW):aW:=λh S=>(f h S).bind λ(d,g)=>(Dq g T d).bind λk=>some (.bl k,g)
def Kl{T:String}{l:Expr}{f:aW}{p:Pos}(Z:GM X.K T)(A:Gl X "isinstance")(U:X.mg "isinstance"=none)(y:PE X a (tD (md X) f))(G:PE X l (tC (.ty T)))(t:starEach [a,l] X.env= [(false,eval a X.env),(false,eval l X.env)]:=by rfl)(j:starEach [l] X.env= [(false,eval l X.env)]:=by rfl):
  PE X (.Call (.Name "isinstance" p) [a,l] [] pos) (tD (md X) (l_ T f)):=
 jf (iX BZ A U boot_isinstance (cQ y (cQ G fg j) (by rw[t,j])) (he:=by rw[t,j]) (hpl:=by rw[j];rfl)) λσ H Q z=>by
  obtain⟨M,I,S,d,S',ok,e,q⟩:=z
  obtain⟨⟨C,Y⟩,F,e⟩:=aq e
  obtain⟨k,i,e⟩:=aq e
  obtain⟨rfl,rfl⟩:=bG e
  obtain⟨W,P,L,N,J,w,B⟩:=Z
  refine⟨M,I,S,C,Y,ok,F,λR v H' x s r=> ?_⟩
  have g:=q _ _ _ x s (.bl _)
  cases r with
  |non=>cases i;exact⟨_,_,_,_,rfl,.non,W,g⟩
  |bl=>cases i;exact⟨_,_,_,_,rfl,.bl _,P,g⟩
  |int=>cases i;exact⟨_,_,_,_,rfl,.int _,L,g⟩
  |str=>cases i;exact⟨_,_,_,_,rfl,.str _,N,g⟩
  |tup h t=>cases i;exact⟨_,_,_,_,rfl,.tup h,J,g⟩
  |fn=>cases i
  | ref h=>
    simp only[Dq] at i
    split at i
    · rename_i n;cases i;obtain⟨u,m,_⟩:=s.obj _ _ _ h n;exact⟨_,_,_,_,rfl,.lst m,w,g⟩
    · rename_i n;cases i;obtain⟨u,o,m,_⟩:=s.obj _ _ _ h n;exact⟨_,_,_,_,rfl,.frz m,w,g⟩
    · rename_i n;cases i;obtain⟨u,m,_⟩:=s.obj _ _ _ h n;exact⟨_,_,_,_,rfl,.dK m,B,g⟩
    · cases i
abbrev D4:=List D->Option D
def BL(M:Md)(r:List V->Hp->VK->Prop)(o:D4):Prop:=∀{f:List Addr} {S:aA} {H:Hp} {h:List D} {d:D} {g:List V} {Q:VK},eD M f S H->aK M f H h g->o h=some d->(∀w,Rel M f H d w->Q w H)->r g H Q
def Ae(o:D4)(f:fc):aW:=λg S=>(f g S).bind λ(i,h)=>(o i).bind λd=>some (d,h)
def E1{r:List V->Hp->VK->Prop}{o:D4}{f:fc}(n:BL (md X) r o)(h:PE X e (IJ r (vA (md X) f))):PE X e (tD (md X) (Ae o f)):=jf h λB H Q j=>by
 obtain⟨u,p,S,d,y,ok,e,q⟩:=j
 obtain⟨⟨s,x⟩,m,e⟩:=aq e
 obtain⟨z,v,e⟩:=aq e
 obtain⟨rfl,rfl⟩:=bG e
 exact⟨u,p,S,s,x,ok,m,λi A H1 t g k=>n g k v λw l=>q i w H1 t g l⟩
def C2:D4
 | [.int i]=>some (.int (if i<0 then -i else i))
 |_=>none
def maxD:D4
 | [.int i,.int j]=>some (.int (if j>i then j else i))
 |_=>none
def minD:D4
 | [.int i,.int j]=>some (.int (if j<i then j else i))
 |_=>none
def intOfD:D4
 | [.int i]=>some (.int i)
 | [.bl k]=>some (.int (if k then 1 else 0))
 |_=>none
def Jf{M:Md}:BL M (λxs H Q=>∃i,xs= [.int i]/\Q (.int (if i<0 then -i else i)) H) C2:=by
 intro j S H xs d g Q h r e q
 unfold C2 at e
 split at e <;>cases e
 cases r with|cons r f=>cases f;cases r;exact⟨_,rfl,q _ (.int _)⟩
def Ez{M:Md}:BL M (λxs H Q=>∃i j,xs= [.int i,.int j]/\Q (.int (if j>i then j else i)) H) maxD:=by
 intro l S H xs d h Q k r e q
 unfold maxD at e
 split at e <;>cases e
 cases r with|cons r f=>cases f with|cons g f=>cases f;cases r;cases g;exact⟨_,_,rfl,q _ (.int _)⟩
def Fh{M:Md}:BL M (λxs H Q=>∃i j,xs= [.int i,.int j]/\Q (.int (if j<i then j else i)) H) minD:=by
 intro l S H xs d h Q k r e q
 unfold minD at e
 split at e <;>cases e
 cases r with|cons r f=>cases f with|cons g f=>cases f;cases r;cases g;exact⟨_,_,rfl,q _ (.int _)⟩
def Gu{M:Md}:BL M (λxs H Q=>(∃i,xs= [.int i]/\Q (.int i) H)\/∃k,xs= [.bl k]/\Q (.int (if k then 1 else 0)) H) intOfD:=by
 intro j S H xs d g Q h r e q
 unfold intOfD at e
 split at e <;>cases e
 ·cases r with|cons r f=>cases f;cases r;exact .inl ⟨_,rfl,q _ (.int _)⟩
 ·cases r with|cons r f=>cases f;cases r;exact .inr ⟨_,rfl,q _ (.int _)⟩
def lF:List D->Option (List V)
 | []=>some []
 |d::r=>(rL d).bind λv=>(lF r).bind λf=>some (v::f)
def pA{d:D}{v:V}(e:rL d=some v):fo v=true:=by
 cases d <;>simp[rL] at e <;>subst e <;>rfl
theorem qp{M:Md}{ρ:List Addr}{H:Hp}:∀{ds:List D} {d vs:List V},aK M ρ H ds d->lF ds=some vs->d=vs/\vs.all fo=true
 |_,_,_,.nil,e=>by cases e;exact⟨rfl,rfl⟩
 | _,_,_,.cons h hs,e=>by
   obtain⟨v,f,e⟩:=aq e
   obtain⟨vs,j,e⟩:=aq e
   cases e
   obtain⟨g,i⟩:=qp hs j
   rw[j9 h f,g]
   exact⟨rfl,by rw[List.all_cons,pA f,i];rfl⟩
def Ad(d:Bool)(f:aW)(g:et):aW:=λh S=>(f h S).bind λ(x,j)=>(g h j).bind λ(p,k)=>(rL x).bind λv=>(lF p.1).bind λi=>some (.bl (if d then !BO v i else BO v i),k)
def wc{f:aW}{t:TE}(j:∀d H Q,tD (md X) f d H Q->t d H Q)(h:PT X e (Bw t)):PT X e (tB (md X) (aO f)):=Ig h λd H Q ⟨l,m,S,k,g,ok,e,q⟩=>
 j _ _ _ ⟨l,m,S,.bl k,g,ok,qf e,λi v o x n r=>by cases r;exact⟨k,rfl,q _ _ x n⟩⟩
def Em{h:Bool}{f:aW}{g:et}:∀j H Q,tD (md X) (Ad h f g) j H Q->DY (JT X.K h) (tD (md X) f) (tQ (md X) g) j H Q:=λj H Q s=>by
 obtain⟨G,m,S,d,P,ok,e,q⟩:=s
 obtain⟨⟨x,p⟩,B,e⟩:=aq e
 obtain⟨⟨⟨L,t⟩,A⟩,y,e⟩:=aq e
 obtain⟨v,o,e⟩:=aq e
 obtain⟨R,w,e⟩:=aq e
 obtain⟨rfl,rfl⟩:=bG e
 refine⟨G,m,S,x,p,ok,B,λl u H1 n k z=>⟨l,m,p,L,t,A,ok.to n k,y,λF a r H2 C i N M=> ?_⟩⟩
 cases j9 z o
 obtain⟨I,J⟩:=qp M w
 subst I
 exact⟨a,r,rfl,N.sq,pA o,J,q _ _ _ (n.trans C) i (.bl _)⟩
def KN{f:aW}{g:et}(d:PE X a (tD (md X) f))(i:PE X b (tQ (md X) g))(h:behindInMarks .In b=false:=by rfl):PT X (.Compare a [.In] [b] pos) (tB (md X) (aO (Ad false f g))):=wc Em (oz zz d i h)
def IB{f:aW}{g:et}(d:PE X a (tD (md X) f))(i:PE X b (tQ (md X) g))(h:behindInMarks .NotIn b=false:=by rfl):PT X (.Compare a [.NotIn] [b] pos) (tB (md X) (aO (Ad true f g))):=wc Em (oz tX d i h)
end
inductive Out where
 |nx (Γ:cE) (S:aA)|bk (Γ:cE) (S:aA)|ct (Γ:cE) (S:aA)|rt (d:D) (S:aA)|rl (ds:List D) (S:aA)
abbrev cG:=cE->aA->Option Out
def sm(M:Md)(ρ:List Addr)(H:Hp)(D:Ends):Out->Prop
 |.nx f g=>∀b e c,bx ρ H b c->Ok M b f g e c->D.nx e c
 |.bk f g=>∀b e c,bx ρ H b c->Ok M b f g e c->D.bk e c
 |.ct f g=>∀b e c,bx ρ H b c->Ok M b f g e c->D.ct e c
 |.rt d g=>∀b v c,bx ρ H b c->eD M b g c->Rel M b c d v->D.rt v c
 |.rl i g=>∀b a h c,bx ρ H b c->eD M b g c->H a=none->a∉b->c a=some (.lst h)->aK M b c i h->D.rt (.ref a) c
def sm.to{M:Md}{ρ d:List Addr}{H H1:Hp}{D:Ends}{o:Out}(h:sm M ρ H D o)(e:bx ρ H d H1):sm M d H1 D o:=by
 cases o with
 |nx=>exact λb c f x ok=>h _ _ _ (e.trans x) ok
 |bk=>exact λb c f x ok=>h _ _ _ (e.trans x) ok
 |ct=>exact λb c f x ok=>h _ _ _ (e.trans x) ok
 |rt=>exact λb v f x g r=>h _ _ _ (e.trans x) g r
 |rl=>exact λb a l f x g j k i r=>h _ _ _ _ (e.trans x) g (e.grow _ j) k i r
def tS(M:Md)(g:cG):TS:=λD c H=>∃b a S o,Ok M b a S c H/\g a S=some o/\sm M b H D o
section
variable{X:Cx}{a b c e:Expr}{pos:Pos}{st:Stmt}{rest body other:List Stmt}
def gD:cG:=λd S=>some (.nx d S)
def vW:oF X [] (tS (md X) gD):=HL CJ λD f H ⟨g,d,S,o,ok,e,q⟩=>by cases e;exact q _ _ _ bx.refl ok
noncomputable def aD(f g:cG):cG:=λh S=>(f h S).bind λo=>match o with
 |.nx d i=>g d i
 |o=>some o
def dt{f g:cG}(l:PS X st (tS (md X) f))(t:oF X rest (tS (md X) g)):oF X (st::rest) (tS (md X) (aD f g)):=HL (Ap l t) λD v H k=>by
 obtain⟨r,n,S,o,ok,e,q⟩:=k
 obtain⟨j,m,e⟩:=aq e
 refine⟨r,n,S,j,ok,m,?_⟩
 cases j with
 |nx h u=>exact λi s H1 p d=>⟨i,h,u,o,d,e,q.to p⟩
 |bk=>cases e;exact q
 |ct=>cases e;exact q
 |rt=>cases e;exact q
 |rl=>cases e;exact q
def g7{f:cG}(d:PS X st (tS (md X) f)):oF X [st] (tS (md X) f):=CN d
def never:cG:=λ_ _=>none
def Io:PS X st (tS (md X) never):=zH BD λD f H ⟨g,d,S,o,ok,e,q⟩=>by cases e
def Cq(f:aW):cG:=λd S=>(f d S).bind λ(_,g)=>some (.nx d g)
def Cb{f:aW}(h:PE X e (tD (md X) f))(g:swapsWith e none pos.line X.env=pure false:=by rfl):PS X (.Expr e pos) (tS (md X) (Cq f)):=zH (DA h g) λD s H i=>by
 obtain⟨l,k,S,o,ok,e,q⟩:=i
 obtain⟨⟨d,n⟩,j,e⟩:=aq e
 cases e
 exact⟨l,k,S,d,n,ok,j,λm v p x st r=>q _ _ _ x (ok.to x st)⟩
noncomputable def cc(f:aW):cG:=λg S=>(f g S).bind λ(d,h)=>some (.rt d h)
def m9{f:aW}(h:PE X e (tD (md X) f)):PS X (.Return (some e) pos) (tS (md X) (cc f)):=zH (AO h) λD m H g=>by
 obtain⟨k,j,S,o,ok,e,q⟩:=g
 obtain⟨⟨d,l⟩,i,e⟩:=aq e
 cases e
 exact⟨k,j,S,d,l,ok,i,q⟩
noncomputable def D3(f:fc):cG:=λg S=>(f g S).bind λ(d,h)=>some (.rl d h)
def JU{f:fc}(h:PE X e (tL (md X) f)):PS X (.Return (some e) pos) (tS (md X) (D3 f)):=zH (AO h) λD m H g=>by
 obtain⟨k,j,S,o,ok,e,q⟩:=g
 obtain⟨⟨d,l⟩,i,e⟩:=aq e
 cases e
 exact⟨k,j,S,d,l,ok,i,q⟩
def gk(c:h_)(f g:cG):cG:=λd S=>(c d S).bind λ(k,h)=>if k=true then f d h else g d h
def Bu{h:h_}{f g:cG}(p:PT X c (tB (md X) h))(n:oF X body (tS (md X) f))(u:oF X other (tS (md X) g)):PS X (.If c body other pos) (tS (md X) (gk h f g)):=zH (Hi p n u) λD v H r=>by
 obtain⟨t,l,S,o,ok,e,q⟩:=r
 obtain⟨⟨k,m⟩,s,e⟩:=aq e
 refine⟨t,l,S,k,m,ok,s,λi H1 j d=> ?_⟩
 dsimp only at e
 split at e
 ·rename_i c
  rw[Qhq c]
  exact⟨i,l,m,o,ok.to j d,e,q.to j⟩
 ·rename_i c
  rw[Quq c]
  exact⟨i,l,m,o,ok.to j d,e,q.to j⟩
abbrev j8:=D->cE->aA->Option (cE×aA)
abbrev nR:=List D->cE->aA->Option (cE×aA)
def tG(M:Md)(g:j8):TG:=λv n H Q=>∃j m S d i l,Ok M j m S n H/\Rel M j H d v/\g d m S=some (i,l)/\∀f h k,bx j H f k->Ok M f i l h k->Q h k
def Iy(M:Md)(g:nR):Dc:=λo n H Q=>∃i m S l h k,Ok M i m S n H/\aK M i H l o/\g l m S=some (h,k)/\∀d f j,bx i H d j->Ok M d h k f j->Q f j
def Jc{t t':TG}(h:PG X e t)(w:∀v f H Q,t' v f H Q->t v f H Q):PG X e t':=λd s f H v u Q I r q=>h d s f H v u Q I r (w _ _ _ _ q)
def Ht{g:List Expr}{t t':Dc}(h:Cp X g t)(w:∀v f H Q,t' v f H Q->t v f H Q):Cp X g t':=λd s f H v u Q I r q=>h d s f H v u Q I r (w _ _ _ _ q)
def bK(i:Nat):j8:=λd f S=>some (f.set i (some d),S)
def Cn{i:Nat}(h:PG X e (o6 i)):PG X e (tG (md X) (bK i)):=Jc h λv k H Q f=>by
 obtain⟨m,l,S,d,g,j,ok,r,e,q⟩:=f
 cases e
 exact q _ _ _ bx.refl ⟨ok.en.set r,ok.st⟩
def c7:nR:=λd f S=>match d with
 | []=>some (f,S)
 |_=>none
def aE(f:j8)(g:nR):nR:=λi j S=>match i with
 |d::r=>(f d j S).bind λ(h,k)=>g r h k
 | []=>none
def Bq:Cp X [] (Iy (md X) c7):=Ht CH λk i H Q d=>by
 obtain⟨l,j,S,h,f,g,ok,r,e,q⟩:=d
 cases r with
 |nil=>cases e;exact⟨rfl,q _ _ _ bx.refl ok⟩
 |cons=>cases e
def lQ{h:List Expr}{f:j8}{g:nR}(t:PG X e (tG (md X) f))(B:Cp X h (Iy (md X) g))(p:(assignEach (e::h) X.env).map (·.2)=assign e X.env::(assignEach h X.env).map (·.2):=by rfl):Cp X (e::h) (Iy (md X) (aE f g)):=
 Ht (Ca t B p) λF G H Q s=>by
  obtain⟨z,w,S,I,j,o,ok,r,e,q⟩:=s
  cases r with
  |nil=>cases e
  | cons r C=>
    obtain⟨⟨d,n⟩,u,e⟩:=aq e
    refine⟨_,_,rfl,z,w,S,_,d,n,ok,r,u,λl A H1 m k=>⟨l,d,n,_,j,o,k,C.ext m,e,λy x H2 v i=>q _ _ _ (m.trans v) i⟩⟩
def iP(g:nR):j8:=λd h S=>match d with
 |.tup f=>g f h S
 |_=>none
def nG(n:Nat)(g:nR):nR:=λd f S=>if d.length=n then g d f S else none
def D6{f:List Expr}{k:Nat}{g:nR}{n:Nat}(o:X.calm=true)(h:Cp X f (Iy (md X) g))(s:(assignEach f X.env).length=n:=by rfl)(j:(assignEach f X.env).findIdx? (·.1)=none:=by rfl):
  PG X (.Tuple f k pos) (tG (md X) (iP (nG n g))):=Jc (FA o h s j) λv u H Q ⟨t,p,S,d,i,m,ok,r,e,q⟩=>by
 cases r with
 | tup h l=>
   simp only[iP,nG] at e
   split at e
   · rename_i c
     exact⟨_,_,rfl,fK.of h,by rw[←l.length];exact c,t,p,S,_,i,m,ok,l,e,q⟩
   · cases e
 |_=>cases e
def oI(f:aW)(g:j8):cG:=λi S=>(f i S).bind λ(d,j)=>(g d i j).bind λ(h,k)=>some (.nx h k)
def Gv{f:aW}{g:j8}:∀D h H,tS (md X) (oI f g) D h H->B4 (tD (md X) f) (tG (md X) g) D h H:=λD h H r=>by
 obtain⟨A,m,S,o,ok,e,q⟩:=r
 obtain⟨⟨d,p⟩,w,e⟩:=aq e
 obtain⟨⟨l,u⟩,s,e⟩:=aq e
 cases e
 exact⟨A,m,S,d,p,ok,w,λj v H1 n i t=>⟨j,m,p,d,l,u,ok.to n i,t,s,λz y H2 x k=>q _ _ _ (n.trans x) k⟩⟩
def D1{d:Expr}{f:aW}{g:j8}(he:PE X e (tD (md X) f))(j:PG X d (tG (md X) g))(h:swapsWithSole [d] e pos.line X.env=pure false:=by rfl)(i:swappedStores [d] e X.env=pure none:=by rfl)
  (k:(assignEach [d] X.env).map (·.2)= [assign d X.env]:=by rfl):PS X (.Assign [d] e pos) (tS (md X) (oI f g)):=zH (Fw he j h i k) Gv
noncomputable def bq(i:Nat)(f:aW):cG:=λg S=>(f g S).bind λ(d,h)=>some (.nx (g.set i (some d)) h)
def GD{i:Nat}{f:aW}(h:PS X st (B4 (tD (md X) f) (o6 i))):PS X st (tS (md X) (bq i f)):=zH h λD t H k=>by
 obtain⟨p,n,S,o,ok,e,q⟩:=k
 obtain⟨⟨d,s⟩,m,e⟩:=aq e
 cases e
 exact⟨p,n,S,d,s,ok,m,λr v H1 j g l=>q _ _ _ j ⟨(ok.en.ext j).set l,g⟩⟩
abbrev rN:=cE->aA->Option ((List D×(aA->Prop))×aA)
def Walks(M:Md)(J:It)(ρ:List Addr)(H:Hp)(ds:List D)(W:aA->Prop):Prop:=∀(i:Nat) (f:List Addr) (j:aA) (h:Hp),bx ρ H f h->eD M f j h->W j→
 (∀d,ds[i]?=some d->J.go i h/\∀x g,J.yld i h x g->bx f h f g/\eD M f j g/\Rel M f g d x)/\(i=ds.length->J.stop i h)
def tI(M:Md)(f:rN):TI:=λl H R=>∃k j S i W h,Ok M k j S l H/\f j S=some ((i,W),h)/\∀d J g,bx k H d g->eD M d h g->Walks M J d g i W->R J g
def G7{g:Expr}{t t':TI}(h:PI X g e t)(w:∀f H R,t' f H R->t f H R):PI X g e t':=λd s f H R I q=>h d s f H R I (w _ _ _ q)
def FQ{z l:Expr}{r:TE}(t:PE X l r):PI X z l (λm H R=>r m H λx H1=>∃a,x=.ref a/\((∃xs,gJ X.K H1 a xs)/\R (Ka X.K a) H1\/(∃xs,fK X.K H1 a xs)/\R (J9 X.K a) H1)):=by
 intro g s m H R I h
 refine cg (t g s m H _ I h) λv d u=> ?_
 obtain⟨x,H1,f,w,j⟩:=u
 obtain⟨a,e,j⟩:=j
 subst e
 cases w
 rcases j with⟨⟨xs,k⟩,q⟩|⟨⟨xs,k⟩,q⟩
 ·obtain⟨i,y,p,A⟩:=f.list k
  refine wpAny_pyIter_list p.isList ?_
  refine⟨d.heap.objs.size,[d.heap.objs.size],_,_,H1,rfl,f.kept (t':=d.toks) λb o e=>Qcq _ e,zi a _,⟨_,Qrq _ rfl,rfl,rfl⟩,λb n=> ?_,q⟩
  have e:b=d.heap.objs.size:=by simpa using n
  subst e
  exact f.fpOk (Qmq _) (f.hok.fresh (Qmq _))
 ·obtain⟨i,y,p,A⟩:=f.tuple k
  refine wpAny_pyIter_tuple (show d.heap.IsTuple a i.toArray from p) ?_
  refine⟨d.heap.objs.size,[d.heap.objs.size],_,_,H1,rfl,f.kept (t':=d.toks) λb o e=>Qcq _ e,xn a _,⟨_,Qrq _ rfl,rfl,rfl⟩,λb n=> ?_,q⟩
  have e:b=d.heap.objs.size:=by simpa using n
  subst e
  exact f.fpOk (Qmq _) (f.hok.fresh (Qmq _))
def qF(f:et):rN:=λg S=>(f g S).bind λ(p,h)=>some ((p.1,λd=>p.2.stays d p.1),h)
def Hz{P l:Expr}{f:et}(G:PE X l (tQ (md X) f)):PI X P l (tI (md X) (qF f)):=G7 (FQ G) λZ H R F=>by
 obtain⟨M,L,S,ds,W,U,ok,e,q⟩:=F
 obtain⟨⟨⟨p,t⟩,Q⟩,K,e⟩:=aq e
 obtain⟨I,rfl⟩:=bG e
 obtain⟨rfl,rfl⟩:=Prod.mk.inj I
 refine⟨M,L,S,p,t,Q,ok,K,λN a C Y x st h r=>⟨a,rfl,?_⟩⟩
 cases c:t.isL with
 | true=>
   refine .inl ⟨⟨C,h.sqL c⟩,q _ _ _ x st λi y J H2 s j w=> ?_⟩
   obtain⟨g,B,n⟩:=h.to r s j w
   have k:=B.sqL c
   refine⟨λd A=> ?_,λu=>⟨g,k,by rw[u,n.length];exact Qmq _⟩⟩
   obtain⟨v,o,z⟩:=n.get A
   refine⟨⟨g,v,k,o⟩,λx H3 m=> ?_⟩
   obtain⟨rfl,m⟩:=m
   have:=m g k
   rw[o] at this
   cases this
   exact⟨bx.refl,j,z⟩
 | false=>
   refine .inr ⟨⟨C,h.sqT c⟩,q _ _ _ x st λi y J H2 s j w=> ?_⟩
   obtain⟨g,B,n⟩:=h.to r s j w
   have k:=B.sqT c
   refine⟨λd A=> ?_,λu=>⟨g,k,by rw[u,n.length];exact Qmq _⟩⟩
   obtain⟨v,o,z⟩:=n.get A
   refine⟨⟨g,v,k,o⟩,λx H3 m=> ?_⟩
   obtain⟨rfl,m⟩:=m
   have:=m g k
   rw[o] at this
   cases this
   exact⟨bx.refl,j,z⟩
def i3(lo hi:Int):List D:=(List.range (hi-lo).toNat).map λ(i:Nat)=>D.int (lo+(i:Int))
def wY(f:aW):rN:=λg S=>(f g S).bind λ(d,h)=>match d with
 |.int j=>if -(2^62)<=j/\j<2^62 then some ((i3 0 j,λ_=>True),h) else none
 |_=>none
def z_{M:Md}{ρ:List Addr}{H:Hp}{lo hi:Int}:Walks M (Il lo (hi-lo).toNat) ρ H (i3 lo hi) (λ_=>True):=λi m o H2 p g w=>by
 unfold i3
 refine⟨λd j=> ?_,λhi=>by rw[lQm,QVq] at hi;exact Nat.le_of_eq hi.symm⟩
 rw[gQm] at j
 obtain⟨k,n,rfl⟩:=oQm.mp j
 have f:=(gQs.mp n)
 obtain⟨f,h⟩:=f
 rw[List.getElem_range] at h
 subst h
 rw[QVq] at f
 refine⟨f,λx H3 l=> ?_⟩
 obtain⟨rfl,rfl⟩:=l
 exact⟨bx.refl,g,.int _⟩
def AS{u a:Expr}{f:aW}{p:Pos}(m:Gl X "range")(v:X.mg "range"=none)(k:PE X a (tD (md X) f))(h:starEach [a] X.env= [(false,eval a X.env)]:=by rfl):PI X u (.Call (.Name "range" p) [a] [] pos) (tI (md X) (wY f)):=
 G7 (yX m v (aF k b_ h) h) λB H R l=>by
  obtain⟨ρ,t,S,C,W,z,ok,e,q⟩:=l
  obtain⟨⟨d,y⟩,s,e⟩:=aq e
  dsimp only at e
  split at e
  ·rename_i j
   split at e
   ·rename_i i
    obtain⟨o,rfl⟩:=bG e
    obtain⟨rfl,rfl⟩:=Prod.mk.inj o
    refine⟨ρ,t,S,[.int j],y,ok,by unfold ax aw;rw[s];rfl,λg A n x st r=> ?_⟩
    cases r with
    | cons r w=>
      cases w
      cases r
      refine⟨j,rfl,i.1,i.2,q _ _ _ x st ?_⟩
      have:=z_ (M:=md X) (ρ:=g) (H:=n) (lo:=0) (hi:=j)
      rw[Int.sub_zero] at this
      exact this
   ·cases e
  ·cases e
open Classical in
def forL(g:j8)(b:cG)(W:aA->Prop):List D->cE->aA->Option Out
 | [],Γ,S=>if W S then some (.nx Γ S) else none
 |d ::ds,Γ,S=>if W S then(g d Γ S).bind λ(i,j)=>(b i j).bind λo=>match o with
    |.nx f h=>forL g b W ds f h
    |.ct f h=>forL g b W ds f h
    |.bk f h=>some (.nx f h)
    |.rt x h=>some (.rt x h)
    |.rl x h=>some (.rl x h)
  else none
def kG(i:rN)(g:j8)(b:cG):cG:=λd S=>(i d S).bind λ(p,f)=>forL g b p.2 p.1 d f
def BR{P k:Expr}{i:rN}{g:j8}{f:cG}(hp:PassesOwn (model X.prog X.w) X.A X.env X.xe)(hc:X.calm=true)(hi:PI X P k (tI (md X) i))(hg:PG X P (tG (md X) g))(hb:oF X body (tS (md X) f))
  (hs:∀x,foldedSetIterable k X.env x=pure x:=by intro _;rfl):PS X (.For P k body [] pos) (tS (md X) (kG i g f)):=zH (Et hp hc hi hg hb hs) λD σ H ⟨ρ,Γ,S,o,ok,e,q⟩=>by
 obtain⟨⟨⟨h,W⟩,S1⟩,e1,e⟩:=aq e
 refine⟨ρ,Γ,S,h,W,S1,ok,e1,λu J H1 x1 N wk=> ?_⟩
 have M:=q.to x1
 have U:=ok.to x1 N
 refine⟨λi m l z=>m=h.length-i/\i<=h.length/\∃d t B,bx u H1 d z/\Ok (md X) d t B l z/\forL g f W (h.drop i) t B=some o,⟨h.length,by simp,Nat.zero_le _,u,Γ,S1,bx.refl,U,e⟩,?_⟩
 rintro i m a2 H2 ⟨rfl,hi,d,t,B,x2,ok2,e2⟩
 by_cases v:i<h.length
 ·have hd:h[i]?=some h[i]:=gQe v
  rw[QWq v] at e2
  unfold forL at e2
  split at e2
  ·rename_i w
   obtain⟨w1,w2⟩:=wk i d B H2 x2 ok2.st w
   obtain⟨go,R⟩:=w1 _ hd
   refine .inr ⟨go,λl z=>∃p r L,bx u H1 p z/\Ok (md X) p r L l z/\forL g f W (h.drop (i+1)) r L=some o,λl z ⟨p,r,L,h1,h2,h3⟩=>⟨h.length-(i+1),by omega,rfl,v,p,r,L,h1,h2,h3⟩,λx H3 hy=> ?_⟩
   obtain⟨x3,Y,r3⟩:=R x H3 hy
   obtain⟨⟨C,S4⟩,e4,e5⟩:=aq e2
   refine⟨d,t,B,_,C,S4,ok2.to x3 Y,r3,e4,λQ a1 H4 x4 Z=> ?_⟩
   obtain⟨o5,e6,K⟩:=aq e5
   have I:=(x2.trans x3).trans x4
   refine⟨Q,C,S4,o5,Z,e6,?_⟩
   cases o5 with
   |nx s y=>exact λn F H6 G j=>⟨n,s,y,I.trans G,j,K⟩
   |ct s y=>exact λn F H6 G j=>⟨n,s,y,I.trans G,j,K⟩
   |bk s y=>cases K;exact λn F H6 G j=>M _ _ _ (I.trans G) j
   |rt d6 y=>cases K;exact M.to I
   |rl d6 y=>cases K;exact M.to I
  ·cases e2
 ·have e3:i=h.length:=by omega
  subst e3
  rw[List.drop_length] at e2
  unfold forL at e2
  split at e2
  ·rename_i w
   cases e2
   obtain⟨w1,w2⟩:=wk h.length d B H2 x2 ok2.st w
   exact .inl ⟨w2 rfl,M _ _ _ x2 ok2⟩
  ·cases e2
end
section
variable{M:Md}{ρ:List Addr}{H:Hp}{b:Addr}{us ws:List V}
mutual
theorem Rel.off(a:H b=some (.lst us)):∀{d:D} {v:V},Rel M ρ H d v->Rel M ρ (upd H b (.lst ws)) d v
 |_,_,.non=>.non
 |_,_,.bl x=>.bl x
 |_,_,.int i=>.int i
 |_,_,.str x=>.str x
 |_,_,.tup h hs=>.tup (by rw[aM (AM h a (by intro z;cases z))];exact h) (aK.off a hs)
 |_,_,.ref h=>.ref h
 |_,_,.fn h=>.fn h
theorem aK.off(a:H b=some (.lst us)):∀{ds:List D} {vs:List V},aK M ρ H ds vs->aK M ρ (upd H b (.lst ws)) ds vs
 |_,_,.nil=>.nil
 |_,_,.cons h hs=>.cons (Rel.off a h) (aK.off a hs)
end
theorem eD.off{S:aA}(st:eD M ρ S H)(f:H b=some (.lst us))(n:b∉ρ):eD M ρ S (upd H b (.lst ws)):=⟨st.len,st.nd,λk a o j m=>by
 have q:=st.obj k a o j m
 have e:a≠b:=λz=>n (z▸mQg j)
 cases o with
 |lst l=>obtain⟨g,d,c⟩:=q;exact⟨g,by rw[aM e];exact d,c.off f⟩
 |frz l=>obtain⟨g,o,d,c⟩:=q;exact⟨g,o,by rw[aM e];exact d,c.off f⟩
 |dct i=>obtain⟨h,d,c⟩:=q;exact⟨h,by rw[aM e];exact d,c.imp λ_ _ r=>r.off f⟩
 |fdc i=>obtain⟨h,o,d,c⟩:=q;exact⟨h,o,by rw[aM e];exact d,c.imp λ_ _ r=>r.off f⟩⟩
def En.off{c:cE}{a:L2.St}(h:En M ρ H c a)(g:H b=some (.lst us)):En M ρ (upd H b (.lst ws)) c a:=⟨h.len,λi d q=>by obtain⟨v,e,f⟩:=h.get i d q;exact⟨v,e,f.off g⟩⟩
def bx.off{d:List Addr}{f:Hp}(e:bx d f ρ H)(g:f b=none)(u:HO):bx d f ρ (upd H b u):=⟨e.pre,e.new,λa o h c=>by rw[aM (dH h g)];exact e.keep a o h c,λa h=>by
 by_cases z:a=b
 ·subst z;exact g
 ·rw[aM z] at h;exact e.grow a h⟩
end
def lO(js:List (Option Nat))(a:cE):cE:=js.map λo=>o.bind λj=>a.getD j none
def En.sig{M:Md}{ρ:List Addr}{H:Hp}{b:cE}{c:L2.St}(js:List (Option Nat))(h:En M ρ H b c):En M ρ H (lO js b) (j3 js c) where
 len:=by unfold lO j3;rw[lQm,lQm]
 get:=λi d q=>by
  unfold lO at q
  unfold j3
  rw[gQm] at q⊢
  cases e:js[i]? with
  |none=>rw[e] at q;cases q
  | some o=>
    rw[e] at q
    cases o with
    |none=>cases q
    | some j=>
      have a:b.getD j none=some d:=QdQ q
      have g:b[j]?=some (some d):=by
        rw[Qlq] at a
        cases z:b[j]? with
        |none=>rw[z] at a;cases a
        |some y=>rw[z] at a;exact congrArg some a
      obtain⟨v,f,k⟩:=h.get j d g
      refine⟨v,?_,k⟩
      show some (c.getD j none)=some (some v)
      rw[Qlq,f]
      rfl
open Classical in
def jR(g:j8)(t:h_)(f:aW)(W:aA->Prop):List D->cE->aA->List D->Option (List D×aA)
 | [],Γ,S,acc=>if W S then some (acc,S) else none
 |d ::ds,Γ,S,acc=>if W S then(g d Γ S).bind λ(a,e)=>(t a e).bind λ(k,b)=>
    if k=true then(f a b).bind λ(y,c)=>if acc.length<sizeLine then jR g t f W ds a c (acc++ [y]) else none
    else jR g t f W ds a b acc
  else none
def dm(js:List (Option Nat))(i:rN)(g:j8)(t:h_)(f:aW):fc:=λa S=>(i a S).bind λ(p,b)=>jR g t f p.2 p.1 (lO js a) b []
section
variable{M:Md}
def Fe{js:List (Option Nat)}{i:rN}{g:j8}{t:h_}{f:aW}:∀Y H Q,tL M (dm js i g t f) Y H Q->Eo js (tI M i) (tG M g) (tB M t) (tD M f) Y H Q:=λY H Q qq=>by
 obtain⟨ρ,Γ,S,rs,S',ok,e,q⟩:=qq
 obtain⟨⟨⟨j,W⟩,S1⟩,e1,e⟩:=aq e
 refine⟨ρ,Γ,S,j,W,S1,ok,e1,λn J H1 X N wk D K=> ?_⟩
 have n1:D∉n:=dk X N K
 have a6:Ok M n (lO js Γ) S1 (j3 js Y) (upd H1 D (.lst [])):=⟨((ok.en.ext X).ext (bx.laid K)).sig js,N.lay K⟩
 refine⟨λi m o d=>m=j.length-i/\i<=j.length/\∃a B L b h,bx n H1 a d/\Ok M a B L o d/\D∉a/\d D=some (.lst h)/\aK M a d b h/\jR g t f W (j.drop i) B L b=some (rs,S'),
  ⟨j.length,by simp,Nat.zero_le _,n,_,S1,[],[],bx.laid K,a6,n1,aR,.nil,e⟩,?_⟩
 rintro i m a9 H2 ⟨rfl,hi,a,B,L,b,h,x2,ok2,n2,hD2,racc,e2⟩
 by_cases I:i<j.length
 ·have hd:j[i]?=some j[i]:=gQe I
  rw[QWq I] at e2
  unfold jR at e2
  split at e2
  ·rename_i w
   obtain⟨w1,w2⟩:=wk i a L H2 x2 ok2.st w
   obtain⟨go,a5⟩:=w1 _ hd
   refine .inr ⟨go,λo d=>∃c r s b h,bx n H1 c d/\Ok M c r s o d/\D∉c/\d D=some (.lst h)/\aK M c d b h/\jR g t f W (j.drop (i+1)) r s b=some (rs,S'),
    λo d ⟨c,r,s,b,h,h1,h2,h3,h4,h5,h6⟩=>⟨j.length-(i+1),by omega,rfl,I,c,r,s,b,h,h1,h2,h3,h4,h5,h6⟩,λx H3 hy=> ?_⟩
   obtain⟨x3,a7,r3⟩:=a5 x H3 hy
   obtain⟨⟨l,S4⟩,e4,e5⟩:=aq e2
   refine⟨a,B,L,_,l,S4,ok2.to x3 a7,r3,e4,λa4 a8 H4 x4 u=> ?_⟩
   obtain⟨⟨k,S5⟩,e6,e7⟩:=aq e5
   refine⟨a4,l,S4,k,S5,u,e6,λP H5 Z R=> ?_⟩
   have A:=(x3.trans x4).trans Z
   have C:∀{c d},bx a H2 c d->d D=some (.lst h)/\D∉c:=λ{c d} x=>⟨x.keep _ _ hD2 (.inl n2),λm=>(x.new _ m).elim n2 λz=>by rw[z] at hD2;cases hD2⟩
   dsimp only at e7⊢
   split at e7
   ·rename_i ck
    rw[Qhq ck]
    obtain⟨⟨y,S6⟩,e8,U⟩:=aq e7
    refine⟨P,l,S5,y,S6,u.to Z R,e8,λa3 v H6 x6 a1 r6=> ?_⟩
    have F:=A.trans x6
    obtain⟨p,n6⟩:=C F
    have G:=racc.ext F
    dsimp only at U
    split at U
    ·rename_i cl
     refine⟨h,p,by rw[←racc.length];exact cl,a3,l,S6,b++ [y],h++ [v],(x2.trans F).off K _,⟨((u.en.ext Z).ext x6).off p,a1.off p n6⟩,n6,aR,(G.append (.cons r6 .nil)).off p,U⟩
    ·cases U
   ·rename_i ck
    rw[Quq ck]
    obtain⟨a2,n5⟩:=C A
    exact⟨P,l,S5,b,h,x2.trans A,u.to Z R,n5,a2,racc.ext A,e7⟩
  ·cases e2
 ·have e3:i=j.length:=by omega
  subst e3
  rw[List.drop_length] at e2
  unfold jR at e2
  split at e2
  ·rename_i w
   obtain⟨rfl,rfl⟩:=bG e2
   obtain⟨w1,w2⟩:=wk j.length a L H2 x2 ok2.st w
   exact .inl ⟨w2 rfl,q a D h H2 (X.trans x2) ok2.st (X.grow _ K) n2 hD2 racc⟩
  ·cases e2
end
section
variable{X:Cx}{a b c e:Expr}{pos:Pos}{st:Stmt}{rest body other:List Stmt}
def dS:h_:=λ_ S=>some (true,S)
def HY{f:List Expr}{t t':TT}(h:nZ X f t)(w:∀g H Q,t' g H Q->t g H Q):nZ X f t':=λd s g H Q I q=>h d s g H Q I (w _ _ _ q)
def Kv:nZ X [] (tB (md X) dS):=HY EM λg H Q ⟨h,f,S,k,d,ok,e,q⟩=>by cases e;exact q _ _ bx.refl ok.st
def KD{f:h_}(d:PT X c (tB (md X) f)):nZ X [c] (tB (md X) f):=E8 d
def E_{N:List Str}{js:List (Option Nat)}{d:Scope}{l:List (Str×Addr)}{m h k:Expr}{j:List Expr}{i:rN}{g:j8}{t:h_}{f:aW}
  (S:aX X N js d l) (n:X.calm=true) (hi:PI X m h (tI (md X) i))
  (p:∀C s H fp,PG (aJ X N d l C s H fp) m (tG (md X) g)) (q:∀C s H fp,nZ (aJ X N d l C s H fp) j (tB (md X) t)) (he:∀C s H fp,PE (aJ X N d l C s H fp) k (tD (md X) f))
  (o:∀x,foldedSetIterable h X.env x=pure x:=by intro _;rfl):PE X (.ListComp k [⟨m,h,j,0⟩] d pos) (tL (md X) (dm js i g t f)):=jf (C_ S n hi p q he o) Fe
def Bt(c:h_)(b:cG):Nat->cE->aA->Option Out
 |0,_,_=>none
 |n +1,Γ,S=>(c Γ S).bind λ(k,g)=>if k=true then(b Γ g).bind λo=>match o with
    |.nx d f=>Bt c b n d f
    |.ct d f=>Bt c b n d f
    |.bk d f=>some (.nx d f)
    |.rt x f=>some (.rt x f)
    |.rl x f=>some (.rl x f)
  else some (.nx Γ g)
def xW{h:h_}{f:cG}(n:Nat)(Y:PassesOwn (model X.prog X.w) X.A X.env X.xe)(Q:PT X c (tB (md X) h))(hb:oF X body (tS (md X) f)):PS X (.While c body [] pos) (tS (md X) (Bt h f n)):=zH (Bb Y Q hb) λD σ H R=>by
 obtain⟨I,Z,S,o,ok,e,q⟩:=R
 refine⟨λm p u=>∃g d t,bx I H g u/\Ok (md X) g d t p u/\Bt h f m d t=some o,⟨n,I,Z,S,bx.refl,ok,e⟩,?_⟩
 rintro m a1 H1 ⟨K,B,S1,x1,y,i⟩
 cases m with
 |zero=>cases i
 | succ m=>
   unfold Bt at i
   obtain⟨⟨k,M⟩,W,i⟩:=aq i
   refine⟨K,B,S1,k,M,y,W,λG H2 N F=> ?_⟩
   dsimp only at i⊢
   have C:=y.to N F
   have j:=x1.trans N
   split at i
   · rename_i J
     rw[Qhq J]
     obtain⟨L,e3,i⟩:=aq i
     refine⟨λp u=>∃g d t,bx I H g u/\Ok (md X) g d t p u/\Bt h f m d t=some o,λp u ⟨g,d,t,U,h2,h3⟩=>⟨m,Nat.lt_succ_self _,g,d,t,U,h2,h3⟩,G,B,M,L,C,e3,?_⟩
     cases L with
     |nx s v=>exact λr x P z l=>⟨r,s,v,j.trans z,l,i⟩
     |ct s v=>exact λr x P z l=>⟨r,s,v,j.trans z,l,i⟩
     |bk s v=>cases i;exact λr x P z l=>q _ _ _ (j.trans z) l
     |rt d6 v=>cases i;exact q.to j
     |rl d6 v=>cases i;exact q.to j
   · rename_i J
     rw[Quq J]
     cases i
     exact q _ _ _ j C
end
inductive Res where
 |d (x:D)|l (ds:List D)
abbrev cY:=List D->aA->Option (Res×aA)
def FJ(M:Md)(ρ:List Addr)(H b:Hp)(v:V):Res->Prop
 |.d x=>Rel M ρ b x v
 |.l e=>∃a c,v=.ref a/\H a=none/\a∉ρ/\b a=some (.lst c)/\aK M ρ b e c
def d0(M:Md)(n:Nat)(F:cY):Sp:=λf H Q _=>∃d S c r e,c.length=n/\aK M d H c f/\eD M d S H/\F c S=some (r,e)/\∀a v b,bx d H a b->eD M a e b->FJ M a H b v r->Q v b
mutual
def bB(m:Nat):D->Bool
 |.ref k=>decide (k<m)
 |.tup a=>bo m a
 |_=>true
def bo(m:Nat):List D->Bool
 | []=>true
 |d::ds=>bB m d&&bo m ds
end
def Dx(m:Nat):O->Bool
 |.lst b=>bo m b
 |.frz b=>bo m b
 |.dct a=>bo m (a.map (·.2))
 |.fdc a=>bo m (a.map (·.2))
section
variable{M:Md}{ρ ρ':List Addr}{H:Hp}
mutual
theorem Rel.cut(e:ρ <+: ρ'):∀{d:D} {v:V},Rel M ρ' H d v->bB ρ.length d=true->Rel M ρ H d v
 |_,_,.non,_=>.non
 |_,_,.bl x,_=>.bl x
 |_,_,.int i,_=>.int i
 |_,_,.str x,_=>.str x
 |_,_,.tup h hs,b=>.tup h (aK.cut e hs (by simpa [bB] using b))
 | _,_,.ref (k:=k) (a:=a) h,b=>.ref (by
   obtain⟨t,rfl⟩:=e
   have c:k<ρ.length:=by simpa [bB] using b
   rwa [QHq c] at h)
 |_,_,.fn h,_=>.fn h
theorem aK.cut(e:ρ <+: ρ'):∀{ds:List D} {vs:List V},aK M ρ' H ds vs->bo ρ.length ds=true->aK M ρ H ds vs
 |_,_,.nil,_=>.nil
 | _,_,.cons h hs,b=>by
   have a:=b
   simp only[bo,QDq,QCq] at a
   exact .cons (Rel.cut e h a.1) (aK.cut e hs a.2)
end
theorem bu.cut(e:ρ <+: ρ'):∀{l:List (Key×D)} {kv:List (Key×V)},bu M ρ' H l kv->bo ρ.length (l.map (·.2))=true->bu M ρ H l kv
 | [],_,h,_=>h
 | (_,_)::_,_,⟨v,t,q,h,hs⟩,b=>by
   have a:=b
   simp only[bo,QDq,QCq] at a
   exact⟨v,t,q,h.cut e a.1,bu.cut e hs a.2⟩
theorem lD.cut{a:Addr}{o:O}(e:ρ <+: ρ')(h:lD M ρ' H a o)(b:Dx ρ.length o=true):lD M ρ H a o:=by
 cases o with
 |lst j=>obtain⟨g,c,d⟩:=h;exact⟨g,c,d.cut e b⟩
 |frz j=>obtain⟨g,o,c,d⟩:=h;exact⟨g,o,c,d.cut e b⟩
 |dct f=>obtain⟨i,c,d⟩:=h;exact⟨i,c,d.cut e b⟩
 |fdc f=>obtain⟨i,o,c,d⟩:=h;exact⟨i,o,c,d.cut e b⟩
mutual
theorem Rel.low:∀{d:D} {v:V},Rel M ρ H d v->bB ρ.length d=true
 |_,_,.non=>rfl
 |_,_,.bl x=>rfl
 |_,_,.int i=>rfl
 |_,_,.str x=>rfl
 |_,_,.tup h hs=>by simp only[bB];exact aK.low hs
 |_,_,.ref h=>by simp only[bB];exact Qeq (gQs.mp h).1
 |_,_,.fn h=>rfl
theorem aK.low:∀{ds:List D} {vs:List V},aK M ρ H ds vs->bo ρ.length ds=true
 |_,_,.nil=>rfl
 |_,_,.cons h hs=>by simp only[bo];rw[Rel.low h,aK.low hs];rfl
end
theorem bu.low:∀{l:List (Key×D)} {kv:List (Key×V)},bu M ρ H l kv->bo ρ.length (l.map (·.2))=true
 | [],_,_=>rfl
 |(_,_)::_,_,⟨v,t,q,h,hs⟩=>by simp only[QDq,bo];rw[h.low,bu.low hs];rfl
theorem lD.low{a:Addr}{o:O}(h:lD M ρ H a o):Dx ρ.length o=true:=by
 cases o with
 |lst e=>obtain⟨f,d,b⟩:=h;exact b.low
 |frz e=>obtain⟨f,o,d,b⟩:=h;exact b.low
 |dct c=>obtain⟨g,d,b⟩:=h;exact b.low
 |fdc c=>obtain⟨g,o,d,b⟩:=h;exact b.low
end
def lR(S a:aA):Prop:=S.length<=a.length/\∀k o,k<S.length->a[k]?=some o->S[k]?=some o\/Dx S.length o=true
open Classical in
def settle(S:aA)(d:D)(a:aA):Option (Res×aA):=if lR S a then match d with
  | .ref k=>if k<S.length then some (.d (.ref k),a.take S.length) else match a[k]? with
    |some (.lst ds)=>if bo S.length ds=true then some (.l ds,a.take S.length) else none
    |_=>none
  |d=>if bB S.length d=true then some (.d d,a.take S.length) else none
 else none
open Classical in
def eC(S:aA)(ds:List D)(a:aA):Option (Res×aA):=if lR S a/\bo S.length ds=true then some (.l ds,a.take S.length) else none
noncomputable def eE(n:Nat)(b:cG):cY:=λc S=>(b (c.map some++List.replicate (n-c.length) none) S).bind λo=>match o with
 |.nx _ a=>settle S .non a
 |.rt d a=>settle S d a
 |.rl l a=>eC S l a
 |_=>none
def eD.clean{M:Md}{ρ b:List Addr}{S f:aA}{H e:Hp}(st:eD M ρ S H)(x:bx ρ H b e)(g:eD M b f e)(c:lR S f):eD M ρ (f.take S.length) e/\bx ρ H ρ e:=by
 refine⟨⟨?_,st.nd,λk a o i j=> ?_⟩,List.prefix_refl _,λ_ h=>.inl h,x.keep,x.grow⟩
 ·rw[Qxq,st.len]
  have:=c.1
  omega
 ·have l:k<ρ.length:=(gQs.mp i).1
  have d:k<S.length:=st.len▸l
  rw[List.getElem?_take_of_lt d] at j
  refine(g.obj k a o (bV x.pre i) j).cut x.pre ?_
  rcases c.2 k o d j with z|z
  ·exact(st.obj k a o i z).low
  ·rw[st.len];exact z
def rR{M:Md}{ρ f:List Addr}{S s h:aA}{H g:Hp}{d:D}{v:V}{r:Res}(st:eD M ρ S H)(x:bx ρ H f g)(b:eD M f s g)(l:Rel M f g d v)(e:settle S d s=some (r,h)):
  bx ρ H ρ g/\eD M ρ h g/\FJ M ρ H g v r:=by
 unfold settle at e
 split at e
 ·rename_i c
  obtain⟨o,n⟩:=st.clean x b c
  cases d with
  | ref k=>
    dsimp only at e
    split at e
    · rename_i q
      obtain⟨rfl,rfl⟩:=bG e
      exact⟨n,o,l.cut x.pre (by simp only[bB];rw[st.len];exact Qeq q)⟩
    · rename_i q
      split at e
      · rename_i B w
        split at e
        · rename_i p
          obtain⟨rfl,rfl⟩:=bG e
          cases l with
          | ref i=>
            rename_i a
            obtain⟨z,y,A⟩:=b.obj k a _ i w
            have t:a∉ρ:=λm=>by
              obtain⟨j,u⟩:=List.getElem?_of_mem m
              have:=jz b.nd (bV x.pre u) i
              subst this
              exact q (st.len▸(gQs.mp u).1)
            refine⟨n,o,a,z,rfl,(x.new a (mQg i)).resolve_left t,t,y,A.cut x.pre (by rw[st.len];exact p)⟩
        · cases e
      · cases e
  | _=>
    dsimp only at e
    split at e
    · rename_i p
      obtain⟨rfl,rfl⟩:=bG e
      exact⟨n,o,l.cut x.pre (by rw[st.len];exact p)⟩
    · cases e
 ·cases e
def wx{M:Md}{ρ b:List Addr}{S h f:aA}{H d:Hp}{ds:List D}{a:Addr}{vs:List V}{r:Res}(st:eD M ρ S H)(x:bx ρ H b d)(g:eD M b h d)(l:H a=none)(k:a∉b)(i:d a=some (.lst vs))(j:aK M b d ds vs)(e:eC S ds h=some (r,f)):
  bx ρ H ρ d/\eD M ρ f d/\FJ M ρ H d (.ref a) r:=by
 unfold eC at e
 split at e
 ·rename_i c
  obtain⟨o,n⟩:=st.clean x g c.1
  obtain⟨rfl,rfl⟩:=bG e
  exact⟨n,o,a,vs,rfl,l,λm=>k (x.pre.subset m),i,j.cut x.pre (by rw[st.len];exact c.2)⟩
 ·cases e
def AX{M:Md}{ρ:List Addr}{H:Hp}{ds:List D}{vs:List V}{N:List Str}(r:aK M ρ H ds vs):En M ρ H (ds.map some++List.replicate (N.length-ds.length) none) (L2.start N vs) where
 len:=by unfold L2.start;simp[r.length]
 get:=λi d q=>by
  unfold L2.start
  by_cases c:i<ds.length
  ·rw[QHq (by rw[lQm];exact c),gQm] at q
   obtain⟨g,b,e⟩:=oQm.mp q
   cases e
   obtain⟨v,a,f⟩:=r.get b
   exact⟨v,by rw[QHq (by rw[lQm,←r.length];exact c),gQm,a];rfl,f⟩
  ·rw[QQq (by rw[lQm];omega)] at q
   have:=mQg q
   rw[List.mem_replicate] at this
   cases this.2
section
variable{P:Program}{w:World}{K:PySem.W.Frag}{mg:Str->Option Value}{base:Heap}
def a0{x c:Str}{st:Stmt}{f:Addr}{I:FuncData}{N ps:List Str}{k:Nat}{b:cG}(F:d_ K x c st f I)(S:aC N ps (ay st))
  (h:∀(g:Value) (A:Around) (outer:List Env) (s:Shared) (H:Hp) (E:XK),dZ k (A.deeper (envOfC c (ay st) s.heap.objs.size f g))→
   oF (wL dC P w K mg base N c (ay st) f g A outer s H E).nox (eB st) (tS ⟨K,mg⟩ b)):bc P w K mg base dC (k+1) f I ps (d0 ⟨K,mg⟩ ps.length (eE N.length b)):=by
 refine F.ok S (λG H Q E ⟨J,S,ds,r,M,B,z,_⟩=>by rw[←z.length];exact B) λg A outer s H G Q E hr ⟨J,S,ds,r,M,B,z,t,h4,q⟩=>⟨_,h g A outer s H E hr,?_⟩
 obtain⟨o,W,e⟩:=aq h4
 refine⟨J,_,S,o,⟨AX z,t⟩,W,?_⟩
 cases o with
 |nx Z L=>exact λn U C l u=>by obtain⟨m,j,p⟩:=rR t l u.st .non e;exact q _ _ _ m j p
 |rt d L=>exact λn v C l i y=>by obtain⟨m,j,p⟩:=rR t l i y e;exact q _ _ _ m j p
 |rl d L=>exact λn a G C l i Y X R y=>by obtain⟨m,j,p⟩:=wx t l i Y X R y e;exact q _ _ _ m j p
 |bk=>cases e
 |ct=>cases e
end
section
variable{X:Cx}{x:Str}{k n:Nat}{f:Addr}{fd:FuncData}{ps:List Str}{F:cY}{e:Expr}{es:List Expr}{g:fc}{p pos:Pos}
noncomputable def az(F:cY)(g:fc):aW:=λb S=>(g b S).bind λ(a,c)=>(F a c).bind λ(r,h)=>match r with
 |.d x=>some (x,h)
 |.l _=>none
def eG(F:cY)(g:fc):fc:=λb S=>(g b S).bind λ(a,c)=>(F a c).bind λ(r,h)=>match r with
 |.d _=>none
 |.l a=>some (a,h)
def nA(n:Nat)(g:fc):Prop:=∀c S a b,g c S=some (a,b)->a.length=n
def w9:nA 0 aw:=λ_ _ _ _ e=>by cases e;rfl
def jA{n:Nat}{f:aW}{g:fc}(h:nA n g):nA (n+1) (ax f g):=λl S i c e=>by
 obtain⟨⟨d,m⟩,j,e⟩:=aq e
 obtain⟨⟨a,o⟩,b,e⟩:=aq e
 cases e
 rw[Qnq,h _ _ _ _ b]
def xV{M:Md}(z:nA n g):∀b H Q,tD M (az F g) b H Q->An (d0 M n F) [] E0 (vA M g) b H Q:=λb H Q o=>by
 obtain⟨C,y,S,d,I,ok,e,q⟩:=o
 obtain⟨⟨h,m⟩,j,e⟩:=aq e
 obtain⟨⟨r,u⟩,s,e⟩:=aq e
 refine⟨C,y,S,h,m,ok,j,λi J H1 A c t=>⟨i,m,h,r,u,z _ _ _ _ j,by rw[List.append_nil];exact t,c,s,λB v H2 w a G=> ?_⟩⟩
 cases r with
 |d x=>obtain⟨rfl,rfl⟩:=bG e;exact q _ _ _ (A.trans w) a G
 |l h=>cases e
def C9{M:Md}(C:nA n g):∀c H Q,tL M (eG F g) c H Q->An (d0 M n F) [] E0 (vA M g) c H Q:=λc H Q t=>by
 obtain⟨I,A,S,d,K,ok,e,q⟩:=t
 obtain⟨⟨i,s⟩,m,e⟩:=aq e
 obtain⟨⟨r,y⟩,u,e⟩:=aq e
 refine⟨I,A,S,i,s,ok,m,λj B H1 o h w=>⟨j,s,i,r,y,C _ _ _ _ m,by rw[List.append_nil];exact w,h,u,λG v H2 z b J=> ?_⟩⟩
 cases r with
 |d x=>cases e
 | l i=>
   obtain⟨rfl,rfl⟩:=bG e
   obtain⟨a,B,rfl,fr,na,ha,rr⟩:=J
   exact q _ _ _ _ (o.trans z) b (o.grow _ fr) na ha rr
def ET(G:bc X.prog X.w X.K X.mg X.base dC k f fd ps (d0 (md X) n F))(j:dZ k X.A)(d:Gl X x)(h:X.mg x=some (.ref f))(l:PySem.W.keepIn X.K (.ref f)=true)(c:Binds X.K fd ps [])(b:PA X (e::es) (vA (md X) g))(i:nA n g)
  (a:(x==("__debug__":Str))=false:=by decide) (he:starEach (e::es) X.env=(false,eval e X.env)::starEach es X.env:=by rfl) (hpl:(backTo pos (starEach es X.env)).any (·.1)=false:=by rfl):
  PE X (.Call (.Name x p) (e::es) [] pos) (tD (md X) (az F g)):=jf (yg G j d h l c .nil Av b a he hpl) (xV i)
def FE(G:bc X.prog X.w X.K X.mg X.base dC k f fd ps (d0 (md X) n F))(j:dZ k X.A)(d:Gl X x)(h:X.mg x=some (.ref f))(l:PySem.W.keepIn X.K (.ref f)=true)(c:Binds X.K fd ps [])(b:PA X (e::es) (vA (md X) g))(i:nA n g)
  (a:(x==("__debug__":Str))=false:=by decide) (he:starEach (e::es) X.env=(false,eval e X.env)::starEach es X.env:=by rfl) (hpl:(backTo pos (starEach es X.env)).any (·.1)=false:=by rfl):
  PE X (.Call (.Name x p) (e::es) [] pos) (tL (md X) (eG F g)):=jf (yg G j d h l c .nil Av b a he hpl) (C9 i)
end
def eO{α:Type}(xs:List α)(lo hi:Option Int):List α:=(xs.drop (HT.cZ xs.length 0 lo)).take (HT.cZ xs.length xs.length hi-HT.cZ xs.length 0 lo)
def aK.cut3{M:Md}{ρ:List Addr}{H:Hp}{ds:List D}{vs:List V}{lo hi:Option Int}(h:aK M ρ H ds vs):aK M ρ H (eO ds lo hi) (tj vs lo hi):=by
 unfold eO tj
 rw[h.length]
 exact(h.drop _).take _
def DV{α:Type}{xs:List α}{lo hi:Option Int}(a:HT.cZ xs.length 0 lo=0)(b:HT.cZ xs.length xs.length hi=xs.length):eO xs lo hi=xs:=by
 unfold eO
 rw[a,b]
 simp
abbrev DB:=cE->aA->Option (Option Int×aA)
def Gp(M:Md)(f:DB):TO:=λg H Q=>∃e d S o c,Ok M e d S g H/\f d S=some (o,c)/\∀a b,bx e H a b->eD M a c b->Q o b
section
variable{X:Cx}{a b c e:Expr}{pos:Pos}{st:Stmt}
def nP:DB:=λ_ S=>some (none,S)
def lV(f:aW):DB:=λg S=>(f g S).bind λ(d,h)=>match d with
 |.int i=>some (some i,h)
 |_=>none
def Kr{o:Option Expr}{t t':TO}(h:PO X o t)(w:∀f H Q,t' f H Q->t f H Q):PO X o t':=λd s f H Q I q=>h d s f H Q I (w _ _ _ q)
def JP:PO X none (Gp (md X) nP):=Kr CI λg H Q ⟨h,f,S,o,d,ok,e,q⟩=>by cases e;exact q _ _ bx.refl ok.st
def Js{f:aW}(h:PE X e (tD (md X) f)):PO X (some e) (Gp (md X) (lV f)):=Kr (De h) λs H Q g=>by
 obtain⟨k,j,S,o,n,ok,e,q⟩:=g
 obtain⟨⟨d,m⟩,i,e⟩:=aq e
 dsimp only at e
 split at e
 ·obtain⟨rfl,rfl⟩:=bG e
  refine⟨k,j,S,_,m,ok,i,λl v p x st r=> ?_⟩
  cases r
  exact⟨_,rfl,q _ _ x st⟩
 ·cases e
def oq(f:aW)(lo hi:DB):aW:=λg S=>(f g S).bind λ(d,k)=>(lo g k).bind λ(l,m)=>(hi g m).bind λ(h,j)=>match d with
 |.tup i=>some (.tup (eO i l h),j)
 |_=>none
def Im{lo hi:Option Expr}{U:Pos}{f:aW}{l h:DB}(he:PE X e (tD (md X) f))(I:PO X lo (Gp (md X) l))(Y:PO X hi (Gp (md X) h)):PE X (.Subscript e (.Slice lo hi none U) pos) (tD (md X) (oq f l h)):=
 jf (uw Da he I Y) λσ H Q G=>by
  obtain⟨R,o,S,d,Z,ok,e,q⟩:=G
  obtain⟨⟨x,F⟩,N,e⟩:=aq e
  obtain⟨⟨A,z⟩,J,e⟩:=aq e
  obtain⟨⟨C,P⟩,W,e⟩:=aq e
  cases x with
  | tup B=>
    dsimp only at e
    obtain⟨rfl,rfl⟩:=bG e
    refine⟨R,o,S,_,F,ok,N,λu v H1 s i L=>⟨u,o,F,A,z,ok.to s i,J,λt H2 n r=>⟨t,o,z,C,P,(ok.to s i).to n r,W,λM H3 y j=> ?_⟩⟩⟩
    have g:=(s.trans n).trans y
    have K:=L.ext (n.trans y)
    cases K with
    | tup w k=>
      refine⟨_,_,rfl,fK.of w,λc=> ?_,λc p m=> ?_⟩
      · have:eO B A C=B:=DV (by rw[k.length];exact c.1) (by rw[k.length];exact c.2)
        rw[this] at q
        exact q _ _ _ g j (.tup w k)
      · exact q _ _ _ (g.trans (bx.laid m)) (j.lay m) (.tup aR (k.cut3.ext (bx.laid m)))
  |_=>cases e
open Classical in
def Gi(f:et)(lo hi:DB):fc:=λd S=>(f d S).bind λ(p,i)=>(lo d i).bind λ(l,j)=>(hi d j).bind λ(h,g)=>if p.2.isL=true/\p.2.stays g p.1 then some (eO p.1 l h,g) else none
def ID{lo hi:Option Expr}{N:Pos}{f:et}{l h:DB}(he:PE X e (tQ (md X) f))(A:PO X lo (Gp (md X) l))(W:PO X hi (Gp (md X) h)):PE X (.Subscript e (.Slice lo hi none N) pos) (tL (md X) (Gi f l h)):=
 jf (uw CK he A W) λσ H Q z=>by
  obtain⟨L,n,S,d,Z,ok,e,q⟩:=z
  obtain⟨⟨⟨U,t⟩,y⟩,J,e⟩:=aq e
  obtain⟨⟨M,x⟩,C,e⟩:=aq e
  obtain⟨⟨Y,K⟩,R,e⟩:=aq e
  dsimp only at e
  split at e
  ·rename_i c
   obtain⟨rfl,rfl⟩:=bG e
   refine⟨L,n,S,U,t,y,ok,J,λv a vs H1 s k B G=>⟨v,n,y,M,x,ok.to s k,C,λu H2 m o=>⟨u,n,x,Y,K,(ok.to s k).to m o,R,λI H3 w i=> ?_⟩⟩⟩
   have g:=(s.trans m).trans w
   obtain⟨r,P,F⟩:=B.to G (m.trans w) i c.2
   refine⟨_,r,rfl,P.sqL c.1,λp j=> ?_⟩
   exact q _ _ _ _ (g.trans (bx.laid j)) (i.lay j) (g.grow _ j) (dk g i j) aR (F.cut3.ext (bx.laid j))
  ·cases e
open Classical in
def AK(f g:et):fc:=λd S=>(f d S).bind λ(p,i)=>(g d i).bind λ(r,h)=>if p.2.isM=true/\r.2.isM=true/\p.2.stays h p.1/\p.1.length+r.1.length<=sizeLine then some (p.1++r.1,h) else none
def Kk{f g:et}(w:PE X a (tQ (md X) f))(P:PE X b (tQ (md X) g)):PE X (.BinOp a .Add b pos) (tL (md X) (AK f g)):=jf (ni FM w P) λW H Q x=>by
 obtain⟨K,r,S,d,R,ok,e,q⟩:=x
 obtain⟨⟨⟨M,t⟩,v⟩,G,e⟩:=aq e
 obtain⟨⟨⟨I,z⟩,F⟩,B,e⟩:=aq e
 dsimp only at e
 split at e
 ·rename_i c
  obtain⟨rfl,rfl⟩:=bG e
  refine⟨K,r,S,M,t,v,ok,G,λm a U H1 s l A C=>⟨m,r,v,I,z,F,ok.to s l,B,λJ b y H2 o h N u=> ?_⟩⟩
  obtain⟨k,L,n⟩:=A.to C o h c.2.2.1
  have i:=s.trans o
  refine⟨_,_,k,y,rfl,rfl,L.sqM c.1,N.sqM c.2.1,by rw[←n.length,←u.length];exact c.2.2.2,λp j=> ?_⟩
  exact q _ _ _ _ (i.trans (bx.laid j)) (h.lay j) (i.grow _ j) (dk i h j) aR ((n.append u).ext (bx.laid j))
 ·cases e
open Classical in
def my(f:et):aW:=λg S=>(f g S).bind λ(p,d)=>if p.2.isL=true/\p.2.stays d p.1 then some (.bl (!p.1.isEmpty),d) else none
def DG{f:et}:∀h H Q,tD (md X) (my f) h H Q->DY (Cm X.K) (tQ (md X) f) (tL (md X) (gg aw)) h H Q:=λh H Q p=>by
 obtain⟨x,n,S,d,C,ok,e,q⟩:=p
 obtain⟨⟨⟨z,t⟩,l⟩,v,e⟩:=aq e
 dsimp only at e
 split at e
 ·rename_i c
  obtain⟨rfl,rfl⟩:=bG e
  refine⟨x,n,S,z,t,l,ok,v,λk a I H1 o j r u=>⟨k,n,l,[],l,ok.to o j,rfl,λw b F H2 m g G J B A=> ?_⟩⟩
  obtain⟨i,y,s⟩:=r.to u m g c.2
  cases A
  refine⟨a,b,i,rfl,rfl,y.sqL c.1,gJ.of B,?_⟩
  rw[←s.isEmpty]
  exact q _ _ _ (o.trans m) g (.bl _)
 ·cases e
def HF:PE X (.List [] pos) (tL (md X) (gg aw)):=BX b_
def ye{f:et}{p:Pos}(g:X.A.units<cLine)(d:PE X a (tQ (md X) f)):PT X (.Compare a [.NotEq] [.List [] p] pos) (tB (md X) (aO (my f))):=wc DG (oz (Ce g) d HF (w5 _))
def eD.putL{M:Md}{ρ:List Addr}{S:aA}{H:Hp}{k:Nat}{a:Addr}{ds d:List D}{ws:List V}(st:eD M ρ S H)(i:ρ[k]?=some a)(f:S[k]?=some (.lst ds))(r:aK M ρ H d ws):eD M ρ (S.set k (.lst d)) (upd H a (.lst ws))/\bx ρ H ρ (upd H a (.lst ws)):=by
 obtain⟨j,g,l⟩:=st.obj k a _ i f
 exact st.put i f ⟨ws,aR,r.off g⟩ λx h=>by rw[g] at h;cases h;exact id
def Cr(m:List D->List D->Option (List D×D))(f:aW)(g:fc):aW:=λh S=>(f h S).bind λ(x,i)=>match x with
 | .ref k=>(g h i).bind λ(n,j)=>match i[k]?,j[k]? with
   |some (.lst _),some (.lst ds)=>(m ds n).bind λ(l,d)=>some (d,j.set k (.lst l))
   |_,_=>none
 |_=>none
def Er(M:Md)(r:V->List V->Hp->VK->Prop)(m:List D->List D->Option (List D×D)):Prop:=∀{f:List Addr} {H:Hp} {a:Addr} {g i h:List D} {d:D} {l j:List V} {Q:VK},H a=some (.lst l)->aK M f H g l->aK M f H i j->m g i=some (h,d)→
 (∀k w,aK M f H h k->Rel M f H d w->Q w (upd H a (.lst k)))->r (.ref a) j H Q
def G1{m:List D->List D->Option (List D×D)}{r:V->List V->Hp->VK->Prop}{f:aW}{g:fc}(P:Er (md X) r m):∀o H Q,tD (md X) (Cr m f g) o H Q->Iz X.K "list" r (tD (md X) f) (vA (md X) g) o H Q:=λo H Q G=>by
 obtain⟨W,A,S,d,S',ok,e,q⟩:=G
 obtain⟨⟨x,C⟩,N,e⟩:=aq e
 cases x with
 | ref k=>
   dsimp only at e
   obtain⟨⟨F,M⟩,J,e⟩:=aq e
   dsimp only at e
   split at e
   · rename_i R ds n j
     obtain⟨⟨es,d'⟩,Z,e⟩:=aq e
     obtain⟨rfl,rfl⟩:=bG e
     refine⟨W,A,S,_,C,ok,N,λs v H1 B i L=> ?_⟩
     cases L with
     | ref u=>
       rename_i a
       obtain⟨p,Y,_⟩:=i.obj k a _ u n
       refine⟨.inl ⟨rfl,p,gJ.of Y⟩,s,A,C,F,M,ok.to B i,J,λU us H2 z h r2=> ?_⟩
       have l:=bV z.pre u
       obtain⟨vs,I,h2⟩:=h.obj k a _ l j
       refine P I h2 r2 Z λws w rw rd=> ?_
       obtain⟨t,y⟩:=h.putL l j rw
       exact q _ _ _ ((B.trans z).trans y) t (rd.ext y)
   · cases e
 |_=>cases e
def vk:List D->List D->Option (List D×D):=λd f=>match f with
 | [y]=>if d.length<sizeLine then some (d++ [y],.non) else none
 |_=>none
def Fy{M:Md}:Er M yD vk:=by
 intro p H a l n m d i o Q j g f e q
 unfold vk at e
 split at e
 ·split at e
  ·rename_i h
   obtain⟨rfl,rfl⟩:=bG e
   cases f with
   | cons f k=>
     cases k
     exact⟨a,i,_,rfl,rfl,j,by rw[←g.length];exact h,q _ _ (g.append (.cons f .nil)) .non⟩
  ·cases e
 ·cases e
def vF{f:aW}{g:aW}{o:Expr}{h d:Pos}(n:PE X o (tD (md X) f))(m:PE X e (tD (md X) g))(i:attributeBase o "append" X.env (eval o X.env)=eval o X.env:=by rfl) (k:((backTo d (starEach [e] X.env)).all (λx=> !x.1)&&(backToKw d (keywordEach [] X.env)).all (λx=>x.1.isSome)
   &&decide ([e].length+([]:List Keyword).length+(if ([]:List Keyword).isEmpty then 0 else 1)<30))=true:=by rfl)
  (j:(h.endLine==d.line)=true:=by rfl) (l:starEach [e] X.env= [(false,eval e X.env)]:=by rfl):PE X (.Call (.Attribute o "append" h) [e] [] d) (tD (md X) (Cr vk f (ax g aw))):=
 jf (q_ PySem.F.plainAttrs_list PySem.F.slot_list_append PySem.F.type_list_append rp n (aF m b_ l) i k j l) (G1 Fy)
end
section
variable{X:Cx}{a b c e:Expr}{pos:Pos}{st:Stmt}
def j6:List D->List D->Option (List D×D):=λd f=>match f with
 | [.int i]=>if -(2^63)<=i/\i<2^63 then(seqIndex? i d.length).bind λk=>(d[k]?).bind λy=>some (d.eraseIdx k,y) else none
 |_=>none
def AY{M:Md}:Er M AZ j6:=by
 intro w H a x s u d o t Q l g f e q
 unfold j6 at e
 split at e
 ·split at e
  ·rename_i i j
   obtain⟨k,h,e⟩:=aq e
   obtain⟨y,m,e⟩:=aq e
   obtain⟨rfl,rfl⟩:=bG e
   cases f with
   | cons f r=>
     cases r
     cases f
     obtain⟨v,p,n⟩:=g.get m
     rw[g.length] at h
     exact⟨a,o,i,k,v,rfl,rfl,l,j.1,j.2,h,p,q _ _ (g.eraseIdx k) n⟩
  ·cases e
 ·cases e
def yK{f:aW}{g:aW}{o:Expr}{h d:Pos}(n:PE X o (tD (md X) f))(m:PE X e (tD (md X) g))(i:attributeBase o "pop" X.env (eval o X.env)=eval o X.env:=by rfl) (k:((backTo d (starEach [e] X.env)).all (λx=> !x.1)&&(backToKw d (keywordEach [] X.env)).all (λx=>x.1.isSome)
   &&decide ([e].length+([]:List Keyword).length+(if ([]:List Keyword).isEmpty then 0 else 1)<30))=true:=by rfl)
  (j:(h.endLine==d.line)=true:=by rfl) (l:starEach [e] X.env= [(false,eval e X.env)]:=by rfl):PE X (.Call (.Attribute o "pop" h) [e] [] d) (tD (md X) (Cr j6 f (ax g aw))):=
 jf (q_ PySem.F.plainAttrs_list PySem.F.slot_list_pop PySem.F.type_list_pop Ax n (aF m b_ l) i k j l) (G1 AY)
def B_(f:aW)(g:et):aW:=λd S=>(f d S).bind λ(x,h)=>match x with
 | .ref k=>(g d h).bind λ(p,i)=>match h[k]?,i[k]? with
   |some (.lst _),some (.lst ds)=>if p.2.isM=true/\ds.length+p.1.length<=sizeLine then some (.non,i.set k (.lst (ds++p.1))) else none
   |_,_=>none
 |_=>none
def GR{f:aW}{g:et}:∀n H Q,tD (md X) (B_ f g) n H Q->Iz X.K "list" yS (tD (md X) f) (Cf (tQ (md X) g) E3) n H Q:=λn H Q G=>by
 obtain⟨W,w,S,d,S',ok,e,q⟩:=G
 obtain⟨⟨x,B⟩,N,e⟩:=aq e
 cases x with
 | ref k=>
   dsimp only at e
   obtain⟨⟨⟨C,t⟩,M⟩,J,e⟩:=aq e
   dsimp only at e
   split at e
   · rename_i R ds m j
     split at e
     · rename_i c
       obtain⟨rfl,rfl⟩:=bG e
       refine⟨W,w,S,_,B,ok,N,λp v H1 y i L=> ?_⟩
       cases L with
       | ref s=>
         rename_i a
         obtain⟨o,Y,_⟩:=i.obj k a _ s m
         refine⟨.inl ⟨rfl,o,gJ.of Y⟩,p,w,B,C,t,M,ok.to y i,J,λU b F H2 u h h2 A=> ?_⟩
         have l:=bV u.pre s
         obtain⟨P,Z,z⟩:=h.obj k a _ l j
         refine⟨a,b,P,F,rfl,rfl,Z,h2.sqM c.1,by rw[←z.length,←A.length];exact c.2,?_⟩
         obtain⟨r,I⟩:=h.putL l j (z.append A)
         exact q _ _ _ ((y.trans u).trans I) r .non
     · cases e
   · cases e
 |_=>cases e
def Hn{f:aW}{g:et}{o:Expr}{h d:Pos}(n:PE X o (tD (md X) f))(m:PE X e (tQ (md X) g))(i:attributeBase o "extend" X.env (eval o X.env)=eval o X.env:=by rfl) (k:((backTo d (starEach [e] X.env)).all (λx=> !x.1)&&(backToKw d (keywordEach [] X.env)).all (λx=>x.1.isSome)
   &&decide ([e].length+([]:List Keyword).length+(if ([]:List Keyword).isEmpty then 0 else 1)<30))=true:=by rfl)
  (j:(h.endLine==d.line)=true:=by rfl) (l:starEach [e] X.env= [(false,eval e X.env)]:=by rfl):PE X (.Call (.Attribute o "extend" h) [e] [] d) (tD (md X) (B_ f g)):=
 jf (q_ PySem.F.plainAttrs_list PySem.F.slot_list_extend PySem.F.type_list_extend zw n (cQ m fg l) i k j l) GR
def Gh(f g:aW):j8:=λd h S=>(f h S).bind λ(x,m)=>(g h m).bind λ(y,l)=>match x,y with
 | .ref k,.int i=>match l[k]? with
   |some (.lst ds)=>(yV ds.length i).bind λj=>some (h,l.set k (.lst (ds.set j d)))
   |_=>none
 |_,_=>none
def Ju{f g:aW}:∀v n H Q,tG (md X) (Gh f g) v n H Q->GL (tD (md X) f) (tD (md X) g) Ei v n H Q:=λv n H Q G=>by
 obtain⟨P,A,S,d,K,Y,ok,r,e,q⟩:=G
 obtain⟨⟨x,F⟩,L,e⟩:=aq e
 obtain⟨⟨y,J⟩,I,e⟩:=aq e
 cases x with
 | ref k=>
   cases y with
   | int i=>
     dsimp only at e
     split at e
     · rename_i ds u
       obtain⟨j,U,e⟩:=aq e
       obtain⟨rfl,rfl⟩:=bG e
       refine⟨P,A,S,_,F,ok,L,λp Z H1 B o m=>⟨p,A,F,_,J,ok.to B o,I,λN v2 H2 z h W=> ?_⟩⟩
       cases W
       have m:=m.ext z
       cases m with
       | ref t=>
         obtain⟨M,R,C⟩:=h.obj k _ _ t u
         have l:=B.trans z
         obtain⟨s,w⟩:=h.putL t u (aK.set (r.ext l) j C)
         exact⟨_,M,i,j,rfl,rfl,R,by rw[←C.length];exact U,q _ _ _ (l.trans w) ((ok.to l h).to w s)⟩
     · cases e
   |_=>cases e
 |_=>cases e
def JY{o i:Expr}{f g:aW}(h:PE X o (tD (md X) f))(hi:PE X i (tD (md X) g))
  (d:∀v,assign (.Subscript o i pos) X.env v=(do
   let ov←holding [v] (eval o X.env)
   let iv←holding [v,ov] (eval i X.env)
   standAt pos
   holding [v,ov,iv] (setItem ov iv v)
   release [v,ov,iv] []):=by intro _;rfl):PG X (.Subscript o i pos) (tG (md X) (Gh f g)):=Jc (EV h hi set_list d) Ju
def Ii(f g h:aW):cG:=λd S=>(f d S).bind λ(x,p)=>(g d p).bind λ(y,o)=>match x,y with
 | .ref k,.int i=>match o[k]? with
   | some (.lst ds)=>if 0<=i then(ds[i.toNat]?).bind λz=>(h d o).bind λ(w,l)=>match z,w,l[k]? with
     |.int m,.int n,some (.lst es)=>(yV es.length i).bind λj=>some (.nx d (l.set k (.lst (es.set j (.int (m+n))))))
     |_,_,_=>none
     else none
   |_=>none
 |_,_=>none
def Jw{o i e:Expr}{f g h:aW}{r:Pos}(ho:PE X o (tD (md X) f))(hi:PE X i (tD (md X) g))(he:PE X e (tD (md X) h))
  (A:∀C B new,augStore i C B new=(do holding [new,C,B] (setItem C B new);release [new,C,B] [];pure .next):=by intros;rfl):PS X (.AugAssign (.Subscript o i r) .Add e pos) (tS (md X) (Ii f g h)):=
 zH (CP ho hi Ah he F3 set_list A) λD σ H qq=>by
  obtain⟨ρ,I,S,o,ok,e,q⟩:=qq
  obtain⟨⟨x,Z⟩,e1,e⟩:=aq e
  obtain⟨⟨y,P⟩,e2,e⟩:=aq e
  cases x with
  | ref k=>
    cases y with
    | int i=>
      dsimp only at e
      split at e
      · rename_i ds hs
        split at e
        · rename_i hi
          obtain⟨z,e3,e⟩:=aq e
          obtain⟨⟨w,U⟩,e4,e⟩:=aq e
          cases z with
          | int m=>
            cases w with
            | int n=>
              cases d:U[k]? with
              |none=>rw[d] at e;cases e
              | some o3=>
                rw[d] at e
                cases o3 with
                | lst es=>
                  dsimp only at e
                  obtain⟨j,e5,e⟩:=aq e
                  cases e
                  refine⟨ρ,I,S,_,Z,ok,e1,λM v1 H1 W L G=>⟨M,I,Z,_,P,ok.to W L,e2,λJ v2 H2 Q s r2=> ?_⟩⟩
                  cases r2
                  have G:=G.ext Q
                  cases G with
                  | ref A=>
                    have u:=W.trans Q
                    obtain⟨vs,h3,h4⟩:=s.obj k _ _ A hs
                    obtain⟨v,h5,h6⟩:=h4.get e3
                    cases h6
                    refine⟨_,vs,i.toNat,_,rfl,by rw[Int.toNat_of_nonneg hi],gJ.of h3,h5,J,I,P,_,U,ok.to u s,e4,λa1 v3 H3 N l r3=> ?_⟩
                    cases r3
                    have t:=bV N.pre A
                    obtain⟨F,g3,R⟩:=l.obj k _ _ t d
                    have p:=u.trans N
                    obtain⟨K,Y⟩:=l.putL t d (aK.set (.int (m+n)) j R)
                    exact⟨m,n,rfl,rfl,_,F,i,j,rfl,rfl,g3,by rw[←R.length];exact e5,q _ _ _ (p.trans Y) ((ok.to p l).to Y K)⟩
                |_=>cases e
            |_=>cases e
          |_=>cases e
        · cases e
      · cases e
    |_=>cases e
  |_=>cases e
def wu(i j:Nat)(f:fc):cG:=λd S=>(f d S).bind λ(g,h)=>match g with
 | [v,w]=>some (.nx ((d.set i (some v)).set j (some w)) h)
 |_=>none
def D9{i j:Nat}{f:fc}(h:PS X st (Hy i j (vA (md X) f))):PS X st (tS (md X) (wu i j f)):=zH h λD v H g=>by
 obtain⟨n,m,S,o,ok,e,q⟩:=g
 obtain⟨⟨w,s⟩,l,e⟩:=aq e
 dsimp only at e
 split at e
 ·cases e
  refine⟨n,m,S,_,s,ok,l,λp u t x st r=> ?_⟩
  cases r with
  | cons r d=>
    cases d with
    | cons k d=>
      cases d
      exact⟨_,_,rfl,q _ _ _ x ⟨((ok.en.ext x).set r).set k,st⟩⟩
 ·cases e
end
def cW(cells:List (Str×Addr)):List (Str×NameKind)->List (Str×Addr)->List (Str×Addr)
 | [],acc=>acc
 |(n,k)::r,acc=>if (k==.free)=true then cW cells r ((n,(cells.lookup n).getD 0)::acc) else cW cells r acc
theorem m7{env:Env}:∀(names:List (Str×NameKind)) (b:List (Str×Addr)),(∀y∈names,y.2=.free->(env.cells.lookup y.1).isSome=true)→
  (forIn names b λ(x:Str×NameKind) (f:List (Str×Addr))=>(do
   if (x.2==NameKind.free)=true then do
    let c←cellOf env x.1
    pure (ForInStep.yield ((x.1,c)::f))
   else pure (ForInStep.yield f):Sem (ForInStep (List (Str×Addr)))))=(pure (cW env.cells names b):Sem _)
 | [],b,_=>rfl
 | (n,k)::r,b,h=>by
   rw[List.forIn_cons]
   unfold cW
   by_cases c:(k==NameKind.free)=true
   · obtain⟨a,e⟩:=Option.isSome_iff_exists.mp (h (n,k) QBq (by simpa using c))
     simp only[c,if_true]
     have g:cellOf env n=pure a:=by
       unfold cellOf
       rw[e]
     rw[g,pure_bind,pure_bind,e]
     exact m7 r _ λy d=>h y (Qpq _ d)
   · simp only[c,Bool.false_eq_true,if_false]
     rw[pure_bind]
     exact m7 r _ λy d=>h y (Qpq _ d)
def AW{a:Scope}{env:Env}(h:∀y∈a.names,y.2=.free->(env.cells.lookup y.1).isSome=true):closureFor a env=pure (cW env.cells a.names []):=by
 unfold closureFor
 have:=m7 a.names [] h
 rw[bind_pure]
 exact this
theorem p5{cells:List (Str×Addr)}:∀(names:List (Str×NameKind)) (a:List (Str×Addr)) (p:Str×Addr),p∈cW cells names a->p∈a\/∃n,(n,NameKind.free)∈names/\p=(n,(cells.lookup n).getD 0)
 | [],a,p,h=>.inl h
 | (n,k)::r,a,p,h=>by
   unfold cW at h
   split at h
   · rename_i c
     rcases p5 r _ p h with h|⟨m,b,d⟩
     · rcases Qsq.mp h with h|h
       · exact .inr ⟨n,by rw[show k=NameKind.free by simpa using c];exact QBq,h⟩
       · exact .inl h
     · exact .inr ⟨m,Qpq _ b,d⟩
   · rcases p5 r _ p h with h|⟨m,b,d⟩
     · exact .inl h
     · exact .inr ⟨m,Qpq _ b,d⟩
theorem qe{cells:List (Str×Addr)}{x:Str}:∀(names:List (Str×NameKind)) (a:List (Str×Addr)),((x,NameKind.free)∈names\/∃c,(x,c)∈a)->∃c,(x,c)∈cW cells names a
 | [],a,h=>by
   rcases h with h|h
   · cases h
   · exact h
 | (n,k)::r,a,h=>by
   unfold cW
   split
   · rename_i c
     refine qe r _ ?_
     rcases h with h|⟨c,h⟩
     · rcases Qsq.mp h with h|h
       · cases h;exact .inr ⟨_,QBq⟩
       · exact .inl h
     · exact .inr ⟨c,Qpq _ h⟩
   · rename_i c
     refine qe r _ ?_
     rcases h with h|h
     · rcases Qsq.mp h with h|h
       · cases h;exact absurd rfl c
       · exact .inl h
     · exact .inr h
theorem jU{x:Str}{c:Addr}:∀{l:List (Str×Addr)},(x,c)∈l->∃a,l.lookup x=some a
 | [],h=>by cases h
 | (n,d)::r,h=>by
   unfold List.lookup
   by_cases e:(x==n)=true
   · rw[e];exact⟨d,rfl⟩
   · have b:(x==n)=false:=by simpa using e
     rw[b]
     rcases Qsq.mp h with h|h
     · cases h;simp at e
     · exact jU h
def qt(b:List Str)(a:Str->Option NameKind)(names:List (Str×NameKind)):List (Option Nat)->List Str->Bool
 |some j::js,x::N=>(b[j]? ==some x)&&(a x==some .cell||a x==some .free)&&(names.lookup x==some .free)&&qt b a names js N
 |none::js,_::N=>qt b a names js N
 |_,_=>true
theorem qk{b:List Str}{a:Str->Option NameKind}{names:List (Str×NameKind)}:∀{js:List (Option Nat)} {N:List Str} {k j:Nat} {x:Str},qt b a names js N=true->js[k]?=some (some j)->N[k]?=some x->b[j]?=some x/\(a x=some .cell\/a x=some .free)/\names.lookup x=some .free
 | some i::js,y::N,0,j,x,h,h1,h2=>by
   cases h1
   cases h2
   simp only[qt,QCq,Bool.or_eq_true,beq_iff_eq] at h
   exact⟨h.1.1.1,h.1.1.2,h.1.2⟩
 | some i::js,y::N,k+1,j,x,h,h1,h2=>by
   simp only[qt,QCq] at h
   exact qk h.2 (by simpa using h1) (by simpa using h2)
 |none::js,y::N,0,j,x,h,h1,h2=>by cases h1
 |none::js,y::N,k+1,j,x,h,h1,h2=>qk (k:=k) (by simpa [qt] using h) (by simpa using h1) (by simpa using h2)
 | [],N,k,j,x,h,h1,h2=>by simp at h1
 |some i::js,[],k,j,x,h,h1,h2=>by simp at h2
 |none::js,[],k,j,x,h,h1,h2=>by simp at h2
theorem kY{env:Env}{x:Str}:∀{names:List (Str×NameKind)},names.lookup x=some .free->(names.map λ(n,k)=>if (k==NameKind.free&&env.scope.kind==.function&&env.kindOf n==some .cell) then(n,NameKind.cell) else(n,k)).lookup x=some .cell∨
  (names.map λ(n,k)=>if (k==NameKind.free&&env.scope.kind==.function&&env.kindOf n==some .cell) then(n,NameKind.cell) else(n,k)).lookup x=some .free
 | [],h=>by cases h
 | (n,k)::r,h=>by
   unfold List.lookup at h
   rw[QDq]
   by_cases e:(x==n)=true
   · rw[e] at h
     cases h
     dsimp only
     split
     · left;unfold List.lookup;rw[e]
     · right;unfold List.lookup;rw[e]
   · have a:(x==n)=false:=by simpa using e
     rw[a] at h
     have b:=kY (env:=env) h
     dsimp only
     split <;>(unfold List.lookup;rw[a];exact b)
def aX.gen{X:Cx}{N:List Str}{js:List (Option Nat)}{d:Scope}(k:d.kind=.function)(o:d.names.all (λy=>y.2 !=.cell)=true)(v:d.names.all (λy=>y.2 !=.local||d.names.lookup y.1==some .local)=true)
  (p:d.names.all (λy=>y.2 !=.free||(X.env.cells.lookup y.1).isSome)=true) (s:qt X.N X.env.kindOf d.names js N=true) (w:js.length=N.length):aX X N js d (cW X.env.cells d.names []) where
 kind:=k
 nocell:=λy f=>by
  have:=QUq.mp o y f
  simpa using this
 names:=λy f e=>by
  have:=QUq.mp v y f
  rw[e] at this
  simpa using this
 clos:=AW λy f e=>by
  have:=QUq.mp p y f
  rw[e] at this
  simpa using this
 sub:=λx c h=>by
  rcases p5 _ _ _ (PySem.mem_of_lookup h) with h|⟨n,m,e⟩
  ·cases h
  ·cases e
   have:=QUq.mp p _ m
   have r:(X.env.cells.lookup x).isSome=true:=by simpa using this
   obtain⟨c,g⟩:=Option.isSome_iff_exists.mp r
   rw[g]
   rfl
 has:=λx h=>by
  have l:(x,NameKind.free)∈d.names:=by
   have:∃k,(relabel d X.env).names.lookup x=some k/\(k=.cell\/k=.free):=by
    rcases h with h|h
    ·exact⟨_,h,.inl rfl⟩
    ·exact⟨_,h,.inr rfl⟩
   obtain⟨B,A,g⟩:=this
   have q:=PySem.mem_of_lookup A
   unfold relabel at q
   obtain⟨⟨n,t⟩,f,i⟩:=Qkq.mp q
   dsimp only at i
   split at i
   ·rename_i c
    cases i
    simp only[QCq] at c
    have:t=NameKind.free:=by simpa using c.1.1
    rw[←this]
    exact f
   ·cases i
    rcases g with z|z
    ·have:=QUq.mp o _ f
     rw[z] at this
     simp at this
    ·rw[←z];exact f
  obtain⟨c,g⟩:=qe (cells:=X.env.cells) d.names [] (.inl l)
  exact jU g
 cap:=λk j x u m=>by
  obtain⟨a,b,c⟩:=qk s u m
  refine⟨a,b,?_⟩
  unfold relabel
  exact kY c
 len:=w
structure eS(P:Program)(w:World)(K:PySem.W.Frag)(mg:Str->Option Value)(base:Heap)(k:Nat)(x:Str)(ps:List Str)(F:cY):Prop where
 ex:∃f fd,bc P w K mg base dC k f fd ps (d0 ⟨K,mg⟩ ps.length F)/\Binds K fd ps []/\PySem.W.keepIn K (.ref f)=true/\mg x=some (.ref f)
section
variable{X:Cx}{x:Str}{k n:Nat}{ps:List Str}{F:cY}{e:Expr}{es:List Expr}{g:fc}{p pos:Pos}
def GQ(C:eS X.prog X.w X.K X.mg X.base k x ps F)(j:dZ k X.A)(h:Gl X x)(c:PA X (e::es) (vA (md X) g))(i:nA ps.length g)
  (a:(x==("__debug__":Str))=false:=by decide) (he:starEach (e::es) X.env=(false,eval e X.env)::starEach es X.env:=by rfl) (hpl:(backTo pos (starEach es X.env)).any (·.1)=false:=by rfl):
  PE X (.Call (.Name x p) (e::es) [] pos) (tD (md X) (az F g)):=by
 obtain⟨f,l,G,b,d,m⟩:=C.ex
 exact ET G j h m d b c i a he hpl
def G9(C:eS X.prog X.w X.K X.mg X.base k x ps F)(j:dZ k X.A)(h:Gl X x)(c:PA X (e::es) (vA (md X) g))(i:nA ps.length g)
  (a:(x==("__debug__":Str))=false:=by decide) (he:starEach (e::es) X.env=(false,eval e X.env)::starEach es X.env:=by rfl) (hpl:(backTo pos (starEach es X.env)).any (·.1)=false:=by rfl):
  PE X (.Call (.Name x p) (e::es) [] pos) (tL (md X) (eG F g)):=by
 obtain⟨f,l,G,b,d,m⟩:=C.ex
 exact FE G j h m d b c i a he hpl
end
def eS.mono{P:Program}{w:World}{K:PySem.W.Frag}{mg:Str->Option Value}{base:Heap}{j k:Nat}{x:Str}{ps:List Str}{F:cY}(C:eS P w K mg base j x ps F)(h:j<=k):eS P w K mg base k x ps F:=by
 obtain⟨f,c,G,b,a,m⟩:=C.ex
 exact⟨f,c,G.mono h,b,a,m⟩
structure Bl(mg:Str->Option Value):Prop where
 len:mg "len"=none
 tuple:mg "tuple"=none
 list:mg "list"=none
 dict:mg "dict"=none
 set:mg "set"=none
 int:mg "int"=none
 str:mg "str"=none
 bool:mg "bool"=none
 all:mg "all"=none
 any:mg "any"=none
 range:mg "range"=none
 zip:mg "zip"=none
 sorted:mg "sorted"=none
 isi:mg "isinstance"=none
 min:mg "min"=none
 max:mg "max"=none
 abs:mg "abs"=none
 enum:mg "enumerate"=none
open AutoSeq1 in
def kz(l:Addr)(items:Array Value)(n:Nat)(b:Addr)(a:Array Value)(k:Nat)(m:Option Addr)(o:Array (Option Value))(p:¬(!items.isEmpty&&Builtin.List.listTooLong (items.size+a.size))=true)(c:items.size<=sizeLine)(f:items.size+a.size<=sizeLine+1):
  Meets (Builtin.«list.extend» ⟨[.ref l,.ref b],[]⟩) (λ_ R s=>s.heap.get? l=some {cls:=.type "list",dict:=none,data:=.seq items n,slots:= #[]}/\s.heap.get? b=some {cls:=.type "tuple",dict:=m,data:=.seq a k,slots:=o}/\R (.ok (.ret Value.none)) {s with heap:=s.heap.update l (Obj.mapSeq λx=>x++a),toks:=s.toks}):=
 .of_wp λi w A R s h=>by
  obtain⟨u,g,d,B,t⟩:=s;obtain⟨j,q,h⟩:=h;have z:=idx_int;have y:=AutoSeq1.sub_tuple_tuple;have r:=AutoSeq1.sub_list_list;have v:=AutoSeq1.sub_tuple_list;have C:=AutoSeq1.sub_list_tuple;
  have e:(items++a).size<=sizeLine+1:=by rw[Array.size_append];exact f
  wp_walk using (wpAny_updateSeq j rfl (hz:=c) (_hz':=e)),AutoSeq1.wpAny_loadPart' j,AutoSeq1.wpAny_loadPart' q;exact⟨_,rfl,h⟩
section
variable{X:Cx}{a b c e:Expr}{pos:Pos}{st:Stmt}
def C6:Ic X "list.extend" (λx vs H Q=>∃l b xs i,x=.ref l/\vs= [.ref b]/\H l=some (.lst xs)/\fK X.K H b i/\xs.length+i.length<=sizeLine/\Q .non (upd H l (.lst (xs++i)))):=by
 intro m s R H x vs v N Q I C B h
 obtain⟨l,b,xs,i,rfl,rfl,hH,hB,hz,q⟩:=h
 cases C
 obtain⟨u,rfl,ru⟩:=B.one
 cases ru
 obtain⟨z,f,n,r,P,e⟩:=I.lstM hH
 obtain⟨d,p,⟨⟨M,G,A,L⟩,w,k,t,o⟩,y⟩:=I.tuple hB
 have J:=p.length
 simp only at k o
 subst k o
 have j:f.toArray.size+d.toArray.size<=sizeLine:=by rw[Qjq,Qjq];omega
 have g:¬(!f.toArray.isEmpty&&Builtin.List.listTooLong (f.toArray.size+d.toArray.size))=true:=by
  rw[vJ j,Bool.and_false]
  exact Qtq
 refine call_meets F.slot_list_extend ⟨_,e,rfl⟩ F.entry_list_extend (F.args_list_extend_2 _ _)
  (kz l f.toArray n b d.toArray t G L g (by rw[Qjq];omega) (by omega)) ⟨e,w,?_⟩
 refine⟨.non,_,I.lset (its':=f++d) hH e (by simp) (r.append p) ?_,rfl,q⟩
 rw[lQa]
 omega
def rT(f:aW)(g:et):aW:=λd S=>(f d S).bind λ(x,h)=>match x with
 | .ref k=>(g d h).bind λ(p,i)=>match h[k]?,i[k]? with
   |some (.lst _),some (.lst ds)=>if p.2.isL=false/\ds.length+p.1.length<=sizeLine then some (.non,i.set k (.lst (ds++p.1))) else none
   |_,_=>none
 |_=>none
def Fx{f:aW}{g:et}:∀p H Q,tD (md X) (rT f g) p H Q->Iz X.K "list" (λx vs H Q=>∃l b xs o,x=.ref l/\vs= [.ref b]/\H l=some (.lst xs)/\fK X.K H b o/\xs.length+o.length<=sizeLine/\Q .non (upd H l (.lst (xs++o)))) (tD (md X) f) (Cf (tQ (md X) g) E3) p H Q:=λp H Q J=>by
 obtain⟨Y,z,S,d,S',ok,e,q⟩:=J
 obtain⟨⟨x,F⟩,R,e⟩:=aq e
 cases x with
 | ref k=>
   dsimp only at e
   obtain⟨⟨⟨G,t⟩,P⟩,M,e⟩:=aq e
   dsimp only at e
   split at e
   · rename_i U ds n j
     split at e
     · rename_i c
       obtain⟨rfl,rfl⟩:=bG e
       refine⟨Y,z,S,_,F,ok,R,λs v H1 A i N=> ?_⟩
       cases N with
       | ref w=>
         rename_i a
         obtain⟨r,Z,_⟩:=i.obj k a _ w n
         refine⟨.inl ⟨rfl,r,gJ.of Z⟩,s,z,F,G,t,P,ok.to A i,M,λW b I H2 y h h2 C=> ?_⟩
         have m:=bV y.pre w
         obtain⟨vs,h3,B⟩:=h.obj k a _ m j
         refine⟨a,b,vs,I,rfl,rfl,h3,h2.sqT c.1,by rw[←B.length,←C.length];exact c.2,?_⟩
         obtain⟨u,L⟩:=h.putL m j (B.append C)
         exact q _ _ _ ((A.trans y).trans L) u .non
     · cases e
   · cases e
 |_=>cases e
def Gk{f:aW}{g:et}{o:Expr}{h d:Pos}(n:PE X o (tD (md X) f))(m:PE X e (tQ (md X) g))(i:attributeBase o "extend" X.env (eval o X.env)=eval o X.env:=by rfl) (k:((backTo d (starEach [e] X.env)).all (λx=> !x.1)&&(backToKw d (keywordEach [] X.env)).all (λx=>x.1.isSome)
   &&decide ([e].length+([]:List Keyword).length+(if ([]:List Keyword).isEmpty then 0 else 1)<30))=true:=by rfl)
  (j:(h.endLine==d.line)=true:=by rfl) (l:starEach [e] X.env= [(false,eval e X.env)]:=by rfl):PE X (.Call (.Attribute o "extend" h) [e] [] d) (tD (md X) (rT f g)):=
 jf (q_ PySem.F.plainAttrs_list PySem.F.slot_list_extend PySem.F.type_list_extend C6 n (cQ m fg l) i k j l) Fx
def kL(x:V):List V->Option Nat
 | []=>none
 |y::r=>if lX y x=true then some 0 else(kL x r).map (·+1)
theorem yG{x:V}:∀{xs:List V} {j:Nat},kL x xs=some j->(∃y,xs[j]?=some y/\lX y x=true)/\∀m y,m<j->xs[m]?=some y->lX y x=false
 | [],_,h=>by cases h
 | y::r,j,h=>by
   unfold kL at h
   split at h
   · rename_i c
     cases h
     exact⟨⟨y,rfl,c⟩,λm _ f=>absurd f (Nat.not_lt_zero _)⟩
   · rename_i c
     obtain⟨i,g,rfl⟩:=oQm.mp h
     obtain⟨⟨z,l,n⟩,k⟩:=yG g
     refine⟨⟨z,by simpa using l,n⟩,λm w f d=> ?_⟩
     cases m with
     |zero=>cases d;simpa using c
     |succ m=>exact k m w (by omega) (by simpa using d)
def Bf:Jt X "list.index" (λx vs H Q=>∃a xs y j,x=.ref a/\vs= [y]/\gJ X.K H a xs/\fo y=true/\xs.all fo=true/\kL y xs=some j/\Q (.int (j:Nat)) H):=by
 intro C s σ H x vs v us Q I S P h
 obtain⟨a,xs,y,j,rfl,rfl,hq,fy,fs,hj,q⟩:=h
 cases S
 obtain⟨u,rfl,ru⟩:=P.one
 obtain⟨d,r,N,hz⟩:=I.list hq
 obtain⟨⟨a1,dd,M,Y⟩,n,e,B,g,J⟩:=N
 simp only at B g J
 subst B g J
 obtain⟨⟨z,l,Z⟩,R⟩:=yG hj
 have hl:=r.length
 have U:j<xs.length:=(gQs.mp l).1
 obtain⟨w,k,p⟩:=r.get l
 have i:d.toArray[j]'(by rw[Qjq];omega)=w:=by
  have:=(gQs.mp k).2
  simpa using this
 have G:=ja
 refine call_meets PySem.F.slot_list_index ⟨_,e,rfl⟩ PySem.F.entry_list_index (PySem.F.args_list_index_2 _ _)
  (SeqAt.list_indexAt a d.toArray n none Y u (v9 y) j (by rw[Qjq];omega) (by omega) (by rw[i,sT p (QUq.mp fs z (mQg l))];exact Z) λm W o=> ?_)
  ⟨e,λw k=>gP ru fy r fs w (by simpa using k),⟨.int j,H,I.tok _,⟨_,rfl⟩,q⟩⟩
 have f:m<xs.length:=by rw[Qjq] at W;omega
 obtain⟨w2,A,t⟩:=r.get (gQe f)
 have L:d.toArray[m]=w2:=by
  have:=(gQs.mp A).2
  simpa using this
 rw[L,sT t (QUq.mp fs _ (List.getElem_mem f))]
 exact R m _ o (gQe f)
end
end DL
namespace Zq
open PySem
def It(t:Bool)(h:Heap)(i a:Addr)(k:Nat):Prop:=if t=true then h.IsTupleIter i a k else h.IsListIter i a k
def Sq(t:Bool)(h:Heap)(a:Addr)(xs:Array Value):Prop:=if t=true then h.IsTuple a xs else h.IsList a xs
section
variable{t t2:Bool}{h h':Heap}{i j a b z O T:Addr}{k:Nat}{xs ys:Array Value}
theorem It.at(g:It t h i a k)(f:∀o,h.get? i=some o->h'.get? i=some o):It t h' i a k:=by
 cases t with
 |true=>exact(show h.IsTupleIter i a k from g).at f
 |false=>exact(show h.IsListIter i a k from g).at f
def It.ext{c:Addr}(g:It t h i a k)(f:Heap.ExtBut c h h')(n:i≠c):It t h' i a k:=g.at λo e=>f i o n e
def Sq.at(g:Sq t h a xs)(f:∀o,h.get? a=some o->h'.get? a=some o):Sq t h' a xs:=by
 cases t with
 |true=>obtain⟨o,e,r⟩:=(show h.IsTuple a xs from g);exact(show h'.IsTuple a xs from⟨o,f o e,r⟩)
 |false=>obtain⟨o,e,r⟩:=(show h.IsList a xs from g);exact(show h'.IsList a xs from⟨o,f o e,r⟩)
def Sq.ext{c:Addr}(g:Sq t h a xs)(f:Heap.ExtBut c h h')(n:a≠c):Sq t h' a xs:=g.at λo e=>f a o n e
def It.obj(g:It t h i a k):∃o,h.get? i=some o/\∀v,o.data≠.cell v:=by
 cases t with
 |true=>obtain⟨o,e,_,d⟩:=(show h.IsTupleIter i a k from g);exact⟨o,e,λv n=>by rw[d] at n;cases n⟩
 |false=>obtain⟨o,e,_,d⟩:=(show h.IsListIter i a k from g);exact⟨o,e,λv n=>by rw[d] at n;cases n⟩
end
section
variable{prog:Program}{w:World}{A:Around}{E:Value->Shared->Prop}{s:Shared}{t t2:Bool}{z T O i j a b:Addr}{k:Nat}{xs ys:Array Value}{x y u v:Value}
def draw{Q:Value->Shared->Prop}(c:It t s.heap i a k)(d:Sq t s.heap a xs)(e:xs[k]?=some v)
  (q:∀h',It t h' i a (k+1)->Heap.SameBut i s.heap h'->Q v {s with heap:=h'}):wpAny (model prog w) A (Builtin.SmallTypes.nextOf (.ref i)) Q E s:=by
 cases t with
 |true=>exact Zp.HE c d e q
 |false=>exact wpAny_nextOf_list_item c d e q
def yQ{Q:Value->Shared->Prop}(g:A.handled=none)(c:It t s.heap i a k)(d:Sq t s.heap a xs)(f:xs[k]?=none)
  (q:∀h' e,Heap.ExtBut i s.heap h'->(∃o,h'.get? e=some o/\o.cls=.type "StopIteration")->E (.ref e) {s with heap:=h'}):wpAny (model prog w) A (Builtin.SmallTypes.nextOf (.ref i)) Q E s:=by
 cases t with
 |true=>exact Zp.Hh g c d f q
 |false=>exact wpAny_nextOf_list_end g c d f q
abbrev qD(h:Heap)(z T O:Addr)(c d:Value):Prop:=
 h.get? z=some {cls:=.type "zip",dict:=none,data:=.fields #[c,d,.bool false,.ref T,.ref O],slots:= #[]}
def item(D:ZipApart z T O i j a b){Q:Value->Shared->Prop}(n:qD s.heap z T O .none (.bool false))(gT:IsPair s.heap T (.ref i) (.ref j))(gO:IsPair s.heap O u v)(gi:It t s.heap i a k)(gj:It t2 s.heap j b k)
  (ga:Sq t s.heap a xs) (gb:Sq t2 s.heap b ys) (ex:xs[k]?=some x) (ey:ys[k]?=some y)
  (q:∀h',qD h' z T O (rawInt s.heap.objs.size) (.bool false)->IsPair h' O x y->It t h' i a (k+1)->It t2 h' j b (k+1)->IsPair h' s.heap.objs.size x y->Zp.Rest z O i j s.heap h'->Q (.ref s.heap.objs.size) {s with heap:=h'}):
  wpAny (model prog w) A (Builtin.«zip.__next__» ⟨[.ref z],[]⟩) (λJ s'=>∃r,J=.done (.ret r)/\Q r s') E s:=by
 refine(?_:wpAny _ _ (field (.ref z) 2 >>= _) _ _ _)
 refine Qaq (QMq n rfl (x:=.bool false) rfl ?_)
 refine(?_:wpAny _ _ (field (.ref z) 3 >>= _) _ _ _)
 refine Qaq (QMq n rfl (x:=.ref T) rfl (Qaq (wpAny_seqItems gT rfl ?_)))
 refine(?_:wpAny _ _ (Builtin.SmallTypes.ownedTupleIsFree (.ref z) >>= _) _ _ _)
 refine Qaq ?_
 unfold Builtin.SmallTypes.ownedTupleIsFree
 refine Qaq (QMq n rfl (x:=.none) rfl (Qgq ?_))
 simp only[if_true]
 refine Qaq (wpAny_rule (Qaq (QMq n rfl (x:=.ref O) rfl (Qaq (wpAny_setField_rec n (by simp) λh1 N g=> ?_)))))
 replace N:qD h1 z T O .ellipsis (.bool false):=N
 refine Qaq ?_
 simp only[List.zipIdx_cons,List.zipIdx_nil,List.forIn_nil,List.forIn_cons]
 refine Qaq (Qaq (wpAny_onRaise ?_))
 refine(?_:wpAny _ _ (Builtin.SmallTypes.nextOf (.ref i) >>= _) _ _ _)
 refine Qaq (draw (gi.ext g.extBut D.i1z) (ga.ext g.extBut D.l1z) ex λh2 i2 h=>Qgq ?_)
 have Y:IsPair h2 O u v:=h.extBut _ _ D.TOi1 (g.extBut _ _ D.TOz gO)
 refine Qaq (wpAny_seqItems Y rfl (Qaq (wpAny_updateSeq_pair Y λh3 K l=>Qaq (wpAny_letGo (Qgq ?_)))))
 replace K:IsPair h3 O x v:=K
 refine Qaq (Qaq (wpAny_onRaise ?_))
 refine(?_:wpAny _ _ (Builtin.SmallTypes.nextOf (.ref j) >>= _) _ _ _)
 refine Qaq (draw (((gj.ext g.extBut D.i2z).ext h.extBut D.i12.symm).ext l.extBut D.TOi2.symm) (((gb.ext g.extBut D.l2z).ext h.extBut D.l2i1).ext l.extBut D.l2TO) ey λh4 j4 m=>Qgq ?_)
 have Z:IsPair h4 O x v:=m.extBut _ _ D.TOi2 K
 refine Qaq (wpAny_seqItems Z rfl (Qaq (wpAny_updateSeq_pair Z λd H p=>Qaq (wpAny_letGo (Qgq (Qgq ?_))))))
 replace H:IsPair d O x y:=H
 refine Qaq (wpAny_seqItems H rfl (Qaq (wpAny_newTuple ?_)))
 have W:d.objs.size=s.heap.objs.size:=by rw[p.1,m.1,l.1,h.1,g.1]
 have U:qD d z T O .ellipsis (.bool false):=p.extBut _ _ D.TOz.symm (m.extBut _ _ D.i2z.symm (l.extBut _ _ D.TOz.symm (h.extBut _ _ D.i1z.symm N)))
 have r5:Zp.Rest z O i j s.heap d:=λc o f G I M e=>p.extBut _ _ G (m.extBut _ _ M (l.extBut _ _ G (h.extBut _ _ I (g.extBut _ _ f e))))
 have i5:It t d i a (k+1):=((i2.ext l.extBut D.TOi1.symm).ext m.extBut D.i12).ext p.extBut D.TOi1.symm
 have j5:It t2 d j b (k+1):=j4.ext p.extBut D.TOi2.symm
 have R:z<d.objs.size:=Qiq U
 refine(?_:wpAny _ _ (Builtin.SmallTypes.ownedTupleHandOut (.ref z) (.ref d.objs.size) >>= _) _ _ _)
 refine Qaq ?_
 unfold Builtin.SmallTypes.ownedTupleHandOut
 have z6:qD (d.push {cls:=.type "tuple",data:=.seq #[x,y]}) z T O .ellipsis (.bool false):=Qcq _ U
 refine Qaq (wpAny_setField_rec z6 (by simp) λh7 L P=> ?_)
 replace L:qD h7 z T O (rawInt d.objs.size) (.bool false):=L
 refine wpAny_setField_rec L (by simp) λB F X=> ?_
 replace F:qD B z T O (rawInt d.objs.size) (.bool false):=F
 have C:∀c o,c≠z->d.get? c=some o->B.get? c=some o:=λc o f e=>X.extBut _ _ f (P.extBut _ _ f (Qcq _ e))
 have S:IsPair B d.objs.size x y:=X.extBut _ _ (Nat.ne_of_gt R) (P.extBut _ _ (Nat.ne_of_gt R) (Qrq _ rfl))
 rw[W] at F S
 refine Qgq ⟨_,rfl,?_⟩
 refine(?_:Q (.ref d.objs.size) _)
 rw[W]
 exact q B F (C _ _ D.TOz H) (i5.at λo e=>C _ o D.i1z e) (j5.at λo e=>C _ o D.i2z e) S λc o f G I M e=>C c o f (r5 c o f G I M e)
def alive{α:Addr}{Q:Option Obj->Shared->Prop}(h:Q (s.heap.get? α) s):wpAny (model prog w) A (loadIfAlive α) Q E s:=λ_ _ _=>h
def again(D:ZipApart z T O i j a b){p:Addr}{R:Obj}{n:Value}{Q:Value->Shared->Prop}(l:qD s.heap z T O (rawInt p) n)(X:s.heap.get? p=some R)(gT:IsPair s.heap T (.ref i) (.ref j))(gi:It t s.heap i a k)(M:It t2 s.heap j b k)
  (S:Sq t s.heap a xs) (Z:Sq t2 s.heap b ys) (ex:xs[k]?=some x) (L:ys[k]?=some y)
  (q:∀h',qD h' z T O (rawInt p) (.bool true)->It t h' i a (k+1)->It t2 h' j b (k+1)->IsPair h' s.heap.objs.size x y->Zp.Rest z O i j s.heap h'->Q (.ref s.heap.objs.size) {s with heap:=h'}):
  wpAny (model prog w) A (Builtin.«zip.__next__» ⟨[.ref z],[]⟩) (λH F=>∃r,H=.done (.ret r)/\Q r F) E s:=by
 refine(?_:wpAny _ _ (field (.ref z) 2 >>= _) _ _ _)
 refine Qaq (QMq l rfl (x:=.bool false) rfl ?_)
 refine(?_:wpAny _ _ (field (.ref z) 3 >>= _) _ _ _)
 refine Qaq (QMq l rfl (x:=.ref T) rfl (Qaq (wpAny_seqItems gT rfl ?_)))
 refine(?_:wpAny _ _ (Builtin.SmallTypes.ownedTupleIsFree (.ref z) >>= _) _ _ _)
 refine Qaq ?_
 unfold Builtin.SmallTypes.ownedTupleIsFree
 refine Qaq (QMq l rfl (x:=rawInt p) rfl ?_)
 refine(?_:wpAny _ _ (loadIfAlive ((p:Int).toNat) >>= _) _ _ _)
 refine Qaq ?_
 rw[Int.toNat_natCast]
 refine alive ?_
 rw[X]
 refine(?_:wpAny _ _ (field (.ref z) 1 >>= _) _ _ _)
 refine Qaq (QMq l rfl (x:=n) rfl ?_)
 have J:wpAny (model prog w) A (if (n !=Value.bool true)=true then(do let _←setField (.ref z) 1 (.bool true);pure false) else pure false)
   (λr F=>r=false/\∃g,F={s with heap:=g}/\qD g z T O (rawInt p) (.bool true)/\Heap.SameBut z s.heap g) E s:=by
  by_cases c:(n !=Value.bool true)=true
  ·rw[Qhq c]
   exact Qaq (wpAny_setField_rec l (by simp) λg G d=>Qgq ⟨rfl,g,rfl,G,d⟩)
  ·rw[Quq c]
   have e:n=Value.bool true:=by simpa using c
   subst e
   exact Qgq ⟨rfl,s.heap,rfl,l,Heap.SameBut.refl _ _⟩
 refine QRq J (λr F I=> ?_) λ_ _ h=>h
 obtain⟨rfl,g,rfl,G,d⟩:=I
 simp only[Bool.false_eq_true,if_false]
 refine Qaq ?_
 simp only[List.forIn_toArray,List.forIn_cons,List.forIn_nil]
 refine Qaq (Qaq (QLq ?_))
 refine(?_:wpAny _ _ (Builtin.SmallTypes.nextOf (.ref i) >>= _) _ _ _)
 refine Qaq (draw (gi.ext d.extBut D.i1z) (S.ext d.extBut D.l1z) ex λh2 N m=>Qgq (Qgq ?_))
 refine Qaq (Qaq (QLq ?_))
 refine(?_:wpAny _ _ (Builtin.SmallTypes.nextOf (.ref j) >>= _) _ _ _)
 refine Qaq (draw ((M.ext d.extBut D.i2z).ext m.extBut D.i12.symm) ((Z.ext d.extBut D.l2z).ext m.extBut D.l2i1) L λf W B=>Qgq (Qgq (Qgq ?_)))
 refine Qaq (wpAny_newTuple ?_ (by show 2<=_;decide))
 have sz:f.objs.size=s.heap.objs.size:=by rw[B.1,m.1,d.1]
 have C:∀c o,f.get? c=some o->(f.push {cls:=.type "tuple",data:=.seq #[x,y]}).get? c=some o:=λc o e=>Qcq _ e
 have K:IsPair (f.push {cls:=.type "tuple",data:=.seq #[x,y]}) f.objs.size x y:=Qrq _ rfl
 have U:qD (f.push {cls:=.type "tuple",data:=.seq #[x,y]}) z T O (rawInt p) (.bool true):=C _ _ (B.extBut _ _ D.i2z.symm (m.extBut _ _ D.i1z.symm G))
 refine Qgq ⟨_,rfl,?_⟩
 refine(?_:Q (.ref f.objs.size) _)
 rw[sz] at K⊢
 exact q _ U ((N.ext B.extBut D.i12).at λo e=>C _ o e) (W.at λo e=>C _ o e) K λc o P c2 c3 Y e=>C c o (B.extBut _ _ Y (m.extBut _ _ c3 (d.extBut _ _ P e)))
def stop(D:ZipApart z T O i j a b){Q:Fin->Shared->Prop}(G:A.handled=none)(d:qD s.heap z T O .none (.bool false))(M:IsPair s.heap T (.ref i) (.ref j))(L:It t s.heap i a k)(H:Sq t s.heap a xs)(ex:xs[k]?=none)
  (q:∀h' e,Zp.Rest z O i j s.heap h'->(∃o,h'.get? e=some o/\o.cls=.type "StopIteration")->E (.ref e) {s with heap:=h'}):
  wpAny (model prog w) A (Builtin.«zip.__next__» ⟨[.ref z],[]⟩) Q E s:=by
 refine(?_:wpAny _ _ (field (.ref z) 2 >>= _) _ _ _)
 refine Qaq (QMq d rfl (x:=.bool false) rfl ?_)
 refine(?_:wpAny _ _ (field (.ref z) 3 >>= _) _ _ _)
 refine Qaq (QMq d rfl (x:=.ref T) rfl (Qaq (wpAny_seqItems M rfl ?_)))
 refine(?_:wpAny _ _ (Builtin.SmallTypes.ownedTupleIsFree (.ref z) >>= _) _ _ _)
 refine Qaq ?_
 unfold Builtin.SmallTypes.ownedTupleIsFree
 refine Qaq (QMq d rfl (x:=.none) rfl (Qgq ?_))
 simp only[if_true]
 refine Qaq (wpAny_rule (Qaq (QMq d rfl (x:=.ref O) rfl (Qaq (wpAny_setField_rec d (by simp) λF g h=> ?_)))))
 replace g:qD F z T O .ellipsis (.bool false):=g
 refine Qaq ?_
 simp only[List.zipIdx_cons,List.zipIdx_nil,List.forIn_nil,List.forIn_cons]
 refine Qaq (Qaq (wpAny_onRaise ?_))
 refine(?_:wpAny _ _ (Builtin.SmallTypes.nextOf (.ref i) >>= _) _ _ _)
 refine Qaq (yQ G (L.ext h.extBut D.i1z) (H.ext h.extBut D.l1z) ex λN e m C=> ?_)
 obtain⟨I,f,l⟩:=C
 have r:qD N z T O .ellipsis (.bool false):=m _ _ D.i1z.symm g
 have K:e≠z:=λn=>by rw[n,r] at f;cases f;simp at l
 exact wpAny_setField_rec r (by simp) λJ _ B=>q J e (λc o p _ P _ n=>B.extBut _ _ p (m _ _ P (h.extBut _ _ p n))) ⟨I,B.extBut _ _ K f,l⟩
def Gx(D:ZipApart z T O i j a b){p:Addr}{J:Obj}{l:Value}{Q:Fin->Shared->Prop}(H:A.handled=none)(f:qD s.heap z T O (rawInt p) l)(L:s.heap.get? p=some J)(P:IsPair s.heap T (.ref i) (.ref j))(N:It t s.heap i a k)(K:Sq t s.heap a xs)(ex:xs[k]?=none)
  (q:∀h' e,Zp.Rest z O i j s.heap h'->(∃o,h'.get? e=some o/\o.cls=.type "StopIteration")->E (.ref e) {s with heap:=h'}):
  wpAny (model prog w) A (Builtin.«zip.__next__» ⟨[.ref z],[]⟩) Q E s:=by
 refine(?_:wpAny _ _ (field (.ref z) 2 >>= _) _ _ _)
 refine Qaq (QMq f rfl (x:=.bool false) rfl ?_)
 refine(?_:wpAny _ _ (field (.ref z) 3 >>= _) _ _ _)
 refine Qaq (QMq f rfl (x:=.ref T) rfl (Qaq (wpAny_seqItems P rfl ?_)))
 refine(?_:wpAny _ _ (Builtin.SmallTypes.ownedTupleIsFree (.ref z) >>= _) _ _ _)
 refine Qaq ?_
 unfold Builtin.SmallTypes.ownedTupleIsFree
 refine Qaq (QMq f rfl (x:=rawInt p) rfl ?_)
 refine(?_:wpAny _ _ (loadIfAlive ((p:Int).toNat) >>= _) _ _ _)
 refine Qaq ?_
 rw[Int.toNat_natCast]
 refine alive ?_
 rw[L]
 refine(?_:wpAny _ _ (field (.ref z) 1 >>= _) _ _ _)
 refine Qaq (QMq f rfl (x:=l) rfl ?_)
 have B:wpAny (model prog w) A (if (l !=Value.bool true)=true then(do let _←setField (.ref z) 1 (.bool true);pure false) else pure false)
   (λr F=>r=false/\∃d,F={s with heap:=d}/\qD d z T O (rawInt p) (.bool true)/\Heap.SameBut z s.heap d) E s:=by
  by_cases c:(l !=Value.bool true)=true
  ·rw[Qhq c]
   exact Qaq (wpAny_setField_rec f (by simp) λd C g=>Qgq ⟨rfl,d,rfl,C,g⟩)
  ·rw[Quq c]
   have e:l=Value.bool true:=by simpa using c
   subst e
   exact Qgq ⟨rfl,s.heap,rfl,f,Heap.SameBut.refl _ _⟩
 refine QRq B (λr F m=> ?_) λ_ _ h=>h
 obtain⟨rfl,d,rfl,C,g⟩:=m
 simp only[Bool.false_eq_true,if_false]
 refine Qaq ?_
 simp only[List.forIn_toArray,List.forIn_cons,List.forIn_nil]
 refine Qaq (Qaq (QLq ?_))
 refine(?_:wpAny _ _ (Builtin.SmallTypes.nextOf (.ref i) >>= _) _ _ _)
 refine Qaq (yQ H (N.ext g.extBut D.i1z) (K.ext g.extBut D.l1z) ex λR e G M=> ?_)
 exact q R e (λc o I _ S _ n=>G _ _ S (g.extBut _ _ I n)) M
def Zs(h:Heap)(z T O i j:Addr):Prop:=qD h z T O .none (.bool false)/\(∃u v,IsPair h O u v)\/∃(p:Addr) (c:Obj) (d:Value),qD h z T O (rawInt (p:Nat)) d/\h.get? p=some c/\p≠z/\p≠O/\p≠i/\p≠j
def Zs.but{h h':Heap}{S:Addr}(g:Zs h z T O i j)(f:∀c o,c≠S->h.get? c=some o->h'.get? c=some o)(e:z≠S)(m:O≠S)(F:∃o,h'.get? S=some o):Zs h' z T O i j:=by
 rcases g with⟨d,u,v,q⟩|⟨p,r,l,d,C,n⟩
 ·exact .inl ⟨f _ _ e d,u,v,f _ _ m q⟩
 ·by_cases c:p=S
  ·subst c
   obtain⟨o,B⟩:=F
   exact .inr ⟨p,o,l,f _ _ e d,B,n⟩
  ·exact .inr ⟨p,r,l,f _ _ e d,f _ _ c C,n⟩
def Bi(D:ZipApart z T O i j a b){Q:Option Value->Shared->Prop}(d:Zs s.heap z T O i j)(R:IsPair s.heap T (.ref i) (.ref j))(C:It t s.heap i a k)(m:It t2 s.heap j b k)
  (J:Sq t s.heap a xs) (M:Sq t2 s.heap b ys) (ex:xs[k]?=some x) (G:ys[k]?=some y)
  (q:∀h',Zs h' z T O i j->It t h' i a (k+1)->It t2 h' j b (k+1)->IsPair h' s.heap.objs.size x y->Zp.Rest z O i j s.heap h'->Q (some (.ref s.heap.objs.size)) {s with heap:=h'}):
  wpAny (model prog w) A (pyNext (.ref z)) Q E s:=by
 unfold pyNext
 have g:∀{c o},s.heap.get? c=some o->s.heap.objs.size≠c:=λe=>Nat.ne_of_gt (Qiq e)
 obtain⟨oi,S,_⟩:=C.obj
 obtain⟨X,W,_⟩:=m.obj
 rcases d with⟨d,u,v,I⟩|⟨p,U,Y,d,K,H,N,P,L⟩
 ·have f:s.TypeIs (.ref z) "zip":=⟨_,d,rfl⟩
  exact Qaq (wpAny_attempt (QiQ (name:=Str.ofString "__next__") f F.slot_zip_next (wpAny_call_entry F.slot_zip_next f F.entry_zip_next
   (item D d R I C m J M ex G λh' r Z B n h l=>Qgq (q h' (.inr ⟨_,_,_,r,h,g d,g I,g S,g W⟩) B n h l)) (F.args_zip_next_1 _))))
 ·have f:s.TypeIs (.ref z) "zip":=⟨_,d,rfl⟩
  exact Qaq (wpAny_attempt (QiQ (name:=Str.ofString "__next__") f F.slot_zip_next (wpAny_call_entry F.slot_zip_next f F.entry_zip_next
   (again D d K R C m J M ex G λh' r B n h l=>Qgq (q h' (.inr ⟨p,U,_,r,l _ _ H N P L K,H,N,P,L⟩) B n h l)) (F.args_zip_next_1 _))))
def v5(D:ZipApart z T O i j a b){Q:Option Value->Shared->Prop}(h:A.handled=none)(c:Zs s.heap z T O i j)(n:IsPair s.heap T (.ref i) (.ref j))(m:It t s.heap i a k)(l:Sq t s.heap a xs)(ex:xs[k]?=none)
  (q:∀h',Zp.Rest z O i j s.heap h'->Q none {s with heap:=h'}):wpAny (model prog w) A (pyNext (.ref z)) Q E s:=by
 unfold pyNext
 rcases c with⟨c,u,v,C⟩|⟨p,G,H,c,B,_⟩
 ·have d:s.TypeIs (.ref z) "zip":=⟨_,c,rfl⟩
  exact Qaq (wpAny_attempt (QiQ (name:=Str.ofString "__next__") d F.slot_zip_next (wpAny_call_entry F.slot_zip_next d F.entry_zip_next
   (stop D h c n m l ex λh' e r ⟨o,g,f⟩=>Qaq (wpAny_isInstance (T:="StopIteration") (b:=true) ⟨o,g,f⟩ isSubtype_stop (Qgq (q _ r)))) (F.args_zip_next_1 _))))
 ·have d:s.TypeIs (.ref z) "zip":=⟨_,c,rfl⟩
  exact Qaq (wpAny_attempt (QiQ (name:=Str.ofString "__next__") d F.slot_zip_next (wpAny_call_entry F.slot_zip_next d F.entry_zip_next
   (Gx D h c B n m l ex λh' e r ⟨o,g,f⟩=>Qaq (wpAny_isInstance (T:="StopIteration") (b:=true) ⟨o,g,f⟩ isSubtype_stop (Qgq (q _ r)))) (F.args_zip_next_1 _))))
end
def JE(t:Bool):String:=if t=true then "tuple_iterator" else "list_iterator"
abbrev H1(t:Bool)(h:Heap)(a:Addr):Heap:=h.push {cls:=.type (JE t),data:=.fields #[.ref a,.int 0 0]}
abbrev H2(t t2:Bool)(h:Heap)(a b:Addr):Heap:=(H1 t h a).push {cls:=.type (JE t2),data:=.fields #[.ref b,.int 0 0]}
abbrev H3(t t2:Bool)(h:Heap)(a b:Addr):Heap:=(H2 t t2 h a b).push {cls:=.type "tuple",data:=.seq #[.ref h.objs.size,.ref (H1 t h a).objs.size]}
abbrev H4(t t2:Bool)(h:Heap)(a b:Addr):Heap:=(H3 t t2 h a b).push {cls:=.type "tuple",data:=.seq #[.none,.none]}
abbrev H5(t t2:Bool)(h:Heap)(a b:Addr):Heap:=(H4 t t2 h a b).push {cls:=.type "zip",data:=.fields #[.none,.bool false,.bool false,.ref (H2 t t2 h a b).objs.size,.ref (H3 t t2 h a b).objs.size]}
def Sq.push{t:Bool}{h:Heap}{a:Addr}{xs:Array Value}(g:Sq t h a xs)(o:Obj):Sq t (h.push o) a xs:=g.at λ_ e=>Qcq _ e
def yT(t t2:Bool)(a b:Addr)(xs ys:Array Value):Meets (Builtin.«zip.__new__» ⟨[.type "zip",.ref a,.ref b],[]⟩) (λ_ R s=>Sq t s.heap a xs/\Sq t2 s.heap b ys/\R (.ok (.ret (.ref (H4 t t2 s.heap a b).objs.size))) {s with heap:=H5 t t2 s.heap a b}):=
 .of_wp λm w A R s h=>by
  obtain⟨f,g,d,i,e⟩:=s
  obtain⟨l,o,h⟩:=h
  have n:=sub_zip
  have c:=o.push {cls:=.type (JE t),data:=.fields #[.ref a,.int 0 0]}
  cases t <;>cases t2
  ·have j:Heap.IsList (Shared.heap ⟨f,g,d,i,e⟩) a xs:=l
   have k:Heap.IsList (Shared.heap ⟨f.push {cls:=.type "list_iterator",data:=.fields #[.ref a,.int 0 0]},g,d,i,e⟩) b ys:=c
   wp_walk using wpAny_pyIter_list j,wpAny_pyIter_list k
   exact⟨_,rfl,h⟩
  ·have j:Heap.IsList (Shared.heap ⟨f,g,d,i,e⟩) a xs:=l
   have k:Heap.IsTuple (Shared.heap ⟨f.push {cls:=.type "list_iterator",data:=.fields #[.ref a,.int 0 0]},g,d,i,e⟩) b ys:=c
   wp_walk using wpAny_pyIter_list j,wpAny_pyIter_tuple k
   exact⟨_,rfl,h⟩
  ·have j:Heap.IsTuple (Shared.heap ⟨f,g,d,i,e⟩) a xs:=l
   have k:Heap.IsList (Shared.heap ⟨f.push {cls:=.type "tuple_iterator",data:=.fields #[.ref a,.int 0 0]},g,d,i,e⟩) b ys:=c
   wp_walk using wpAny_pyIter_tuple j,wpAny_pyIter_list k
   exact⟨_,rfl,h⟩
  ·have j:Heap.IsTuple (Shared.heap ⟨f,g,d,i,e⟩) a xs:=l
   have k:Heap.IsTuple (Shared.heap ⟨f.push {cls:=.type "tuple_iterator",data:=.fields #[.ref a,.int 0 0]},g,d,i,e⟩) b ys:=c
   wp_walk using wpAny_pyIter_tuple j,wpAny_pyIter_tuple k
   exact⟨_,rfl,h⟩
section
variable{prog:Program}{w:World}{A:Around}{E:Value->Shared->Prop}{s:Shared}
def D0{t t2:Bool}{a b:Addr}{xs ys:Array Value}{Q:Value->Shared->Prop}(m:Sq t s.heap a xs)(p:Sq t2 s.heap b ys)
  (q:∀h',qD h' (s.heap.objs.size+4) (s.heap.objs.size+2) (s.heap.objs.size+3) .none (.bool false)->IsPair h' (s.heap.objs.size+2) (.ref s.heap.objs.size) (.ref (s.heap.objs.size+1))->IsPair h' (s.heap.objs.size+3) .none .none→
   It t h' s.heap.objs.size a 0->It t2 h' (s.heap.objs.size+1) b 0->(∀c o,s.heap.get? c=some o->h'.get? c=some o)->Q (.ref (s.heap.objs.size+4)) {s with heap:=h'}):
  wpAny (model prog w) A (call (.type "zip") [.ref a,.ref b]) Q E s:=by
 refine callType_new F.called_zip (by decide) (F.typeCall_zip_2 _ _) (F.newCall_zip_2 _ _) (λg=>F.args_object_init_3 g _ _) F.entry_zip_new (yT t t2 a b xs ys) ⟨m,p,?_⟩
 have e:(H1 t s.heap a).objs.size=s.heap.objs.size+1:=Heap.size_push ..
 have d:(H2 t t2 s.heap a b).objs.size=s.heap.objs.size+2:=by rw[Heap.size_push,e]
 have h:(H3 t t2 s.heap a b).objs.size=s.heap.objs.size+3:=by rw[Heap.size_push,d]
 have i:(H4 t t2 s.heap a b).objs.size=s.heap.objs.size+4:=by rw[Heap.size_push,h]
 have f:(H5 t t2 s.heap a b).get? (H4 t t2 s.heap a b).objs.size=some _:=Qrq _ rfl
 have k:(H5 t t2 s.heap a b).get? (H3 t t2 s.heap a b).objs.size=some _:=Qcq _ (Qrq _ rfl)
 have j:(H5 t t2 s.heap a b).get? (H2 t t2 s.heap a b).objs.size=some _:=Qcq _ (Qcq _ (Qrq _ rfl))
 have l:(H5 t t2 s.heap a b).get? (H1 t s.heap a).objs.size=some _:=Qcq _ (Qcq _ (Qcq _ (Qrq _ rfl)))
 have r:(H5 t t2 s.heap a b).get? s.heap.objs.size=some _:=Qcq _ (Qcq _ (Qcq _ (Qcq _ (Qrq _ rfl))))
 refine(?_:_/\_)
 rw[d,h,i] at f
 rw[e,d] at j
 rw[h] at k
 rw[e] at l
 rw[i]
 refine⟨⟨_,f,rfl⟩,q _ f j k ?_ ?_ λc o n=>Qcq _ (Qcq _ (Qcq _ (Qcq _ (Qcq _ n))))⟩
 ·cases t <;>exact⟨_,r,rfl,rfl⟩
 ·cases t2 <;>exact⟨_,l,rfl,rfl⟩
end
def mO:typeLookup (.type "zip") "__getattr__"=pure none:=by rw[typeLookup_type,builtinLookup_eq_fast];kernel_rfl
def ib:entryFor table "zip.__getattribute__"=some Builtin.«object.__getattribute__»:=
 entryFor_alias (id':="object.__getattribute__") (by kernel_rfl) (by decide +kernel) (by decide +kernel) (by kernel_rfl)
def nY:typeLookup (Value.type "zip") (Str.ofString "keys")=pure none:=by
 rw[typeLookup_type,builtinLookup_eq_fast]
 rfl
def pP(a:Addr)(fs:Array Value)(name:Str)(u:Tok)(e:typeLookup (.type "zip") name=pure none)(b:(["__module__","__name__","__qualname__","__doc__","__annotations__"]:List Str).contains name=false)(hsz:name.length+100<=sizeLine:=by size_fits):
  Meets (Builtin.«object.__getattribute__» ⟨[.ref a,.str name u],[]⟩) (λA R s=>s.heap.get? a=some {cls:=.type "zip",dict:=none,data:=.fields fs,slots:= #[]}/\raisesAttr (.ref a) name A R s):=
 Meets.of_wp λf w A R s c=>by
  obtain⟨i,g,d,k,h⟩:=s
  obtain⟨j,c⟩:=c
  have l:(⟨i,g,d,k,h⟩:Shared).TypeIs (.ref a) "zip":=⟨_,j,rfl⟩
  unfold Builtin.«object.__getattribute__»
  repeat (any_goals (first|assumption|wp_step))
  simp only[b,Bool.false_eq_true,if_false]
  repeat (any_goals (first|assumption|wp_step))
  exact wpAny_raiseAttrError c.1 c.2 (attrMsg_fits (by decide +kernel) hsz)
def yU{prog:Program}{w:World}{A:Around}{E:Value->Shared->Prop}{s:Shared}{a:Addr}{fs:Array Value}{Q:Option Value->Shared->Prop}
  (j:s.heap.get? a=some {cls:=.type "zip",dict:=none,data:=.fields fs,slots:= #[]}) (q:A.handled=none)
  (h:∀(h':Heap) (i:Nat),(∀b o,s.heap.get? b=some o->h'.get? b=some o)->Q none {s with heap:=h',toks:=i}):
  wpAny (model prog w) A (getAttr? (.ref a) (Str.ofString "keys")) Q E s:=by
 obtain⟨r,g,d,i,k⟩:=s
 have n:∀x,Shared.TypeIs ⟨r,g,d,x,k⟩ (.ref a) "zip":=λx=>⟨_,j,rfl⟩
 have l:=sub_AttributeError
 have p:=F.slot_zip_getattribute.lookup
 have t:=F.slot_zip_getattribute.bind (Value.ref a)
 have v:=mO
 unfold getAttr? mkText getAttrBy? getAttrBy
 refine Qaq (Qaq (wpAny_fresh' (Qgq (Qaq (wpAny_attempt (QLq ?_))))))
 unfold typeOf
 refine Qaq (Qaq (wpAny_loadPart' j (Qgq (Qaq (wpAny_of_eq p (QgQ rfl ?_))))))
 unfold getAttrByItsOwn hookBefore
 refine Qaq (QgQ rfl (Qgq (Qaq (wpAny_attempt (QLq ?_)))))
 unfold callGetattribute
 refine QgQ rfl ?_
 unfold boundAndCalled
 refine Qaq (wpAny_of_eq t ?_)
 refine call_meets F.slot_zip_getattribute (n (i+1)) ib (F.args_zip_getattribute_2 (Value.ref a) _) (pP a fs (Str.ofString "keys") i nY (by decide +kernel) (by decide +kernel)) ⟨j,q,λh' c e f=> ?_⟩
 obtain⟨y,z,u⟩:=f.there
 have m:Shared.TypeIs ⟨h',g,d,c,k⟩ (.ref e) "AttributeError":=⟨_,u,rfl⟩
 show wpAny _ _ (getattributeRaised _ _ _ _ _ _ _) _ _ _
 unfold getattributeRaised
 refine Qaq (wpAny_isInstance m l (wpAny_ite_true rfl ?_))
 unfold hookBehind hookOrError
 refine Qaq (QgQ rfl (wpAny_of_eq v ?_))
 show wpAny _ _ (attributeErrorLeaves _ _ _ _ _) _ _ _
 unfold attributeErrorLeaves
 refine wpAny_ite_true rfl (wpAny_throw ?_)
 exact Qaq (wpAny_isInstance m l (wpAny_ite_true rfl (Qgq (h h' c f.keeps))))
def qW{prog:Program}{w:World}{A:Around}{E:Value->Shared->Prop}{s:Shared}{z:Addr}{fs:Array Value}{Q:Value->Shared->Prop}
  (k:s.heap.get? z=some {cls:=.type "zip",dict:=none,data:=.fields fs,slots:= #[]}) (i:A.handled=none)
  (h:∀(h':Heap) (d:Nat),(∀b o,(s.heap.push {cls:=.type "dict",data:=.dict #[]}).get? b=some o->h'.get? b=some o)→
   wpAny (model prog w) A.in1.in1 (pyIter (.ref z)) (λit f=>codeAny (model prog w) A.in1 (.builtin "dict.update.loop" {pos:= [.ref s.heap.objs.size,it,rawInt 0,.none]}) (wants (λr a=>r=.none/\Q (.ref s.heap.objs.size) a) E) f) E {s with heap:=h',toks:=d}):
  wpAny (model prog w) A (call (.type "dict") [.ref z]) Q E s:=by
 refine Dk.uW ?_
 have j:=Qrq s.heap (o:={cls:=.type "dict",data:=.dict #[]}) rfl
 have g:Shared.TypeIs {s with heap:=s.heap.push {cls:=.type "dict",data:=.dict #[]}} (.ref s.heap.objs.size) "dict":=⟨_,j,rfl⟩
 have c:=Qcq {cls:=.type "dict",data:=.dict #[]} k
 have l:Shared.TypeIs {s with heap:=s.heap.push {cls:=.type "dict",data:=.dict #[]}} (.ref z) "zip":=⟨_,c,rfl⟩
 unfold Builtin.«dict.__init__» Builtin.Dict.selfAndRest
 refine Qaq (Qaq (wpAny_notOrdered_dict g ?_))
 refine Qaq (Qgq (Qgq ?_))
 show wpAny _ _ (Builtin.Dict.updateFrom _ _ _ _ _) _ _ _
 unfold Builtin.Dict.updateFrom
 refine Qaq (wpAny_typeOf l (wpAny_ite_true (by decide +kernel) (Qaq (yU c (by simpa using i) λh' d m=> ?_))))
 refine wpAny_ite_true rfl ?_
 refine Qaq (wpAny_rule (Qaq (QRq (h h' d m) (λit f q=> ?_) λe f q=>q)))
 exact Qgq ⟨plainId_quiet (by decide +kernel) _,q⟩
end Zq
namespace Zq
open PySem Dk
section
variable{prog:Program}{w:World}{K:Type}[DecidableEq K]{knd:KeyKind prog w K}{z T O i j a b S:Addr}{t t2:Bool}{xs ys:Array Value}
def wU{A:Around}{R:Result->Shared->Prop}(hA:A.in1.handled=none)(D:ZipApart z T O i j a b)(nS:S≠z/\S≠T/\S≠O/\S≠i/\S≠j/\S≠a/\S≠b)(a5:a≠T/\b≠T)(f:Nat->K)(x:∀(n:Nat) v,xs[n]?=some v->knd.is (f n) v=true)(a4:xs.size<=ys.size)(hn:xs.size<=sizeLine):
  ∀ (m n:Nat) (c:Int) (s:Shared),xs.size-n=m->n<=xs.size->Zs s.heap z T O i j->IsPair s.heap T (.ref i) (.ref j)->It t s.heap i a n->It t2 s.heap j b n->Sq t s.heap a xs->Sq t2 s.heap b ys->Heap.DictOf knd s.heap S (F1 f (λn=>ys.getD n .none) n)→
    (∀h' tk,Heap.DictOf knd h' S (F1 f (λn=>ys.getD n .none) xs.size)->(∀c o,c≠z->c≠O->c≠i->c≠j->c≠S->s.heap.get? c=some o->h'.get? c=some o)->R (.ok (.ret .none)) {s with heap:=h',toks:=tk})→
    codeAny (model prog w) A (.builtin "dict.update.loop" {pos:= [.ref S,.ref z,rawInt c,.none]}) R s:=by
 obtain⟨n1,n2,Y,n4,X,n6,n7⟩:=nS
 intro m
 induction m with
 | zero=>
   intro n c s hm M W F gi gj C U Z h
   have e:n=xs.size:=by omega
   subst e
   refine codeAny_builtin iO ?_
   rw[Around.under_plainId fh]
   show wpAny _ _ (do let __x←pyNext (.ref z);_) _ _ _
   refine Qaq (v5 D hA W F gi C (by simp) λh' r=> ?_)
   refine Qaq (Qgq (Qgq (h h' s.toks ?_ λc o g l p k _ e=>r c o g l p k e)))
   obtain⟨o,P,G,I,h2⟩:=Z
   exact⟨o,P,G,r _ _ n1 Y n4 X I,h2⟩
 | succ m ih=>
   intro n c s hm M W F gi gj C U Z h
   have u:n<xs.size:=by omega
   have ex:xs[n]?=some xs[n]:=by simp[u]
   have ey:ys[n]?=some ys[n]:=by simp[show n<ys.size by omega]
   refine codeAny_builtin iO ?_
   rw[Around.under_plainId fh]
   show wpAny _ _ (do let __x←pyNext (.ref z);_) _ _ _
   refine Qaq (Bi D W F gi gj C U ex ey λhp Q a1 a3 gp r=> ?_)
   have J:Heap.DictOf knd hp S (F1 f (λn=>ys.getD n .none) n):=by
     obtain⟨o,P,G,I,h2⟩:=Z
     exact⟨o,P,G,r _ _ n1 Y n4 X I,h2⟩
   refine Qaq (QLq (Qaq (wpAny_tryCatch ?_)))
   unfold Builtin.Dict.pairItems
   refine Qaq (wpAny_typeOf (T:="tuple") ⟨_,gp,rfl⟩ (wpAny_ite_true rfl (Qaq ?_)))
   unfold seqItems?
   refine Qaq (wpAny_load' gp (Qgq (Qgq (QLq (wpAny_dictSet_pairs (x n _ ex) J (λh' q hs=> ?_) (QAq (yB f _ n) (by omega)))))))
   have ev:ys.getD n .none=ys[n]:=by simp[Array.getD,show n<ys.size by omega]
   have y:∀c o,c≠S->hp.get? c=some o->h'.get? c=some o:=λc o hc e=>by rw[hs.2 c hc];exact e
   have d:∀c o,c≠z->c≠O->c≠i->c≠j->c≠S->s.heap.get? c=some o->h'.get? c=some o:=λc o g l p k B e=>y c o B (r c o g l p k e)
   have H:∃o,h'.get? S=some o:=by obtain⟨o,_,_,e,_⟩:=q;exact⟨o,e⟩
   have N:Heap.DictOf knd h' S (F1 f (λn=>ys.getD n .none) (n+1)):=by
     show Heap.DictOf knd h' S (stored _ (f n) (ys.getD n .none))
     rw[ev]
     exact q
   refine Qgq ⟨plainId_quiet fh _,ih (n+1) (c+1) _ (by omega) u (Q.but y n1.symm Y.symm H) ?_ (a1.at λo e=>y _ o n4.symm e) (a3.at λo e=>y _ o X.symm e) ?_ ?_ N λL tk a2 k4=>h L tk a2 λc o g l p k B e=>k4 c o g l p k B (d c o g l p k B e)⟩
   · exact d _ _ D.TIz D.TITO D.TIi1 D.TIi2 n2.symm F
   · exact C.at λo e=>d _ o D.l1z D.l1TO D.l1i1 D.l1i2 n6.symm e
   · exact U.at λo e=>d _ o D.l2z D.l2TO D.l2i1 D.l2i2 n7.symm e
end
end Zq
namespace L2
open PySem PySem.Spec PyProof.Rows Zq
section
variable{X:Cx}
def u9(K:PySem.W.Frag)(t:Bool)(H:Hp)(a:Addr)(xs:List V):Prop:=if t=true then fK K H a xs else gJ K H a xs
def Inv.sq{c:List (Addr×Obj)}{d:St}{H:Hp}{s:Shared}{t:Bool}{a:Addr}{xs:List V}(I:Inv X c d H s)(h:u9 X.K t H a xs):∃b:List Value,a_ xs b/\Sq t s.heap a b.toArray/\xs.length<=sizeLine:=by
 cases t with
 | true=>
   obtain⟨b,r,p,z⟩:=I.tuple h
   exact⟨b,r,(show s.heap.IsTuple a b.toArray from p),z⟩
 | false=>
   obtain⟨b,r,p,z⟩:=I.list h
   exact⟨b,r,(show s.heap.IsList a b.toArray from p.isList),z⟩
def Sq.lt{t:Bool}{h:Heap}{a:Addr}{xs:Array Value}(g:Sq t h a xs):a<h.objs.size:=by
 cases t with
 |true=>obtain⟨o,e,_⟩:=(show h.IsTuple a xs from g);exact Qiq e
 |false=>obtain⟨o,e,_⟩:=(show h.IsList a xs from g);exact Qiq e
def FN(K:PySem.W.Frag):List V->Hp->VK->Prop:=λe H Q=>∃(t f:Bool) (a b:Addr) (d:List Key) (c:List V),e= [.ref a,.ref b]/\u9 K t H a (d.map kV)/\u9 K f H b c/\d.length=c.length/\∀p,H p=none->Q (.ref p) (upd H p (.dK (ip [] (d.zip c))))
def xG{x y:Expr}{ta:TA}{p1 U c1 J:Pos}(B:X.calm=true)(a5:Gl X "dict")(a2:X.mg "dict"=none)(hg:Gl X "zip")(hm:X.mg "zip"=none)(ha:PA X [x,y] ta)(hs:starEach [x,y] X.env= [(false,eval x X.env),(false,eval y X.env)]:=by rfl)(P:starEach [y] X.env= [(false,eval y X.env)]:=by rfl)
  (he:starEach [Expr.Call (.Name "zip" U) [x,y] [] J] X.env= [(false,eval (Expr.Call (.Name "zip" U) [x,y] [] J) X.env)]:=by rfl):
  PE X (.Call (.Name "dict" p1) [.Call (.Name "zip" U) [x,y] [] J] [] c1) (IJ (FN X.K) ta):=by
 intro C s σ H Q I h
 refine wpAny_Call_Name_kw (jh I a5 a2 (by rfl) ?_)
 refine PyProof.Rows.callWith_type1 ?_ he rfl
 rw[he]
 show wpAny _ _ (spliced ((false,eval (Expr.Call (.Name "zip" U) [x,y] [] J) X.env)::backTo c1 (starEach [] X.env))) _ _ s
 refine Calls.spliced_cons ?_
 refine wpAny_Call_Name_kw (jh I hg hm (by rfl) ?_)
 refine PyProof.Rows.callWith_type1 (cg (ha J C s σ H _ I h) λus j ⟨vs,H1,G,r1,q1⟩=> ?_) (by rw[hs,P]) (by rw[P];rfl)
 obtain⟨t,t2,a,b,d,ys,e,qa,qb,hl,q⟩:=q1
 subst e
 cases r1 with
 | cons r rr=>
   cases rr with
   | cons r' rr=>
     cases rr
     cases r
     cases r'
     obtain⟨m,ra,pa,za⟩:=G.sq qa
     obtain⟨z,rb,pb,zb⟩:=G.sq qb
     have lx:=Sq.lt pa
     have ly:=Sq.lt pb
     have la:=ra.length
     have lb:=rb.length
     rw[lQm] at la
     refine Zq.D0 pa pb λg Y gT gO gi gj R=>Calls.spliced_nil ?_
     have I2:Inv X C σ H1 {j with heap:=g}:=G.kept (t':=j.toks) R
     refine Zq.qW Y (G.ok.hd B) λS tk k2=> ?_
     have p:∀c o,g.get? c=some o->S.get? c=some o:=λc o e=>k2 c o (Qcq _ e)
     have a6:S.get? g.objs.size=some {cls:=.type "dict",data:=.dict #[]}:=k2 _ _ (Qrq g rfl)
     refine wpAny_pyIter_zip (p _ _ Y) ?_
     have DD:=PyProof.Rows.zipApart_new lx ly
     have f:j.heap.objs.size+4<g.objs.size:=Qiq Y
     have M:∀(n:Nat) k,d[n]?=some k->d.getD n (.inl 0)=k:=λn k e=>by rw[Qlq,e];rfl
     have F:∀c,c<j.heap.objs.size->c≠j.heap.objs.size+4/\c≠j.heap.objs.size+3/\c≠j.heap.objs.size/\c≠j.heap.objs.size+1/\c≠g.objs.size:=λc B=>
       ⟨Qwq (Qqq B (Nat.le_add_right _ _)),Qwq (Qqq B (Nat.le_add_right _ _)),Qwq B,Qwq (Qqq B (Nat.le_add_right _ _)),Qwq (Nat.lt_trans (Qqq B (Nat.le_add_right _ 4)) f)⟩
     refine Zq.wU (knd:=bg X.prog X.w) (t:=t) (t2:=t2) (xs:=m.toArray) (ys:=z.toArray) (show X.A.in1.in1.handled=none from G.ok.hd B) DD ?_ ?_ (λn=>d.getD n (.inl 0)) ?_ (by simp;omega) (by simp;omega) m.toArray.size 0 0 _ rfl (Nat.zero_le _)
       (.inl ⟨p _ _ Y,_,_,p _ _ gO⟩) (p _ _ gT) (gi.at λo e=>p _ o e) (gj.at λo e=>p _ o e) (pa.at λo e=>p _ o (R _ o e)) (pb.at λo e=>p _ o (R _ o e)) ?_ ?_
     · refine⟨Nat.ne_of_gt f,Nat.ne_of_gt (Nat.lt_trans ?_ f),Nat.ne_of_gt (Nat.lt_trans ?_ f),Nat.ne_of_gt (Nat.lt_trans ?_ f),Nat.ne_of_gt (Nat.lt_trans ?_ f),(F _ lx).2.2.2.2.symm,(F _ ly).2.2.2.2.symm⟩ <;>(show _<j.heap.objs.size+4) <;>omega
     · exact⟨Qwq (Qqq lx (Nat.le_add_right _ _)),Qwq (Qqq ly (Nat.le_add_right _ _))⟩
     · intro n v hv
       have N:m[n]?=some v:=by simpa using hv
       have hn:n<d.length:=by
         have:=(gQs.mp N).1
         omega
       have L:=gQe hn
       obtain⟨u,W,Z⟩:=ra.get (i:=n) (x:=kV d[n]) (by rw[gQm,L];rfl)
       rw[N] at W
       cases W
       show(bg X.prog X.w).is (d.getD n (.inl 0)) v=true
       rw[M n _ L]
       exact key_is Z _ _
     · obtain⟨o,es,ep,e1,e2⟩:=Heap.DictOf.new (knd:=bg X.prog X.w) g
       exact⟨o,es,ep,k2 _ _ e1,e2⟩
     · intro h3 a4 dd k3
       have a1:g.objs.size≠sysModules:=by
         have:=I2.big
         exact Nat.ne_of_gt this
       have le:j.heap.objs.size<=g.objs.size:=nQl (Nat.lt_of_le_of_lt (Nat.le_add_right _ 4) f)
       refine⟨rfl,.ref g.objs.size,_,G.laid (a:=g.objs.size) (o:=.dK (ip [] (d.zip ys))) (t':=a4) (h':=h3) (λc o e=> ?_) le (pF ?_ (beq_eq_false_iff_ne.mpr a1) ?_ dd),rfl,q _ (G.hok.fresh le)⟩
       · obtain⟨o1,o2,o3,o4,o5⟩:=F c (Qiq e)
         exact k3 c o o1 o2 o3 o4 o5 (p c o (R c o e))
       · have:=gF (d.zip ys) []
         rw[QGq,List.length_zip] at this
         omega
       · have a3:∀n,n<=d.length->KV (ip [] ((d.zip ys).take n)) (Dk.F1 (λn=>d.getD n (.inl 0)) (λn=>z.toArray.getD n .none) n):=by
           intro n
           induction n with
           |zero=>intro _;exact .nil
           | succ n ih=>
             intro hn
             have L:=gQe (l:=d) (i:=n) (by omega)
             have hy:=gQe (l:=ys) (i:=n) (by omega)
             obtain⟨u,W,Z⟩:=rb.get hy
             have ez:(d.zip ys)[n]?=some (d[n],ys[n]):=by rw[List.getElem?_zip_eq_some];exact⟨L,hy⟩
             have e3:(d.zip ys).take (n+1)=(d.zip ys).take n++ [(d[n],ys[n])]:=by rw[QYq,ez];rfl
             have eu:z.toArray.getD n .none=u:=by
               have:=(gQs.mp W)
               obtain⟨g,S⟩:=this
               simp[Array.getD,g,S]
             rw[e3]
             show KV (List.foldl _ [] ((d.zip ys).take n++ [(d[n],ys[n])])) (stored _ (d.getD n (.inl 0)) (z.toArray.getD n .none))
             rw[List.foldl_append,M n _ L,eu]
             exact(ih (by omega)).put d[n] Z
         have:=a3 d.length (Qmq _)
         have e4:(d.zip ys).take d.length=d.zip ys:=by
           have:(d.zip ys).length=d.length:=by rw[List.length_zip];omega
           rw[←this,QEq]
         rw[e4] at this
         have e5:m.toArray.size=d.length:=by simp;omega
         rw[e5]
         exact this
end
end L2
namespace Zq
open PySem
section
variable{prog:Program}{w:World}{A:Around}{E:Value->Shared->Prop}{s:Shared}{t t2:Bool}{z T O i j a b:Addr}{k:Nat}{xs ys:Array Value}{x y u v:Value}
def zg(D:ZipApart z T O i j a b){Q:Option Value->Shared->Prop}(d:qD s.heap z T O .none (.bool false))(G:IsPair s.heap T (.ref i) (.ref j))(l:IsPair s.heap O u v)(C:It t s.heap i a k)(f:It t2 s.heap j b k)
  (m:Sq t s.heap a xs) (p:Sq t2 s.heap b ys) (ex:xs[k]?=some x) (e:ys[k]?=some y)
  (q:∀h',qD h' z T O (rawInt s.heap.objs.size) (.bool false)->IsPair h' O x y->It t h' i a (k+1)->It t2 h' j b (k+1)->IsPair h' s.heap.objs.size x y->Zp.Rest z O i j s.heap h'->Q (some (.ref s.heap.objs.size)) {s with heap:=h'}):
  wpAny (model prog w) A (pyNext (.ref z)) Q E s:=by
 have c:s.TypeIs (.ref z) "zip":=⟨_,d,rfl⟩
 unfold pyNext
 exact Qaq (wpAny_attempt (QiQ (name:=Str.ofString "__next__") c F.slot_zip_next (wpAny_call_entry F.slot_zip_next c F.entry_zip_next
  (item D d G l C f m p ex e λh' h B o g n r=>Qgq (q h' h B o g n r)) (F.args_zip_next_1 _))))
end
end Zq
namespace L2
open PySem PySem.Spec PyProof.Rows Zq
def Inv.sq_inj{X:Cx}{b:List (Addr×Obj)}{c:St}{H:Hp}{s:Shared}{t:Bool}{a:Addr}{xs ys:List V}(I:Inv X b c H s)(h:u9 X.K t H a xs)(h':u9 X.K t H a ys):xs=ys:=by
 cases t with
 |true=>exact I.tuple_inj h h'
 |false=>exact I.list_inj h h'
def J7(K:PySem.W.Frag)(t t2:Bool)(a b:Addr):It:=
  ⟨λi H=>∃c d x y,u9 K t H a c/\u9 K t2 H b d/\c[i]?=some x/\d[i]?=some y,
   λi H v e=>∃p,v=.ref p/\H p=none/\∀c d x y,u9 K t H a c->u9 K t2 H b d->c[i]?=some x->d[i]?=some y->e=upd H p (.tup [x,y]),
   λi H=>∃c,u9 K t H a c/\c.length<=i⟩
def zo{P:Program}{w:World}{K:PySem.W.Frag}{B:List Expr}{x1:Nat}{tp:Pos}{t t2:Bool}{z T O i j a b:Addr}(D:ZipApart z T O i j a b):
  Turn P w K (.Tuple B x1 tp) (J7 K t t2 a b) [z,T,O,i,j] z (λn h=>qD h z T O .none (.bool false)/\IsPair h T (.ref i) (.ref j)/\(∃u v,IsPair h O u v)/\Zq.It t h i a n/\Zq.It t2 h j b n) where
 mem:=by simp
 obj:=λn h ⟨f,g,⟨u,v,l⟩,p,q⟩ c d=>by
  simp at d
  rcases d with rfl|rfl|rfl|rfl|rfl
  ·exact⟨_,f,λv n=>by cases n⟩
  ·exact⟨_,g,λv n=>by cases n⟩
  ·exact⟨_,l,λv n=>by cases n⟩
  ·exact p.obj
  ·exact q.obj
 keep:=λn h h' ⟨f,g,⟨u,v,l⟩,p,q⟩ k=>⟨k z (by simp) _ f,k T (by simp) _ g,⟨u,v,k O (by simp) _ l⟩,p.at λo e=>k i (by simp) o e,q.at λo e=>k j (by simp) o e⟩
 item:=by
  rintro X R L U d n m s σ H E I G ⟨f,g,⟨u,v,l⟩,p,q⟩ M
  subst R L U
  obtain⟨xs,ys,x,y,J,qb,Q,hy⟩:=M
  obtain⟨N,S,pa,_⟩:=I.sq J
  obtain⟨a1,rb,pb,_⟩:=I.sq qb
  obtain⟨ux,ex,rx⟩:=S.get Q
  obtain⟨uy,ey,ry⟩:=rb.get hy
  have C:∀{c o},s.heap.get? c=some o->c≠s.heap.objs.size:=λe=>Qwq (Qiq e)
  have A:∀c∈[z,T,O,i,j],c≠s.heap.objs.size:=λc d=>by
   obtain⟨oi,e1,_⟩:=p.obj
   obtain⟨oj,e2,_⟩:=q.obj
   simp at d
   rcases d with rfl|rfl|rfl|rfl|rfl
   ·exact C f
   ·exact C g
   ·exact C l
   ·exact C e1
   ·exact C e2
  refine Zq.zg D f g l p q pa pb (x:=ux) (y:=uy) (by simpa using ex) (by simpa using ey) λh1 z1 O1 i1 j1 n1 F=>⟨_,rfl,?_⟩
  have T1:=F _ _ D.TIz D.TITO D.TIi1 D.TIi2 g
  refine wpAny_letOwnedTupleGo_zip z1 λh2 z2 r=> ?_
  have I2:Inv X m σ (upd H s.heap.objs.size (.tup [x,y])) {s with heap:=h2}:=I.turnedNew (t':=s.toks) (fp:= [z,T,O,i,j]) G (λc o d e=> ?_) (Qmq _) ?_
  ·refine⟨.ref s.heap.objs.size,_,I2,rfl,⟨s.heap.objs.size,rfl,I.hok.fresh (Qmq _),λa3 a2 x' y' q1 q2 Z Y=> ?_⟩,⟨z2,r.extBut _ _ D.TIz T1,⟨_,_,r.extBut _ _ D.TOz O1⟩,i1.ext r.extBut D.i1z,j1.ext r.extBut D.i2z⟩,λc d=> ?_⟩
   ·rw[I.sq_inj q1 J] at Z
    rw[I.sq_inj q2 qb] at Y
    rw[Q] at Z
    rw[hy] at Y
    cases Z
    cases Y
    rfl
   ·rw[aM (A c d)]
    exact(G c d).1
  ·simp at d
   exact r.extBut _ _ d.1 (F c o d.1 d.2.2.1 d.2.2.2.1 d.2.2.2.2 e)
  ·exact⟨by show 2<=_;decide,[ux,uy],.cons rx (.cons ry .nil),_,r.extBut _ _ (λe=>A z (by simp) e.symm) n1,rfl,rfl,0,rfl⟩
 done:=by
  rintro X R L U d n m s σ H E I G ⟨f,g,⟨u,v,l⟩,p,q⟩ M
  subst R L U
  obtain⟨xs,J,Q⟩:=M
  obtain⟨N,S,pa,_⟩:=I.sq J
  have hl:=S.length
  refine Zq.v5 D (I.ok.hd d) (.inl ⟨f,u,v,l⟩) g p pa (by simp;omega) λh1 F=>⟨rfl,I.turnedL (t':=s.toks) (fp:= [z,T,O,i,j]) G λc o d e=> ?_⟩
  simp at d
  exact F c o d.1 d.2.2.1 d.2.2.2.1 d.2.2.2.2 e
 self:=λ_ _ _ _ _ ⟨f,_⟩ h=>wpAny_pyIter_zip f h
section
variable{X:Cx}
def KR(K:PySem.W.Frag)(g:TA):TI:=λe H R=>g e H λf H1=>∃(t c:Bool) (a b:Addr) (h d:List V),f= [.ref a,.ref b]/\u9 K t H1 a h/\u9 K c H1 b d/\R (J7 K t c a b) H1
def DP{f:List Expr}{U:Nat}{Q:Pos}{a b:Expr}{o:TA}{p pos:Pos}(F:Gl X "zip")(hm:X.mg "zip"=none)(z:PA X [a,b] o)(A:starEach [a,b] X.env= [(false,eval a X.env),(false,eval b X.env)]:=by rfl)(i:starEach [b] X.env= [(false,eval b X.env)]:=by rfl):
  PI X (.Tuple f U Q) (.Call (.Name "zip" p) [a,b] [] pos) (KR X.K o):=by
 intro d s W H R I h
 refine Call_ (jh I F hm (by rfl) (PyProof.Rows.callWith_type1 (cg (z pos d s W H _ I h) λus v ⟨vs,H1,g,L,N⟩=> ?_) (by rw[A,i]) (by rw[i];rfl)))
 obtain⟨t,t2,x,y,xs,ys,e,Y,J,q⟩:=N
 subst e
 cases L with
 | cons r j=>
   cases j with
   | cons M j=>
     cases j
     cases r
     cases M
     obtain⟨S,ra,m,_⟩:=g.sq Y
     obtain⟨G,rb,u,_⟩:=g.sq J
     have B:=Sq.lt m
     have Z:=Sq.lt u
     refine Zq.D0 m u λh' n gT P gi C k=> ?_
     refine wpAny_pyIter_zip n ⟨_,_,_,_,H1,rfl,g.kept (t':=v.toks) k,zo (PyProof.Rows.zipApart_new B Z),⟨n,gT,⟨_,_,P⟩,gi,C⟩,λc l=> ?_,q⟩
     have w:v.heap.objs.size<=c:=by
       simp only[Qsq,QXq,or_false] at l
       rcases l with e|e|e|e|e <;>(rw[e];first|exact Qmq _|exact Nat.le_add_right _ _)
     exact g.fpOk w (g.hok.fresh w)
end
end L2
namespace DL
open PySem PySem.Spec PyProof.Rows L2
def xJ.sqB{M:Md}{ρ:List Addr}{H:Hp}{a:Addr}{vs:List V}{t:Tag}(h:xJ M ρ H a vs t):L2.u9 M.K (!t.isL) H a vs:=by
 cases c:t.isL with
 |true=>exact h.sqL c
 |false=>exact h.sqT c
def qG(xs ys:List D):List D:=List.zipWith (λx y=>D.tup [x,y]) xs ys
open Classical in
def vd(f g:et):rN:=λa S=>(f a S).bind λ(p,c)=>(g a c).bind λ(r,b)=>if p.2.stays b p.1/\p.1.length<=r.1.length then some ((qG p.1 r.1,λS=>p.2.stays S p.1/\r.2.stays S r.1),b) else none
section
variable{X:Cx}{a b c e:Expr}{pos:Pos}{st:Stmt}
def J0{l:List Expr}{s:Nat}{tp p:Pos}{f g:et}(hg:Gl X "zip")(hm:X.mg "zip"=none)(ha:PE X a (tQ (md X) f))(hb:PE X b (tQ (md X) g))(K:starEach [a,b] X.env= [(false,eval a X.env),(false,eval b X.env)]:=by rfl)(k:starEach [b] X.env= [(false,eval b X.env)]:=by rfl):
  PI X (.Tuple l s tp) (.Call (.Name "zip" p) [a,b] [] pos) (tI (md X) (vd f g)):=G7 (DP hg hm (cQ ha (cQ hb fg k) (by rw[K,k])) K k) λσ H R ⟨ρ,Q,S,ds,W,S',ok,e,q⟩=>by
 obtain⟨⟨⟨m,t1⟩,S1⟩,e1,e⟩:=aq e
 obtain⟨⟨⟨o,t2⟩,S2⟩,e2,e⟩:=aq e
 dsimp only at e
 split at e
 ·rename_i c
  obtain⟨e3,rfl⟩:=bG e
  obtain⟨rfl,rfl⟩:=Prod.mk.inj e3
  refine⟨ρ,Q,S,m,t1,S1,ok,e1,λC a1 a3 H1 s A h1 r1=>⟨C,Q,S1,o,t2,S2,ok.to s A,e2,λa2 b1 ws H2 J n P r2=> ?_⟩⟩
  obtain⟨t,N,r3⟩:=h1.to r1 J n c.1
  refine⟨_,_,a1,b1,t,ws,rfl,N.sqB,P.sqB,q _ _ _ (s.trans J) n λi a4 S3 H3 I j w=> ?_⟩
  obtain⟨G,B,L⟩:=N.to r3 I j w.1
  obtain⟨M,Z,g4⟩:=P.to r2 I j w.2
  refine⟨λd h=> ?_,λhi=>⟨G,B.sqB,?_⟩⟩
  ·unfold qG at h
   rw[List.getElem?_zipWith] at h
   cases r:m[i]? with
   |none=>rw[r] at h;cases h
   | some x=>
     cases F:o[i]? with
     |none=>rw[r,F] at h;cases h
     | some y=>
       rw[r,F] at h
       cases h
       obtain⟨u,U,ru⟩:=L.get r
       obtain⟨z,Y,rz⟩:=g4.get F
       refine⟨⟨G,M,u,z,B.sqB,Z.sqB,U,Y⟩,λv H4 hv=> ?_⟩
       obtain⟨p,rfl,hp,hq⟩:=hv
       have:=hq G M u z B.sqB Z.sqB U Y
       subst this
       exact⟨bx.laid hp,j.lay hp,.tup aR ((aK.cons ru (.cons rz .nil)).ext (bx.laid hp))⟩
  ·rw[hi]
   unfold qG
   rw[List.length_zipWith,L.length.symm]
   have:=c.2
   omega
 ·cases e
end
def k9:D->Option Key
 |.int i=>some (.inl i)
 |.str x=>some (.inr x)
 |_=>none
def jF{M:Md}{ρ:List Addr}{H:Hp}{d:D}{v:V}{k:Key}(r:Rel M ρ H d v)(e:k9 d=some k):v=kV k:=by
 cases r <;>simp[k9] at e <;>subst e <;>rfl
def uO:List D->Option (List Key)
 | []=>some []
 |d::r=>(k9 d).bind λk=>(uO r).bind λa=>some (k::a)
theorem vO{M:Md}{ρ:List Addr}{H:Hp}:∀{ds:List D} {vs:List V} {a:List Key},aK M ρ H ds vs->uO ds=some a->vs=a.map kV
 |_,_,_,.nil,e=>by cases e;rfl
 | _,_,_,.cons h hs,e=>by
   obtain⟨k,b,e⟩:=aq e
   obtain⟨a,c,e⟩:=aq e
   cases e
   rw[jF h b,vO hs c]
   rfl
def jj(kvs:List (Key×D))(k:Key):Option D:=(kvs.find? λa=>decide (a.1=k)).map (·.2)
def putD(kvs:List (Key×D))(k:Key)(v:D):List (Key×D):=
 if (kvs.any λa=>decide (a.1=k))=true then kvs.map (λa=>if a.1=k then(a.1,v) else a) else kvs++ [(k,v)]
def bZ(kvs more:List (Key×D)):List (Key×D):=more.foldl (λa b=>putD a b.1 b.2) kvs
section
variable{M:Md}{ρ:List Addr}{H:Hp}
theorem bu.append:∀{l m:List (Key×D)} {kv kw:List (Key×V)},bu M ρ H l kv->bu M ρ H m kw->bu M ρ H (l++m) (kv++kw)
 | [],_,_,_,h,h'=>by cases h;exact h'
 |(_,_)::_,_,_,_,⟨v,t,e,h,hs⟩,h'=>by subst e;exact⟨v,_,rfl,h,bu.append hs h'⟩
theorem bu.any:∀{l:List (Key×D)} {kv:List (Key×V)} (k:Key),bu M ρ H l kv->(l.any λp=>decide (p.1=k))=kv.any λp=>decide (p.1=k)
 | [],_,_,h=>by cases h;rfl
 |(_,_)::_,_,k,⟨v,t,e,h,hs⟩=>by subst e;simp only[List.any_cons,bu.any k hs]
theorem bu.mapP{d:D}{v:V}{k:Key}(r:Rel M ρ H d v):∀{l:List (Key×D)} {kv:List (Key×V)},bu M ρ H l kv->bu M ρ H (l.map λp=>if p.1=k then(p.1,d) else p) (kv.map λp=>if p.1=k then(p.1,v) else p)
 | [],_,h=>by cases h;rfl
 | (k',_)::_,_,⟨u,t,e,h,hs⟩=>by
   subst e
   simp only[QDq]
   by_cases c:k'=k
   · simp only[c,if_true];exact⟨v,_,rfl,r,bu.mapP r hs⟩
   · simp only[c,if_false];exact⟨u,_,rfl,h,bu.mapP r hs⟩
def bu.put{l:List (Key×D)}{kv:List (Key×V)}{k:Key}{d:D}{v:V}(h:bu M ρ H l kv)(r:Rel M ρ H d v):bu M ρ H (putD l k d) (putK kv k v):=by
 unfold putD putK
 rw[h.any k]
 split
 ·exact h.mapP r
 ·exact h.append ⟨v,[],rfl,r,rfl⟩
theorem bu.merge:∀{m:List (Key×D)} {kw:List (Key×V)} {l:List (Key×D)} {kv:List (Key×V)},bu M ρ H m kw->bu M ρ H l kv->bu M ρ H (bZ l m) (ip kv kw)
 | [],_,_,_,h,h'=>by cases h;exact h'
 | (k,d)::m,_,_,_,⟨v,t,e,h,hs⟩,h'=>by
   subst e
   unfold bZ ip
   rw[List.foldl_cons,List.foldl_cons]
   exact bu.merge (m:=m) (kw:=t) hs (h'.put h)
theorem bu.zip:∀{a:List Key} {ds:List D} {vs:List V},aK M ρ H ds vs->bu M ρ H (a.zip ds) (a.zip vs)
 | [],_,_,_=>rfl
 |_::_,_,_,.nil=>rfl
 |k::a,_,_,.cons h hs=>⟨_,_,rfl,h,bu.zip hs⟩
theorem bu.val:∀{l:List (Key×D)} {kv:List (Key×V)} {k:Key} {d:D},bu M ρ H l kv->jj l k=some d->∃v,mR kv k=some v/\Rel M ρ H d v
 | [],_,_,_,_,e=>by cases e
 | (k',d')::_,_,k,d,⟨v,t,e,h,hs⟩,e'=>by
   subst e
   unfold jj at e'
   unfold mR
   rw[List.find?_cons] at e'⊢
   by_cases c:k'=k
   · simp only[c,decide_true] at e'⊢
     cases e'
     exact⟨v,rfl,h⟩
   · simp only[c,decide_false] at e'⊢
     exact bu.val hs e'
def bu.ext'{a:List Addr}{b:Hp}{l:List (Key×D)}{kv:List (Key×V)}(h:bu M ρ H l kv)(e:bx ρ H a b):bu M a b l kv:=h.imp λ_ _ r=>r.ext e
def bu.pre'{a:List Addr}{l:List (Key×D)}{kv:List (Key×V)}(h:bu M ρ H l kv)(e:ρ <+: a):bu M a H l kv:=h.imp λ_ _ r=>r.pre e
end
section
variable{X:Cx}{a b c e:Expr}{pos:Pos}{st:Stmt}
def HX{M:Md}{ρ d:List Addr}{H h:Hp}{k:aA}{l:List (Key×D)}{kv:List (Key×V)}{p:Addr}{Q:VK}(x:bx ρ H d h)(st:eD M d k h)(j:h p=none)(r:bu M d h l kv)
  (q:∀f v g,bx ρ H f g->eD M f (k++ [.dct l]) g->Rel M f g (.ref k.length) v->Q v g):Q (.ref p) (upd h p (.dK kv)):=by
 have s:p∉d:=dk x st j
 have n:bx d h d (upd h p (.dK kv)):=bx.laid j
 have m:=(st.lay (u:=.dK kv) j).box (o:=.dct l) s ⟨kv,aR,(r.ext' n).pre' (List.prefix_append _ _)⟩
 refine q (d++ [p]) (.ref p) _ ⟨x.pre.trans (List.prefix_append _ _),λc i=> ?_,(x.trans n).keep,(x.trans n).grow⟩ m (.ref ?_)
 ·rcases mQa.mp i with i|i
  ·exact x.new c i
  ·rw[Qfq] at i;subst i;exact .inr (x.grow _ j)
 ·rw[←st.len,QQq (Qmq _)]
  simp
open Classical in
def Ge(f g:et):aW:=λh S=>(f h S).bind λ(p,j)=>(g h j).bind λ(r,d)=>if p.2.stays d p.1/\p.1.length=r.1.length then(uO p.1).bind λi=>some (.ref d.length,d++ [.dct (bZ [] (i.zip r.1))]) else none
def Gc{p1 n W r:Pos}{f g:et}(G:X.calm=true)(m:Gl X "dict")(j:X.mg "dict"=none)(K:Gl X "zip")(hm:X.mg "zip"=none)(C:PE X a (tQ (md X) f))(hb:PE X b (tQ (md X) g))(u:starEach [a,b] X.env= [(false,eval a X.env),(false,eval b X.env)]:=by rfl)(h:starEach [b] X.env= [(false,eval b X.env)]:=by rfl)
  (he:starEach [Expr.Call (.Name "zip" n) [a,b] [] r] X.env= [(false,eval (Expr.Call (.Name "zip" n) [a,b] [] r) X.env)]:=by rfl):
  PE X (.Call (.Name "dict" p1) [.Call (.Name "zip" n) [a,b] [] r] [] W) (tD (md X) (Ge f g)):=jf (xG G m j K hm (cQ C (cQ hb fg h) (by rw[u,h])) u h he) λσ H Q ⟨ρ,y,S,d,S',ok,e,q⟩=>by
 obtain⟨⟨⟨k,F⟩,B⟩,Z,e⟩:=aq e
 obtain⟨⟨⟨s,L⟩,R⟩,N,e⟩:=aq e
 dsimp only at e
 split at e
 ·rename_i c
  obtain⟨I,e3,e⟩:=aq e
  obtain⟨rfl,rfl⟩:=bG e
  refine⟨ρ,y,S,k,F,B,ok,Z,λt Y a4 H1 z o M P=>⟨t,y,B,s,L,R,ok.to z o,N,λa3 b1 J H2 x i h2 A=> ?_⟩⟩
  obtain⟨a2,h3,w⟩:=M.to P x i c.1
  have ek:=vO w e3
  subst ek
  have v:=w.length
  rw[lQm] at v
  refine⟨_,_,Y,b1,I,J,rfl,h3.sqB,h2.sqB,by rw[←v,←A.length];exact c.2,λp U=> ?_⟩
  exact HX (z.trans x) i U (bu.merge (l:= []) (bu.zip A) rfl) q
 ·cases e
def Ie:aW:=λ_ S=>some (.ref S.length,S++ [.dct []])
def IM:PE X (.Dict [] [] pos) (tD (md X) Ie):=jf AF λi H Q g=>by
 obtain⟨k,j,S,d,h,ok,e,q⟩:=g
 obtain⟨rfl,rfl⟩:=bG e
 exact λp f=>HX bx.refl ok.st f (l:= []) (kv:= []) rfl q
def GB(f g:aW):aW:=λh S=>(f h S).bind λ(x,m)=>(g h m).bind λ(y,i)=>match x with
 | .ref k=>match i[k]? with
   |some (.dct l)=>(k9 y).bind λj=>(jj l j).bind λd=>some (d,i)
   |_=>none
 |_=>none
def Jb{f g:aW}(G:X.A.units+1<cLine)(i:PE X a (tD (md X) f))(R:PE X b (tD (md X) g))(j:AD b):PE X (.Subscript a b pos) (tD (md X) (GB f g)):=jf (xZ G i R j) λσ H Q u=>by
 obtain⟨J,r,S,d,U,ok,e,q⟩:=u
 obtain⟨⟨x,t⟩,F,e⟩:=aq e
 obtain⟨⟨y,C⟩,B,e⟩:=aq e
 cases x with
 | ref k=>
   dsimp only at e
   split at e
   · rename_i l j
     obtain⟨ky,M,e⟩:=aq e
     obtain⟨W,w,e⟩:=aq e
     obtain⟨rfl,rfl⟩:=bG e
     refine⟨J,r,S,_,t,ok,F,λo Y H1 s n m=>⟨o,r,t,y,C,ok.to s n,B,λI Z H2 p h N=> ?_⟩⟩
     cases jF N M
     have m:=m.ext p
     cases m with
     | ref i=>
       obtain⟨kv,z,P⟩:=h.obj k _ _ i j
       obtain⟨v,K,L⟩:=P.val w
       exact⟨_,v,rfl,by rw[←K];exact xj.k z,q _ _ _ (s.trans p) h L⟩
   · cases e
 |_=>cases e
def El(f g h:aW):cG:=λi S=>(h i S).bind λ(d,n)=>(f i n).bind λ(x,o)=>(g i o).bind λ(y,j)=>match x with
 | .ref k=>match j[k]? with
   |some (.dct l)=>(k9 y).bind λm=>if l.length<sizeLine then some (.nx i (j.set k (.dct (putD l m d)))) else none
   |_=>none
 |_=>none
mutual
theorem Rel.offK{M:Md}{ρ:List Addr}{H:Hp}{b:Addr}{g:List (Key×V)}{o:HO}(f:H b=some (.dK g)):∀{d:D} {v:V},Rel M ρ H d v->Rel M ρ (upd H b o) d v
 |_,_,.non=>.non
 |_,_,.bl x=>.bl x
 |_,_,.int i=>.int i
 |_,_,.str x=>.str x
 |_,_,.tup h hs=>.tup (by rw[aM (AM h f (by intro z;cases z))];exact h) (aK.offK f hs)
 |_,_,.ref h=>.ref h
 |_,_,.fn h=>.fn h
theorem aK.offK{M:Md}{ρ:List Addr}{H:Hp}{b:Addr}{f:List (Key×V)}{o:HO}(d:H b=some (.dK f)):∀{ds:List D} {vs:List V},aK M ρ H ds vs->aK M ρ (upd H b o) ds vs
 |_,_,.nil=>.nil
 |_,_,.cons h hs=>.cons (Rel.offK d h) (aK.offK d hs)
end
def eD.putKd{M:Md}{ρ:List Addr}{S:aA}{H:Hp}{k:Nat}{a:Addr}{l g:List (Key×D)}{kw:List (Key×V)}(st:eD M ρ S H)(i:ρ[k]?=some a)(f:S[k]?=some (.dct l))(r:bu M ρ H g kw):eD M ρ (S.set k (.dct g)) (upd H a (.dK kw))/\bx ρ H ρ (upd H a (.dK kw)):=by
 obtain⟨j,d,m⟩:=st.obj k a _ i f
 exact st.put i f ⟨kw,aR,r.imp λ_ _ q=>q.offK d⟩ λx h=>by rw[d] at h;cases h;exact id
def JG{f g h:aW}{i:Pos}{v:Expr}(hu:X.A.units+1<cLine)(p:PE X a (tD (md X) f))(hb:PE X b (tD (md X) g))(hv:PE X v (tD (md X) h))(r:swapsWith v (some (.Subscript a b i)) pos.line X.env=pure false:=by rfl):PS X (.Assign [.Subscript a b i] v pos) (tS (md X) (El f g h)):=
 zH (DR hu p hb hv r) λD σ H N=>by
  obtain⟨ρ,u,S,o,ok,e,q⟩:=N
  obtain⟨⟨d,M⟩,Z,e⟩:=aq e
  obtain⟨⟨x,J⟩,U,e⟩:=aq e
  obtain⟨⟨y,S3⟩,e3,e⟩:=aq e
  cases x with
  | ref k=>
    dsimp only at e
    split at e
    · rename_i l r
      obtain⟨ky,Q,e⟩:=aq e
      split at e
      · rename_i P
        cases e
        refine⟨ρ,u,S,d,M,ok,Z,λI v1 H1 B n t=>⟨I,u,M,_,J,ok.to B n,U,λC v2 H2 w z G=>⟨C,u,J,y,S3,(ok.to B n).to w z,e3,λY v3 H3 s j W=> ?_⟩⟩⟩
        cases jF W Q
        have G:=G.ext s
        have t:=t.ext (w.trans s)
        have m:=(B.trans w).trans s
        cases G with
        | ref p=>
          obtain⟨kv,R,L⟩:=j.obj k _ _ p r
          obtain⟨F,K⟩:=j.putKd p r (L.put (k:=ky) t)
          exact⟨_,_,rfl,AG.k R (by rw[←L.length];exact P),q _ _ _ (m.trans K) ((ok.to m j).to K F)⟩
      · cases e
    · cases e
  |_=>cases e
open Classical in
def zm(f:et)(g:aW):aW:=λd S=>(f d S).bind λ(p,k)=>if p.2.isL=true then(g d k).bind λ(y,h)=>if p.2.stays h p.1 then(rL y).bind λv=>(lF p.1).bind λi=>(kL v i).bind λj=>some (.int (j:Nat),h) else none else none
def Ir{f:et}{g:aW}{o:Expr}{i h:Pos}(ho:PE X o (tQ (md X) f))(K:PE X e (tD (md X) g))(k:attributeBase o "index" X.env (eval o X.env)=eval o X.env:=by rfl) (n:((backTo h (starEach [e] X.env)).all (λx=> !x.1)&&(backToKw h (keywordEach [] X.env)).all (λx=>x.1.isSome)
   &&decide ([e].length+([]:List Keyword).length+(if ([]:List Keyword).isEmpty then 0 else 1)<30))=true:=by rfl)
  (l:(i.endLine==h.line)=true:=by rfl) (w:starEach [e] X.env= [(false,eval e X.env)]:=by rfl):PE X (.Call (.Attribute o "index" i) [e] [] h) (tD (md X) (zm f g)):=
 jf (q_ PySem.F.plainAttrs_list PySem.F.slot_list_index PySem.F.type_list_index Bf ho (aF K b_ w) k n l w) λσ H Q M=>by
  obtain⟨ρ,B,S,d,S',ok,e,q⟩:=M
  obtain⟨⟨⟨ds,t⟩,J⟩,Z,e⟩:=aq e
  dsimp only at e
  split at e
  ·rename_i G
   obtain⟨⟨y,Y⟩,R,e⟩:=aq e
   dsimp only at e
   split at e
   ·rename_i cS
    obtain⟨v,I,e⟩:=aq e
    obtain⟨vs,P,e⟩:=aq e
    obtain⟨j,N,e⟩:=aq e
    obtain⟨rfl,rfl⟩:=bG e
    refine⟨ρ,B,S,ds,t,J,ok,Z,λu a L H1 C r z W=>⟨.inl ⟨rfl,L,z.sqL G⟩,u,B,J,[y],Y,ok.to C r,by simp only[ax,aw,R,Qbq],λa1 ws H2 A m s=> ?_⟩⟩
    obtain⟨p,h3,U⟩:=z.to W A m cS
    cases s with
    | cons s rr=>
      cases rr
      cases j9 s I
      obtain⟨rfl,f1⟩:=qp U P
      exact⟨a,p,_,j,rfl,rfl,h3.sqL G,pA I,f1,N,q _ _ _ (C.trans A) m (.int _)⟩
   ·cases e
  ·cases e
end
section
variable{X:Cx}{a b c e:Expr}{pos:Pos}{st:Stmt}
def JR:V->List V->Hp->VK->Prop:=λx g H Q=>∃a b f d,x=.ref a/\g= [.ref b]/\a≠b/\H a=some (.dK f)/\H b=some (.dK d)/\f.length+d.length<=sizeLine/\Q .non (upd H a (.dK (ip f d)))
def zj:Jt X "dict.update" JR:=by
 intro m s M H x K v G Q I A y h
 obtain⟨a,b,l,f,rfl,rfl,ab,ha,hb,hz,q⟩:=h
 cases A
 obtain⟨u,rfl,ru⟩:=y.one
 cases ru
 obtain⟨z,B,o,i,n⟩:=uZ I.hok ha
 obtain⟨L,j,r,d,k⟩:=uZ I.hok hb
 refine call_meetsIn PySem.F.slot_dict_update n.typeIs PySem.F.entry_dict_update (PySem.F.args_dict_update_2 _ _) (meets_dict_update (bg X.prog X.w) a b ab j) ⟨o,r,n,k,by rw[←i.length,←d.length];exact hz,λC g _ p=> ?_⟩
 have t:∃q,C.get? a=some q:=let ⟨q,_,_,hq,_⟩:=g;⟨q,hq⟩
 have J:=gF f l
 exact⟨.non,_,oK I (by rw[ha];exact True.intro) p t (pF (by omega) B (KV.merge d i) g),rfl,q⟩
def CZ(f g:aW):aW:=λh S=>(f h S).bind λ(x,i)=>(g h i).bind λ(y,d)=>match x,y with
 | .ref k,.ref j=>if k≠j then match i[k]?,d[k]?,d[j]? with
   |some (.dct _),some (.dct l),some (.dct m)=>if l.length+m.length<=sizeLine then some (.non,d.set k (.dct (bZ l m))) else none
   |_,_,_=>none
   else none
 |_,_=>none
def HM{f g:aW}{o:Expr}{n h:Pos}(ho:PE X o (tD (md X) f))(w:PE X e (tD (md X) g))(p:attributeBase o "update" X.env (eval o X.env)=eval o X.env:=by rfl) (t:((backTo h (starEach [e] X.env)).all (λx=> !x.1)&&(backToKw h (keywordEach [] X.env)).all (λx=>x.1.isSome)
   &&decide ([e].length+([]:List Keyword).length+(if ([]:List Keyword).isEmpty then 0 else 1)<30))=true:=by rfl)
  (r:(n.endLine==h.line)=true:=by rfl) (N:starEach [e] X.env= [(false,eval e X.env)]:=by rfl):PE X (.Call (.Attribute o "update" n) [e] [] h) (tD (md X) (CZ f g)):=
 jf (q_ PySem.F.plainAttrs_dict PySem.F.slot_dict_update PySem.F.type_dict_update zj ho (aF w b_ N) p t r N) λσ H Q qq=>by
  obtain⟨ρ,U,S,d,S',ok,e,q⟩:=qq
  obtain⟨⟨x,M⟩,e1,e⟩:=aq e
  obtain⟨⟨y,C⟩,e2,e⟩:=aq e
  cases x with
  | ref k=>
    cases y with
    | ref j=>
      dsimp only at e
      split at e
      · rename_i ne
        cases B:M[k]? with
        |none=>rw[B] at e;cases e
        | some o1=>
          rw[B] at e
          cases o1 with
          | dct l0=>
            cases A:C[k]? with
            |none=>rw[A] at e;cases e
            | some o2=>
              rw[A] at e
              cases o2 with
              | dct l=>
                cases G:C[j]? with
                |none=>rw[G] at e;cases e
                | some o3=>
                  rw[G] at e
                  cases o3 with
                  | dct m=>
                    dsimp only at e
                    split at e
                    · rename_i hl
                      obtain⟨rfl,rfl⟩:=bG e
                      refine⟨ρ,U,S,_,M,ok,e1,λK v H1 Y u r1=> ?_⟩
                      cases r1 with
                      | ref w=>
                        rename_i a
                        obtain⟨I,g0,_⟩:=u.obj k a _ w B
                        refine⟨.inr (.inr (.inl ⟨rfl,.inl ⟨I,g0⟩⟩)),K,U,M,[.ref j],C,ok.to Y u,by simp only[ax,aw,e2,Qbq],λa1 ws H2 R i J=> ?_⟩
                        cases J with
                        | cons J rr=>
                          cases rr
                          cases J with
                          | ref Z=>
                            rename_i b
                            have s:=bV R.pre w
                            obtain⟨kv,g1,P⟩:=i.obj k a _ s A
                            obtain⟨kw,g3,W⟩:=i.obj j b _ Z G
                            have ab:a≠b:=λz=>by subst z;exact ne (jz i.nd s Z)
                            obtain⟨L,x3⟩:=i.putKd s A (bu.merge W P)
                            exact⟨a,b,kv,kw,rfl,rfl,ab,g1,g3,by rw[←P.length,←W.length];exact hl,q _ _ _ ((Y.trans R).trans x3) L .non⟩
                    · cases e
                  |_=>cases e
              |_=>cases e
          |_=>cases e
      · cases e
    |_=>cases e
  |_=>cases e
end
end DL
namespace L2
open PySem PySem.Spec PyProof.Rows
section
variable{prog:Program}{w:World}{A:Around}{s:Shared}
def qS{G F a l:Expr}{q:List Expr}{e:Scope}{pos:Pos}{it:Value}{D:Addr}{env:Env}{R:Result->Shared->Prop}(I:Nat->Shared->Prop)
  (z:∀n s,I n s->wpAny (model prog w) A (pyNext it) (λr d=>match r with
   |none=>R (.ok .next) d
   |some v=>wpAny (model prog w) A (letOwnedTupleGo a it v) (λ_ f=>wpAny (model prog w) A (assign a env v) (λ_ i=>
     wpAny (model prog w) A (forIn q true λc r=>if r=true then do let ok←isTrue c env (eval c env);pure (ForInStep.yield ok) else pure (ForInStep.yield r)) (λok s₃=>
      if ok=true then wpAny (model prog w) A (eval G env) (λx j=>wpAny (model prog w) A (eval F env) (λy k=>
       wpAny (model prog w) A (dictSet D x y) (λ_ g=>∃m,m<n/\I m g) (λ_ _=>False) k) (λ_ _=>False) j) (λ_ _=>False) s₃
      else∃m,m<n/\I m s₃) (λ_ _=>False) i) (λ_ _=>False) f) (λ_ _=>False) d) (λ_ _=>False) s)
  (n:Nat) (h:I n s):codeAny (model prog w) A (.compLoop (.DictComp G F [⟨a,l,q,0⟩] e pos) 0 it (.ref D) env) R s:=by
 refine codeAny_loop rfl I (λn s H=> ?_) n h
 show wpAny _ A ((compTurn (.DictComp G F [⟨a,l,q,0⟩] e pos) 0 it (.ref D) env).onRaise (λx=>do noteFrame x env;theTreesLotGoes x)) _ _ s
 refine wpAny_noted ?_
 rw[compTurn_dict]
 refine Qaq (wpAny_standAt (Qaq (QRq (z n s H) (λr d o=> ?_) λ_ _ b=>b.elim)))
 cases r with
 |none=>exact Qgq o
 | some v=>
   refine Qaq (QRq o (λ_ f p=> ?_) λ_ _ b=>b.elim)
   refine Qaq (QRq p (λ_ i t=>Qaq (QRq t (λok s₃ h₃=> ?_) λ_ _ b=>b.elim)) λ_ _ b=>b.elim)
   cases ok with
   |false=>exact Qgq ⟨rfl,h₃⟩
   | true=>
     exact Qaq (Qaq (QRq h₃ (λx j C=>Qaq (QLq (QRq C (λy k B=>Qaq (wpAny_standAt (QLq (QRq B (λ_ g u=>Qgq ⟨rfl,u⟩) λ_ _ b=>b.elim)))) λ_ _ b=>b.elim))) λ_ _ b=>b.elim))
end
def FP(J:It)(g:TG)(o:TT)(q r:TE)(Q:VK)(D:Addr)(p:St)(H:Hp):Prop:=
 ∃ W:Nat->Nat->St->Hp->Prop,(∃m,W 0 m p H)/\∀i m e f,W i m e f→
   (J.stop i f/\Q (.ref D) f)\/(J.go i f/\∃h:St->Hp->Prop,(∀b d,h b d->∃n,n<m/\W (i+1) n b d)∧
     ∀ x H2,J.yld i f x H2->g x e H2 λa H3=>o a H3 λok H4=>
       if ok=true then q a H4 λk H5=>r a H5 λy j=>∃c l,k=kV l/\j D=some (.dK c)/\c.length<sizeLine/\h a (upd j D (.dK (putK c l y))) else h a H4)
def Bc(js:List (Option Nat))(e:TI)(g:TG)(b:TT)(c d:TE):TE:=λa H Q=>e a H λJ H1=>∀D,H1 D=none->FP J g b c d Q D (j3 js a) (upd H1 D (.dK []))
def BS{X:Cx}{N:List Str}{js:List (Option Nat)}{a:Scope}{Z:List (Str×Addr)}{tg Q kx vx M:Expr}{a7:List Expr}{pos b2:Pos}{wi:TI}{g gt:TG}{tt:TT}{tk tv:TE}
  (S:aX X N js a Z) (hc:X.calm=true) (hi:PI X tg Q wi)
  (hg:∀C s H fp,PG (aJ X N a Z C s H fp) tg g) (ht:∀C s H fp,nZ (aJ X N a Z C s H fp) a7 tt) (hk:∀C s H fp,PE (aJ X N a Z C s H fp) kx tk) (hv:∀C s H fp,PE (aJ X N a Z C s H fp) vx tv) (e0:PG X M gt)
  (hs:∀x,foldedSetIterable Q X.env x=pure x:=by intro _;rfl) (d7:swapsWithSole [M] (.DictComp kx vx [⟨tg,Q,a7,0⟩] a pos) b2.line X.env=pure true:=by rfl)
  (h1:(assignEach [M] X.env).map (·.2)= [assign M X.env]:=by rfl):PS X (.Assign [M] (.DictComp kx vx [⟨tg,Q,a7,0⟩] a pos) b2) (B4 (Bc js wi g tt tk tv) gt):=by
 intro a1 s σ H Dn I h
 rw[exec_Assign_arm]
 refine Qaq (wpAny_standAt (Qaq (wpAny_of_eq d7 (wpAny_ite_true rfl (Qaq ?_)))))
 rw[h1]
 show wpAny _ _ (do let _←comprehension _ _ _ _ _ _ _ (some λv=>assignAll v [assign M X.env]);pure ()) _ _ _
 refine Qaq ?_
 refine wpAny_comprehension_free (use:=some λv=>assignAll v [assign M X.env]) rfl hs S.clos S.kind S.names (cg (hi a1 s σ H _ I h) λv s1 h1=>cg h1 λe9 t h2=> ?_)
 obtain⟨it,fp,tn,J,H2,e,F,T,b6,f2,hD⟩:=h2
 subst e
 refine QhQ (wpAny_newFunctionEnv S.nocell (by intro y hy;simp at hy) (λR L B=> ?_) S.kind)
 dsimp only at L B⊢
 generalize b0:t.heap.push {cls:=.type "dict",data:=.dict #[]}=P2 at L B⊢
 have hC:P2.objs.size=t.heap.objs.size+1:=by rw[←b0,Heap.size_push]
 have b4:t.heap.objs.size≠P2.objs.size:=by rw[hC];exact Qwq (Nat.lt_succ_self _)
 have a5:t.heap.objs.size<=P2.objs.size:=by rw[hC];exact Nat.le_succ _
 have K:∀b,b<t.heap.objs.size->b≠P2.objs.size:=λb f=>by rw[hC];exact Qwq (Nat.lt_succ_of_lt f)
 have a2:∀b o,t.heap.get? b=some o->R.get? b=some o:=λb o e=>B.extBut b o (K b (Qiq e)) (Qcq _ (b0▸Qcq _ e))
 have e7:R.get? t.heap.objs.size=some {cls:=.type "dict",data:=.dict #[]}:=B.extBut _ _ b4 (Qcq _ (b0▸Qrq _ rfl))
 have nD:H2 t.heap.objs.size=none:=F.fresh
 have nC:H2 P2.objs.size=none:=F.hok.fresh a5
 have b3:∀b∈fp,b<t.heap.objs.size:=λb f=>by
  obtain⟨o,e,_⟩:=T.obj _ _ b6 b f
  exact Qiq e
 obtain⟨W,⟨m0,w0⟩,d5⟩:=hD t.heap.objs.size nD
 have b7:(aJ X N a Z P2.objs.size t H2 fp).Ok:=by
  refine⟨F.ok.mod,S.kind,F.ok.glob,F.ok.blt,a5,λx y c h1 h2=>F.ok.inj x y c (S.sub x c h1) (S.sub y c h2),S.has,(λx c h=>by cases h),F.ok.hd,F.ok.frames,.inl rfl,
   λb f=>⟨K b (b3 b f),λx c h=>(f2 b f).2.2.2.2.1 x c (S.sub x c h)⟩,F.bs,QAq F.ok.bsz F.sz,λb o e f=> ?_,λb f z=> ?_,F.stack,F.stkFree⟩
  ·rcases(f2 b f).2.2.2.1 with z|z
   ·exact F.ok.noex b o e z
   ·exact absurd (Qqq (Qqq (Qiq e) F.ok.bsz) z) (Nat.lt_irrefl _)
  ·rcases Qsq.mp (F.stkSub b z) with q|q
   ·exact(f2 b f).2.1 q
   ·exact(f2 b f).2.2.1 q
 have d2:bL X.prog X.w (upd H2 t.heap.objs.size (.dK [])) R t.heap.objs.size (.dK []):=by
  obtain⟨o,es,ep,e1,e2⟩:=Heap.DictOf.new (knd:=bg X.prog X.w) t.heap
  exact pF (Nat.zero_le _) (beq_eq_false_iff_ne.mpr (Ne.symm (Qwq F.big))) .nil ⟨o,es,ep,B.extBut _ _ b4 (Qcq _ (b0▸e1)),e2⟩
 have I4:Inv (aJ X N a Z P2.objs.size t H2 fp) [] (j3 js σ) (upd H2 t.heap.objs.size (.dK [])) {t with heap:=R,toks:=t.toks+([]:List (Str×Value)).length}:=by
  refine⟨b7,rfl,F.bare,Un.laid a2 (Qmq _) nD,⟨_,L,λi x v h1 h2 h3=> ?_⟩,λx c h=> ?_,by show upd H2 _ _ P2.objs.size=none;rw[aM b4.symm];exact nC,λx c h=> ?_,λp hp=>absurd (show p∈([]:List (Addr×Obj)) from hp) (by simp),F.hok.laid a2 (Qmq _) d2,by show(j3 js σ).length=N.length;unfold j3;rw[lQm];exact S.len⟩
  ·unfold j3 at h2
   rw[gQm] at h2
   cases e:js[i]? with
   |none=>rw[e] at h2;cases h2
   | some o=>
     rw[e] at h2
     cases o with
     |none=>cases h2
     | some j=>
       have a6:σ.getD j none=some v:=QdQ h2
       have hj:σ[j]?=some (some v):=by
         rw[Qlq] at a6
         cases q:σ[j]? with
         |none=>rw[q] at a6;cases a6
         |some y=>rw[q] at a6;exact congrArg some a6
       obtain⟨c1,c2,c3⟩:=S.cap i j x e h1
       obtain⟨m,hn,hl⟩:=F.loc
       have e5:FD X.env.scope x:=by
         rcases c2 with z|z
         · exact .inr (.inl z)
         · exact .inr (.inr z)
       obtain⟨u,r,l⟩:=hl j x v c1 hj e5
       refine⟨u,r,.inr ⟨c3,?_⟩⟩
       obtain⟨c,c5⟩:=S.has x c3
       refine⟨c,c5,?_⟩
       rcases l with⟨z,_⟩|⟨_,c',e',z⟩
       · rcases c2 with y|y <;>rw[y] at z <;>cases z
       · rw[S.sub x c c5] at e'
         cases e'
         obtain⟨o,ho,hd⟩:=z
         exact⟨o,a2 _ _ ho,hd⟩
  ·obtain⟨v,o,ho,hd⟩:=F.cell x c (S.sub x c h)
   exact⟨v,o,a2 _ _ ho,hd⟩
  ·obtain⟨v,o,ho,hd⟩:=F.cell x c (S.sub x c h)
   rw[aM (Qwq (Qiq ho))]
   exact F.freeC x c (S.sub x c h)
 have a4:∀{Y:List (Addr×Obj)} {H':Hp},Y= []->(∀b∈fp,H' b=none)->∀b∈fp,ph (aJ X N a Z P2.objs.size t H2 fp) Y H' b:=λ{Y H'} ep hn b f=>by
  subst ep
  refine⟨hn b f,K b (b3 b f),λz=>b7.exfs b f z,.inl f,λx c h=>(f2 b f).2.2.2.2.1 x c (S.sub x c h),λp hp=>absurd (show p∈([]:List (Addr×Obj)) from hp) (by simp)⟩
 have b1:codeAny (model X.prog X.w) X.A (.compLoop (.DictComp kx vx [⟨tg,Q,a7,0⟩] a pos) 0 (.ref it) (.ref t.heap.objs.size) (compEnvC a Z P2.objs.size X.env))
   (compPost (model X.prog X.w) X.A X.xe (some λv=>assignAll v [assign M X.env]) (λ_ s9=>wpAny (model X.prog X.w) X.A (pure ()) (λ_ e3=>wpAny (model X.prog X.w) X.A (pure Flow.next) (SP X a1 Dn) X.xe e3) X.xe s9) (.ref t.heap.objs.size) P2.objs.size) {t with heap:=R,toks:=t.toks+([]:List (Str×Value)).length}:=by
  refine qS (λn s'=>∃i a3 H',Inv (aJ X N a Z P2.objs.size t H2 fp) [] a3 H' s'/\tn i s'.heap/\(∀b∈fp,H' b=none)/\W i n a3 H') ?_ m0
   ⟨0,_,_,I4,T.keep _ _ _ b6 λb _ o e=>a2 b o e,λb f=>by rw[aM (Qwq (b3 b f))];exact(f2 b f).1,w0⟩
  rintro n s3 ⟨i,a8,H3,I3,c6,b8,w3⟩
  rcases d5 i n a8 H3 w3 with⟨stop,q⟩|⟨go,Nx,hN,c0⟩
  ·refine cg (T.done (aJ X N a Z P2.objs.size t H2 fp) rfl rfl rfl hc i [] s3 a8 H3 _ I3 (a4 rfl b8) c6 stop) λr s4 U=> ?_
   obtain⟨hr,I5⟩:=U
   subst hr
   obtain⟨m,hn,_⟩:=id I5.loc
   have e4:∀h',Heap.SameBut P2.objs.size s4.heap h'->Inv X a1 σ H3 {s4 with heap:=h'}:=by
    intro h' P
    have u:=I5.base
    have ne:∀b o,t.heap.get? b=some o->b≠P2.objs.size:=λb o e=>K b (Qiq e)
    refine F.call' (ch:=fp) I5.os ⟨λb o e n f hx=>(P.2 b (ne b o e)).trans (u.keep b o e n f hx),λb o e n f hx=> ?_,u.free,λb o e hx=> ?_,u.tups,u.frzs,u.tbls⟩ (λb ob e=> ?_) I5.bare λb f=>⟨(f2 b f).2.2.2.1,(f2 b f).2.1,(f2 b f).2.2.2.2.1,(f2 b f).2.2.2.2.2⟩
    ·obtain⟨sl,e1⟩:=u.slot b o e n f hx
     exact⟨sl,(P.2 b (ne b o e)).trans e1⟩
    ·obtain⟨o',e1⟩:=u.there b o e hx
     exact⟨o',(P.2 b (ne b o e)).trans e1⟩
    ·refine(I5.hok b ob e).stay (λc w' hc q=>(P.2 c ?_).trans q) (λ_ q=>q) λ_ _ q=>q
     have fC:H3 P2.objs.size=none:=I5.free
     rintro rfl
     rcases hc with z|z
     ·rw[←z,fC] at e;cases e
     ·rw[fC] at z;cases z
   have IX:=e4 s4.heap ⟨rfl,λ_ _=>rfl⟩
   have a9:ph X a1 H3 P2.objs.size:=F.fpOk a5 I5.free
   obtain⟨oC,es,ep,d3,d4,d6⟩:=hn
   have IP:=IX.pinned (fp:= [P2.objs.size]) (λb f=>by rw[Qfq] at f;rw[f];exact a9) (λb f=>by rw[Qfq] at f;rw[f];exact⟨oC,d3,λv=>by rw[d4];simp⟩)
   show wpAny _ _ (assignAll (.ref t.heap.objs.size) [assign M X.env]) _ _ _
   rw[assignAll.eq_2]
   refine cg (e0 _ s4 σ H3 (.ref t.heap.objs.size) (.ref t.heap.objs.size) _ IP rfl q) λ_ s6 U=> ?_
   obtain⟨G,H6,I6,q6⟩:=U
   have pC:=I6.pin (P2.objs.size,oC) (Qoq _ (Qoq _ (dJ (Qfq.mpr rfl) d3)))
   refine⟨m,⟨oC,es,ep,pC.1,d4,d6⟩,λh' P=>Qgq (Qgq ⟨G,H6,?_,q6⟩)⟩
   exact I6.unpinned.turned (it:=P2.objs.size) (t':=s6.toks) (λb o' f e=>(P.2 b f).trans e) pC.2.1 pC.2.2.1 a9.2.2.2.1 a9.2.2.2.2.1 a9.2.2.2.2.2
  ·refine cg (T.item (aJ X N a Z P2.objs.size t H2 fp) rfl rfl rfl hc i [] s3 a8 H3 _ I3 (a4 rfl b8) c6 go) λr s4 U=> ?_
   obtain⟨u,hr,h4⟩:=U
   subst hr
   refine cg h4 λ_ s5 U=> ?_
   obtain⟨x,H5,I5,r5,y5,b5,e6⟩:=U
   have d8:=I5.pinned (a4 rfl e6) (T.obj _ _ b5)
   refine cg (hg P2.objs.size t H2 fp _ s5 a8 H5 x u _ d8 r5 (c0 x H5 y5)) λ_ s6 U=> ?_
   obtain⟨G,H6,I6,q6⟩:=U
   refine cg (ht P2.objs.size t H2 fp _ s6 G H6 _ I6 q6) λok s7 U=> ?_
   obtain⟨H7,I7,q7⟩:=U
   have again:∀{s8:Shared} {H8:Hp},Inv (aJ X N a Z P2.objs.size t H2 fp) ([]++mz fp s5.heap) G H8 s8->Nx G H8->∃m,m<n/\∃i a3 H',Inv (aJ X N a Z P2.objs.size t H2 fp) [] a3 H' s8/\tn i s8.heap/\(∀b∈fp,H' b=none)/\W i m a3 H':=λ{s8 H8} I8 n8=>by
    obtain⟨m',hm,w8⟩:=hN G H8 n8
    refine⟨m',hm,i+1,G,H8,I8.unpinned,T.keep _ _ _ b5 λb f o e=>(I8.pin (b,o) (Qoq _ (Qoq _ (dJ f e)))).1,λb f=> ?_,w8⟩
    obtain⟨o,e,d⟩:=T.obj _ _ b5 b f
    exact(I8.pin (b,o) (Qoq _ (Qoq _ (dJ f e)))).2.1
   cases ok with
   |false=>exact again I7 q7
   | true=>
     refine cg (hk P2.objs.size t H2 fp _ s7 G H7 _ I7 q7) λkv s8 U=> ?_
     obtain⟨k,H8,I8,rk,q8⟩:=U
     refine cg (hv P2.objs.size t H2 fp _ s8 G H8 _ I8 q8) λyv s9 U=> ?_
     obtain⟨y,H9,I9,ry,d9,ky,ek,hx,hl,n9⟩:=U
     subst ek
     obtain⟨z,hd,vs,d1,dd⟩:=uZ I9.hok hx
     refine wpAny_dictSet_pairs (vH rk) dd (λh' c4 P=> ?_) (by rw[←d1.length];exact z)
     have he:∃q,h'.get? t.heap.objs.size=some q:=let ⟨q,_,_,hq,_⟩:=c4;⟨q,hq⟩
     have e8:=gu d9 ky y
     exact again (oK I9 (by rw[hx];exact True.intro) P he (pF (by omega) hd (d1.put ky ry) c4)) n9
 exact codeAny_compStart_dict b1 (T.self _ 0 _ _ _ (T.keep _ _ _ b6 λb _ o e=>a2 b o e) b1)
end L2
namespace DL
open PySem PySem.Spec PyProof.Rows L2
section
variable{M:Md}{ρ:List Addr}{H:Hp}{b:Addr}{us:List (Key×V)}{o:HO}
theorem eD.offK{S:aA}(st:eD M ρ S H)(f:H b=some (.dK us))(n:b∉ρ):eD M ρ S (upd H b o):=⟨st.len,st.nd,λk a p j m=>by
 have q:=st.obj k a p j m
 have e:a≠b:=λz=>n (z▸mQg j)
 cases p with
 |lst l=>obtain⟨g,d,c⟩:=q;exact⟨g,by rw[aM e];exact d,c.offK f⟩
 |frz l=>obtain⟨g,o,d,c⟩:=q;exact⟨g,o,by rw[aM e];exact d,c.offK f⟩
 |dct i=>obtain⟨h,d,c⟩:=q;exact⟨h,by rw[aM e];exact d,c.imp λ_ _ r=>r.offK f⟩
 |fdc i=>obtain⟨h,o,d,c⟩:=q;exact⟨h,o,by rw[aM e];exact d,c.imp λ_ _ r=>r.offK f⟩⟩
def En.offK{c:cE}{a:L2.St}(h:En M ρ H c a)(g:H b=some (.dK us)):En M ρ (upd H b o) c a:=⟨h.len,λi d q=>by obtain⟨v,e,f⟩:=h.get i d q;exact⟨v,e,f.offK g⟩⟩
end
open Classical in
def gG(g:j8)(t:h_)(b c:aW)(W:aA->Prop):List D->cE->aA->List (Key×D)->Option (List (Key×D)×aA)
 | [],Γ,S,acc=>if W S then some (acc,S) else none
 |d ::ds,Γ,S,acc=>if W S then(g d Γ S).bind λ(a,h)=>(t a h).bind λ(k,e)=>
    if k=true then(b a e).bind λ(x,f)=>(c a f).bind λ(y,i)=>(k9 x).bind λj=>if acc.length<sizeLine then gG g t b c W ds a i (putD acc j y) else none
    else gG g t b c W ds a e acc
  else none
def mQ(js:List (Option Nat))(i:rN)(g:j8)(t:h_)(c d:aW):cE->aA->Option (List (Key×D)×aA):=λa S=>(i a S).bind λ(p,b)=>gG g t c d p.2 p.1 (lO js a) b []
def Dy{M:Md}{js:List (Option Nat)}{i:rN}{g:j8}{t:h_}{fk fv:aW}{σ:L2.St}{H:Hp}{Q:VK}{ρ:List Addr}{Γ:cE}{S S':aA}{l:List (Key×D)}(ok:Ok M ρ Γ S σ H)(e:mQ js i g t fk fv Γ S=some (l,S'))
  (q:∀b a kv f,bx ρ H b f->eD M b S' f->H a=none->a∉b->f a=some (.dK kv)->bu M b f l kv->Q (.ref a) f):Bc js (tI M i) (tG M g) (tB M t) (tD M fk) (tD M fv) σ H Q:=by
 obtain⟨⟨⟨j,W⟩,S1⟩,e1,e⟩:=aq e
 refine⟨ρ,Γ,S,j,W,S1,ok,e1,λo J H1 x1 X wk D R=> ?_⟩
 have n1:D∉o:=dk x1 X R
 have a8:Ok M o (lO js Γ) S1 (j3 js σ) (upd H1 D (.dK [])):=⟨((ok.en.ext x1).ext (bx.laid R)).sig js,X.lay R⟩
 refine⟨λi m s f=>m=j.length-i/\i<=j.length/\∃c F U d n,bx o H1 c f/\Ok M c F U s f/\D∉c/\f D=some (.dK n)/\bu M c f d n/\gG g t fk fv W (j.drop i) F U d=some (l,S'),
  ⟨j.length,by simp,Nat.zero_le _,o,_,S1,[],[],bx.laid R,a8,n1,aR,rfl,e⟩,?_⟩
 rintro i m b4 H2 ⟨rfl,hi,c,F,U,d,n,x2,ok2,n2,hD2,racc,e2⟩
 by_cases P:i<j.length
 ·have hd:j[i]?=some j[i]:=gQe P
  rw[QWq P] at e2
  unfold gG at e2
  split at e2
  ·rename_i w
   obtain⟨w1,w2⟩:=wk i c U H2 x2 ok2.st w
   obtain⟨go,a7⟩:=w1 _ hd
   refine .inr ⟨go,λs f=>∃b A B d n,bx o H1 b f/\Ok M b A B s f/\D∉b/\f D=some (.dK n)/\bu M b f d n/\gG g t fk fv W (j.drop (i+1)) A B d=some (l,S'),
    λs f ⟨b,A,B,d,n,h1,h2,h3,h4,h5,h6⟩=>⟨j.length-(i+1),by omega,rfl,P,b,A,B,d,n,h1,h2,h3,h4,h5,h6⟩,λx H3 hy=> ?_⟩
   obtain⟨x3,b0,r3⟩:=a7 x H3 hy
   obtain⟨⟨h,S4⟩,e4,e5⟩:=aq e2
   refine⟨c,F,U,_,h,S4,ok2.to x3 b0,r3,e4,λa5 b3 H4 x4 p=> ?_⟩
   obtain⟨⟨k,S5⟩,e6,e7⟩:=aq e5
   refine⟨a5,h,S4,k,S5,p,e6,λY H5 Z N=> ?_⟩
   have C:=(x3.trans x4).trans Z
   have G:∀{b f},bx c H2 b f->f D=some (.dK n)/\D∉b:=λ{b f} x=>⟨x.keep _ _ hD2 (.inl n2),λm=>(x.new _ m).elim n2 λz=>by rw[z] at hD2;cases hD2⟩
   dsimp only at e7⊢
   split at e7
   ·rename_i ck
    rw[Qhq ck]
    obtain⟨⟨kx,S6⟩,e8,e9⟩:=aq e7
    obtain⟨⟨y,S7⟩,b2,a6⟩:=aq e9
    obtain⟨kk,a9,L⟩:=aq a6
    refine⟨Y,h,S5,kx,S6,p.to Z N,e8,λa3 kv H6 x6 a1 r6=>⟨a3,h,S6,y,S7,(p.to Z N).to x6 a1,b2,λb1 v H7 x7 a4 r7=> ?_⟩⟩
    have K:=(C.trans x6).trans x7
    obtain⟨u,n7⟩:=G K
    have I:=racc.ext' K
    split at L
    ·rename_i cl
     refine⟨n,kk,jF r6 a9,u,by rw[←racc.length];exact cl,b1,h,S7,putD d kk y,_,(x2.trans K).off R _,⟨(((p.en.ext Z).ext x6).ext x7).offK u,a4.offK u n7⟩,n7,aR,(I.put r7).imp λ_ _ r=>r.offK u,L⟩
    ·cases L
   ·rename_i ck
    rw[Quq ck]
    obtain⟨a2,n5⟩:=G C
    exact⟨Y,h,S5,d,n,x2.trans C,p.to Z N,n5,a2,racc.ext' C,e7⟩
  ·cases e2
 ·have e3:i=j.length:=by omega
  subst e3
  rw[List.drop_length] at e2
  unfold gG at e2
  split at e2
  ·rename_i w
   obtain⟨rfl,rfl⟩:=bG e2
   obtain⟨w1,w2⟩:=wk j.length c U H2 x2 ok2.st w
   exact .inl ⟨w2 rfl,q c D n H2 (x1.trans x2) ok2.st (x1.grow _ R) n2 hD2 racc⟩
  ·cases e2
def Hv(n:Nat)(f:cE->aA->Option (List (Key×D)×aA)):cG:=λa S=>(f a S).bind λ(l,b)=>some (.nx (a.set n (some (.ref b.length))) (b++ [.dct l]))
section
variable{X:Cx}{pos:Pos}
def C1{N:List Str}{js:List (Option Nat)}{c:Scope}{p:List (Str×Addr)}{r d y v f:Expr}{j:List Expr}{i:rN}{g:j8}{t:h_}{B G:aW}{n:Nat}{h:Pos}
  (S:aX X N js c p) (K:X.calm=true) (hi:PI X r d (tI (md X) i))
  (P:∀C s H fp,PG (aJ X N c p C s H fp) r (tG (md X) g)) (U:∀C s H fp,nZ (aJ X N c p C s H fp) j (tB (md X) t)) (hk:∀C s H fp,PE (aJ X N c p C s H fp) y (tD (md X) B)) (hv:∀C s H fp,PE (aJ X N c p C s H fp) v (tD (md X) G)) (z:PG X f (o6 n))
  (L:∀x,foldedSetIterable d X.env x=pure x:=by intro _;rfl) (w:swapsWithSole [f] (.DictComp y v [⟨r,d,j,0⟩] c pos) h.line X.env=pure true:=by rfl)
  (Q:(assignEach [f] X.env).map (·.2)= [assign f X.env]:=by rfl):PS X (.Assign [f] (.DictComp y v [⟨r,d,j,0⟩] c pos) h) (tS (md X) (Hv n (mQ js i g t B G))):=
 zH (BS S K hi P U hk hv z L w Q) λD σ H M=>by
  obtain⟨Y,Γ,S,o,ok,e,q⟩:=M
  obtain⟨⟨l,S1⟩,R,e⟩:=aq e
  cases e
  refine Dy ok R λk a Z F x A W nr J rs=> ?_
  have u:=A.box (o:=.dct l) nr ⟨Z,J,rs.pre' (List.prefix_append k [a])⟩
  have I:bx Y H (k++ [a]) F:=⟨x.pre.trans (List.prefix_append _ _),λb m=>by
   rcases mQa.mp m with m|m
   ·exact x.new b m
   ·rw[Qfq] at m;subst m;exact .inr W,x.keep,x.grow⟩
  refine q (k++ [a]) _ F I ⟨((ok.en.ext I).set (.ref ?_)),u⟩
  rw[←A.len,QQq (Qmq _)]
  simp
end
end DL
namespace Zp
open PySem PySem.W PyProof.Rows
end Zp
namespace L2
open PySem PySem.Spec PyProof.Rows
end L2
namespace DL
open PySem PySem.Spec PyProof.Rows L2
end DL
namespace L2
open PySem PySem.Spec PyProof.Rows
section
variable{X:Cx}
def oP(d:X.calm=true):iQ X (.type "list") (λxs H Q=>∃p i j,xs= [.ref p]/\H p=some (.rng i j)/\(-1000<=i/\i<=1000/\ -1000<=j/\j<=1000)/\∀l,H l=none->Q (.ref l) (upd H l (.lst (upTo i (j-i).toNat)))):=by
 intro c s A H xs z Q I r h
 obtain⟨p,i,j,rfl,hp,⟨h1,h2,h3,h4⟩,q⟩:=h
 obtain⟨u,rfl,rx⟩:=vals1 r
 cases (show u=Value.ref p from rx)
 obtain⟨t,u,v,e⟩:=(show bL X.prog X.w H s.heap p (.rng i j) from I.hok p _ hp)
 refine call_list_range (n:=(j-i).toNat) (I.ok.hd d) (show IsRange s.heap p i j 1 t u v from e) (small_one (by omega) (by omega) (by omega) (by omega)) (by rw[rangeSize_one];split <;>omega) (by omega) λC B a m y k b=> ?_
 have x:a_ (upTo i (j-i).toNat) a.toList:=y_ (by simpa using b.1) λj w f=>by
  obtain⟨t,g⟩:=b.2 j w (by simpa using f)
  exact⟨t,by rw[g];simp⟩
 refine⟨.ref _,_,I.laid (o:=.lst (upTo i (j-i).toNat)) y (Qmq _) ⟨?_,a.toList,m,x,by simpa using k⟩,rfl,q _ I.fresh⟩
 unfold upTo
 rw[lQm,QVq]
 exact QAq (show(j-i).toNat<=2000 by omega) (by decide)
end
end L2
namespace DL
open PySem PySem.Spec L2
section
variable{X:Cx}{a b e:Expr}{pos:Pos}
theorem aK.of_get{M:Md}{ρ:List Addr}{H:Hp}:∀{ds:List D} {vs:List V},ds.length=vs.length->(∀(i:Nat) (d:D),ds[i]?=some d->∃v,vs[i]?=some v/\Rel M ρ H d v)->aK M ρ H ds vs
 | [],[],_,_=>.nil
 | [],_::_,h,_=>by cases h
 |_::_,[],h,_=>by cases h
 | d::ds,v::vs,h,g=>by
   obtain⟨f,e,r⟩:=g 0 d rfl
   cases e
   exact .cons r (aK.of_get (Nat.succ.inj h) λi d c=>by
     obtain⟨v,e,r⟩:=g (i+1) d (by simpa using c)
     exact⟨v,by simpa using e,r⟩)
def zB{M:Md}{ρ:List Addr}{H:Hp}{lo hi:Int}:aK M ρ H (i3 lo hi) (L2.upTo lo (hi-lo).toNat):=by
 refine aK.of_get (by unfold i3 L2.upTo;simp) λi d c=> ?_
 unfold i3 at c
 unfold L2.upTo
 rw[gQm] at c⊢
 obtain⟨k,f,rfl⟩:=oQm.mp c
 exact⟨_,by rw[f];rfl,.int _⟩
def yJ(f:aW):fc:=λc S=>(f c S).bind λ(d,g)=>match d with
 |.int j=>if -1000<=j/\j<=1000 then some (i3 0 j,g) else none
 |_=>none
def Ey{f:aW}{p s g:Pos}(z:X.calm=true)(B:Gl X "list")(K:X.mg "list"=none)(t:Gl X "range")(n:X.mg "range"=none)(y:PE X a (tD (md X) f))(u:starEach [a] X.env= [(false,eval a X.env)]:=by rfl)
  (k:starEach [Expr.Call (.Name "range" s) [a] [] g] X.env= [(false,eval (Expr.Call (.Name "range" s) [a] [] g) X.env)]:=by rfl):
  PE X (.Call (.Name "list" p) [.Call (.Name "range" s) [a] [] g] [] pos) (tL (md X) (yJ f)):=
 jf (m3 (oP z) B K (by rfl) (cQ (m3 B6 t n PyProof.Rows.boot_range (cQ y fg u) (he:=u)) fg k) (he:=k)) λP H Q A=>by
  obtain⟨ρ,J,S,d,N,ok,e,q⟩:=A
  obtain⟨⟨F,L⟩,G,e⟩:=aq e
  cases F with
  | int j=>
    dsimp only at e
    split at e
    · rename_i c
      obtain⟨rfl,rfl⟩:=bG e
      refine⟨ρ,J,S,.int j,L,ok,G,λi v C x w r=> ?_⟩
      cases r
      refine⟨j,rfl,λp h=>⟨p,0,j,rfl,aR,⟨by omega,by omega,c.1,c.2⟩,λl m=> ?_⟩⟩
      have I:=x.trans ((bx.laid (ρ:=i) (o:=.rng 0 j) h).trans (bx.laid (o:=.lst (L2.upTo 0 (j-0).toNat)) m))
      refine q _ _ _ _ I ((w.lay h).lay m) ?_ (dk (x.trans (bx.laid h)) (w.lay h) m) aR ?_
      · exact(x.trans (bx.laid (o:=.rng 0 j) h)).grow _ m
      · have:=zB (M:=md X) (ρ:=i) (H:=upd (upd C p (.rng 0 j)) l (.lst (L2.upTo 0 (j-0).toNat))) (lo:=0) (hi:=j)
        exact this
    · cases e
  |_=>cases e
end
def yq{P:Program}{w:World}{K:PySem.W.Frag}{mg:Str->Option Value}{base:Heap}{f:Addr}{d:FuncData}{ps:List Str}{k n:Nat}:bc P w K mg base dC k f d ps (d0 ⟨K,mg⟩ n λ_ _=>none):=
 {len:=λc H Q E h=>by
   obtain⟨_,_,_,_,_,_,_,_,e,_⟩:=h
   cases e
  run:=λA a s H b g c Q E _ _ _ _ h=>by
   obtain⟨_,_,_,_,_,_,_,_,e,_⟩:=h
   cases e}
end DL
namespace Zq
open PySem PyProof.Rows
def CO{prog:Program}{w:World}{A:Around}(l:A.handled=none)(t:Bool)(it a:Addr)(f:a≠it)(items:Array Value):
  Draws prog w A it [it,a] items.size (λi v=>items[i]?=some v) (λi h=>It t h it a i/\Sq t h a items) where
 live:=λ_ _ b=>by obtain⟨o,h,_⟩:=b.1.obj;exact⟨o,h⟩
 frame:=λ_ _ _ b j=>⟨b.1.at λo e=>j it (by simp) o e,b.2.at λo e=>j a (by simp) o e⟩
 item:=λi s Q E g b k=>draw b.1 b.2 (v:=items[i]) (by simp[g]) λm d c=>k _ m s.toks (by simp[g]) ⟨d,b.2.ext c.extBut f⟩ c
 done:=λs Q E b n=>yQ l b.1 b.2 (by simp) n
def BP{prog:Program}{w:World}{A:Around}(f:A.handled=none)(t:Bool)(it a:Addr)(items:Array Value)(k:Nat)(c:items.size<=k):
  Draws prog w A it [it,a] k (λi v=>items[i]?=some v) (λi h=>i=k/\It t h it a k/\Sq t h a items) where
 live:=λ_ _ b=>by obtain⟨o,h,_⟩:=b.2.1.obj;exact⟨o,h⟩
 frame:=λ_ _ _ b c=>⟨b.1,b.2.1.at λo e=>c it (by simp) o e,b.2.2.at λo e=>c a (by simp) o e⟩
 item:=λi s Q E d b j=>absurd b.1 (Qwq d)
 done:=λs Q E b g=>yQ f b.2.1 b.2.2 (by simp[c]) g
abbrev E2(t:Bool)(h:Heap)(a:Addr):Heap:=(H1 t h a).push {cls:=.type "enumerate",data:=.fields #[.none,.bool false,.ref h.objs.size,rawInt 0,.none,.none]}
def xm(t:Bool)(a:Addr)(xs:Array Value):Meets (Builtin.«enumerate.__new__» ⟨[.type "enumerate",.ref a],[]⟩) (λ_ R s=>Sq t s.heap a xs/\R (.ok (.ret (.ref (H1 t s.heap a).objs.size))) {s with heap:=E2 t s.heap a}):=
 .of_wp λe w A R s h=>by
  obtain⟨i,g,d,l,f⟩:=s
  obtain⟨j,h⟩:=h
  have k:=sub_enumerate
  cases t
  ·have b:Heap.IsList (Shared.heap ⟨i,g,d,l,f⟩) a xs:=j
   wp_walk
   refine wpAny_stack_any λm=>Qgq ?_
   split
   ·rename_i c _ _ _ _ _
    cases (c==Value.type "enumerate")
    ·wp_walk using wpAny_pyIter_list b
     exact⟨_,rfl,h⟩
    ·wp_walk using wpAny_pyIter_list b
     exact⟨_,rfl,h⟩
   ·wp_walk using wpAny_pyIter_list b
    exact⟨_,rfl,h⟩
  ·have b:Heap.IsTuple (Shared.heap ⟨i,g,d,l,f⟩) a xs:=j
   wp_walk
   refine wpAny_stack_any λm=>Qgq ?_
   split
   ·rename_i c _ _ _ _ _
    cases (c==Value.type "enumerate")
    ·wp_walk using wpAny_pyIter_tuple b
     exact⟨_,rfl,h⟩
    ·wp_walk using wpAny_pyIter_tuple b
     exact⟨_,rfl,h⟩
   ·wp_walk using wpAny_pyIter_tuple b
    exact⟨_,rfl,h⟩
section
variable{prog:Program}{w:World}{A:Around}{E:Value->Shared->Prop}{s:Shared}
def Gz{t:Bool}{a:Addr}{xs:Array Value}{Q:Value->Shared->Prop}(f:Sq t s.heap a xs)
  (q:∀h',IsEnum h' (s.heap.objs.size+1) s.heap.objs.size 0 .none->It t h' s.heap.objs.size a 0->(∀c o,s.heap.get? c=some o->h'.get? c=some o)->Q (.ref (s.heap.objs.size+1)) {s with heap:=h'}):
  wpAny (model prog w) A (call (.type "enumerate") [.ref a]) Q E s:=by
 refine callType_new F.called_enumerate (by decide) (F.typeCall_enumerate_1 _) (F.newCall_enumerate_1 _) (λb=>F.args_object_init_2 b _) F.entry_enumerate_new (xm t a xs) ⟨f,?_⟩
 have e:(H1 t s.heap a).objs.size=s.heap.objs.size+1:=Heap.size_push ..
 have d:(E2 t s.heap a).get? (H1 t s.heap a).objs.size=some _:=Qrq _ rfl
 have g:(E2 t s.heap a).get? s.heap.objs.size=some _:=Qcq _ (Qrq _ rfl)
 refine(?_:_/\_)
 rw[e] at d
 rw[e]
 refine⟨⟨_,d,rfl⟩,q _ d ?_ λc o n=>Qcq _ (Qcq _ n)⟩
 cases t <;>exact⟨_,g,rfl,rfl⟩
end
end Zq
namespace L2
open PySem PyProof.Rows Zq
def Ko(K:PySem.W.Frag)(t:Bool)(a:Addr):It:=
  ⟨λi H=>∃b x,u9 K t H a b/\b[i]?=some x,
   λi H v c=>∃p,v=.ref p/\H p=none/\∀b x,u9 K t H a b->b[i]?=some x->c=upd H p (.tup [.int (i:Nat),x]),
   λi H=>∃b,u9 K t H a b/\b.length<=i⟩
def zk{P:Program}{w:World}{K:PySem.W.Frag}{q:List Expr}{x1:Nat}{tp:Pos}{t:Bool}{e it a:Addr}(l:e≠it)(Q:a≠e)(F:a≠it):
  Turn P w K (.Tuple q x1 tp) (Ko K t a) [e,it] e (λn h=>(∃d,IsEnum h e it (n:Nat) d)/\Zq.It t h it a n) where
 mem:=by simp
 obj:=λn h ⟨⟨d,f⟩,j⟩ c b=>by
  simp at b
  rcases b with rfl|rfl
  ·exact⟨_,f,λv n=>by cases n⟩
  ·exact j.obj
 keep:=λn h h' ⟨⟨d,f⟩,j⟩ k=>⟨⟨d,k e (by simp) _ f⟩,j.at λo e=>k it (by simp) o e⟩
 item:=by
  rintro X m B L b n i s Z H E I u ⟨⟨d,f⟩,j⟩ C
  subst m B L
  obtain⟨xs,x,y,R⟩:=C
  obtain⟨g,J,G,_⟩:=I.sq y
  obtain⟨ux,ex,rx⟩:=J.get R
  have U:∀{c o},s.heap.get? c=some o->c≠s.heap.objs.size:=λe=>Qwq (Qiq e)
  have p:∀c∈[e,it],c≠s.heap.objs.size:=λc b=>by
   obtain⟨oi,e1,_⟩:=j.obj
   simp at b
   rcases b with rfl|rfl
   ·exact U f
   ·exact U e1
  have M:n<g.toArray.size:=by
   have:=(gQs.mp ex).1
   simpa using this
  refine wpAny_pyNext_enum_itemD (CO (A:=X.A.in1) (I.ok.hd b) t it a F g.toArray) f ⟨j,G⟩ M l (by simp[l,Ne.symm Q]) λY h1 tk m ho N hT a1 hk=>⟨_,rfl,?_⟩
  obtain rfl:Y=ux:=by
   have:=m
   simp only[List.getElem?_toArray] at this
   rw[ex] at this
   exact(QdQ this).symm
  refine wpAny_letOwnedTupleGo_enum ho λh2 e2 z=> ?_
  have I2:Inv X i Z (upd H s.heap.objs.size (.tup [.int (n:Nat),x])) {s with heap:=h2,toks:=tk+1}:=I.turnedNew (t':=tk+1) (fp:= [e,it]) u (λc o b r=> ?_) (Qmq _) ?_
  ·refine⟨.ref s.heap.objs.size,_,I2,rfl,⟨s.heap.objs.size,rfl,I.hok.fresh (Qmq _),λa2 Y q1 S=> ?_⟩,⟨⟨_,by simpa using e2⟩,N.1.ext z.extBut (Ne.symm l)⟩,λc b=> ?_⟩
   ·rw[I.sq_inj q1 y] at S
    rw[R] at S
    cases S
    rfl
   ·rw[aM (p c b)]
    exact(u c b).1
  ·simp at b
   exact z.extBut _ _ b.1 (hk c o b.1 b.2 r)
  ·exact⟨by show 2<=_;decide,[_,_],.cons ⟨_,rfl⟩ (.cons rx .nil),_,z.extBut _ _ (λr=>p e (by simp) r.symm) hT,rfl,rfl,0,rfl⟩
 done:=by
  rintro X m B L b n i s Z H E I u ⟨⟨d,f⟩,j⟩ C
  subst m B L
  obtain⟨xs,y,R⟩:=C
  obtain⟨g,J,G,_⟩:=I.sq y
  have hl:=J.length
  refine wpAny_pyNext_enum_endD (BP (A:=X.A.in1) (I.ok.hd b) t it a g.toArray n (by simp;omega)) f ⟨rfl,j,G⟩ λh1 r1=>⟨rfl,I.turnedL (t':=s.toks) (fp:= [e,it]) u λc o b r=> ?_⟩
  simp at b
  exact r1 c o b.2 r
 self:=λ_ _ _ _ _ ⟨⟨d,f⟩,_⟩ h=>wpAny_pyIter_enum f h
section
variable{X:Cx}
def GG(K:PySem.W.Frag)(d:TA):TI:=λb H R=>d b H λc H1=>∃(t:Bool) (a:Addr) (e:List V),c= [.ref a]/\u9 K t H1 a e/\R (Ko K t a) H1
def CD{d:List Expr}{C:Nat}{A:Pos}{a:Expr}{m:TA}{p pos:Pos}(w:Gl X "enumerate")(L:X.mg "enumerate"=none)(u:PA X [a] m)(v:starEach [a] X.env= [(false,eval a X.env)]:=by rfl):
  PI X (.Tuple d C A) (.Call (.Name "enumerate" p) [a] [] pos) (GG X.K m):=by
 intro b s F H R I h
 refine Call_ (jh I w L (by rfl) (PyProof.Rows.callWith_type1 (cg (u pos b s F H _ I h) λN g ⟨P,H1,f,y,z⟩=> ?_) v rfl))
 obtain⟨t,x,S,e,G,q⟩:=z
 subst e
 cases y with
 | cons r M=>
   cases M
   cases r
   obtain⟨B,Q,l,_⟩:=f.sq G
   have i:=Sq.lt l
   refine Zq.Gz l λU n J k=> ?_
   refine wpAny_pyIter_enum n ⟨_,_,_,_,H1,rfl,f.kept (t':=g.toks) k,zk (e:=g.heap.objs.size+1) (it:=g.heap.objs.size) (Nat.succ_ne_self _) (Qwq (Nat.lt_succ_of_lt i)) (Qwq i),⟨⟨_,n⟩,J⟩,λc j=> ?_,q⟩
   have o:g.heap.objs.size<=c:=by
     simp only[Qsq,QXq,or_false] at j
     rcases j with e|e <;>(rw[e];first|exact Qmq _|exact Nat.le_add_right _ _)
   exact f.fpOk o (f.hok.fresh o)
end
end L2
namespace DL
open PySem PySem.Spec L2
def fS(n:Nat):List D->List D
 | []=> []
 |d::ds=>.tup [.int n,d]::fS (n+1) ds
theorem rA:∀{ds:List D} {n i:Nat} {d:D},(fS n ds)[i]?=some d->∃x,ds[i]?=some x/\d=.tup [.int ((n+i:Nat)),x]
 | [],_,_,_,h=>by simp[fS] at h
 | x::ds,n,0,d,h=>by
   simp only[fS,List.getElem?_cons_zero,Option.some.injEq] at h
   exact⟨x,rfl,h.symm⟩
 | x::ds,n,i+1,d,h=>by
   simp only[fS,List.getElem?_cons_succ] at h
   obtain⟨y,a,b⟩:=rA h
   exact⟨y,by simpa using a,by rw[b];congr 3;omega⟩
theorem rH:∀{ds:List D} {n:Nat},(fS n ds).length=ds.length
 | [],_=>rfl
 |_::_,_=>congrArg (·+1) rH
def yF(f:et):rN:=λa S=>(f a S).bind λ(p,b)=>some ((fS 0 p.1,λS=>p.2.stays S p.1),b)
section
variable{X:Cx}{a:Expr}{pos:Pos}
def Jm{b:List Expr}{h:Nat}{L p:Pos}{f:et}(z:Gl X "enumerate")(U:X.mg "enumerate"=none)(t:PE X a (tQ (md X) f))(n:starEach [a] X.env= [(false,eval a X.env)]:=by rfl):
  PI X (.Tuple b h L) (.Call (.Name "enumerate" p) [a] [] pos) (tI (md X) (yF f)):=G7 (CD z U (cQ t fg n) n) λσ H R ⟨M,K,S,ds,W,S',ok,e,q⟩=>by
 obtain⟨⟨⟨m,y⟩,S1⟩,I,e⟩:=aq e
 obtain⟨P,rfl⟩:=bG e
 obtain⟨rfl,rfl⟩:=Prod.mk.inj P
 refine⟨M,K,S,m,y,S1,ok,I,λY C k H1 h l o B=> ?_⟩
 refine⟨_,C,k,rfl,o.sqB,q _ _ _ h l λi G S3 H3 A c w=> ?_⟩
 obtain⟨g,j,r⟩:=o.to B A c w
 refine⟨λd Q=> ?_,λJ=>⟨g,j.sqB,?_⟩⟩
 ·obtain⟨x,N,rfl⟩:=rA Q
  obtain⟨u,s,F⟩:=r.get N
  refine⟨⟨g,u,j.sqB,s⟩,λv H4 Z=> ?_⟩
  obtain⟨p,rfl,hp,hq⟩:=Z
  have:=hq g u j.sqB s
  subst this
  refine⟨bx.laid hp,c.lay hp,.tup aR ((aK.cons ?_ (.cons F .nil)).ext (bx.laid hp))⟩
  rw[Nat.zero_add]
  exact .int _
 ·rw[J,rH,r.length]
  exact Qmq _
end
structure yR(P:Program)(w:World)(K:PySem.W.Frag)(mg:Str->Option Value)(x:Str)(tbl:List (Str×Str)):Prop where
 at_:∃a,mg x=some (.ref a)/\∀h:Heap,K.In h->∃vs,h.DictOf (bg P w) a vs/\∀k nm,tbl.lookup k=some nm->∃f,valueAt vs (Sum.inr k:Key)=some (.ref f)/\mg nm=some (.ref f)
section
variable{X:Cx}{a b c e:Expr}{pos:Pos}
def Iw(d:List (Str×Str))(g:aW):aW:=λf S=>(g f S).bind λ(y,h)=>match y with
 |.str x=>(d.lookup x).bind λi=>some (.fn i,h)
 |_=>none
def CG{x:Str}{j:List (Str×Str)}{g:aW}{p:Pos}(W:yR X.prog X.w X.K X.mg x j)(M:Gl X x)(hb:PE X b (tD (md X) g))(G:AD b)(hd:(x==("__debug__":Str))=false:=by decide):
  PE X (.Subscript (.Name x p) b pos) (tD (md X) (Iw j g)):=by
 rintro i s σ H Q I ⟨u,Γ,S,d,S',ok,e,q⟩
 obtain⟨a,hm,hK⟩:=W.at_
 obtain⟨⟨y,B⟩,Y,e⟩:=aq e
 cases y with
 | str z=>
   obtain⟨U,R,e⟩:=aq e
   obtain⟨rfl,rfl⟩:=bG e
   refine xU PySem.F.slot_dict_getitem.lookup G (s_ I M hm ?_ hd)
   refine cg (hb i s σ H (λv l=>∃h,bx u H h l/\eD (md X) h B l/\Rel (md X) h l (.str z) v) I ⟨u,Γ,S,_,B,ok,Y,λh v l x J r=>⟨h,x,J,r⟩⟩) λiv L N=> ?_
   obtain⟨v,H2,t,rv,h,Z,n,r2⟩:=N
   obtain⟨vs,A,hv⟩:=hK _ t.kIn
   obtain⟨f,hf,m⟩:=hv z U R
   cases r2
   have C:L.TypeIs (.ref a) "dict":=by
     obtain⟨o,es,ep,P,h2,h3,_⟩:=A
     exact⟨o,P,h2.1⟩
   refine⟨C,wpAny_getItem_of (vH (k:=Sum.inr z) rv) A.mapOf hf ?_⟩
   exact⟨.ref f,H2,t.tok _,rfl,q _ _ _ Z n (.fn m)⟩
 |_=>cases e
def qw(i:Nat)(T:List (Str×cY))(g:fc):aW:=λd S=>match d[i]? with
 |some (some (.fn x))=>(T.lookup x).bind λF=>az F g d S
 |_=>none
def CM{i k:Nat}{y:Str}{ps:List Str}{T:List (Str×cY)}{j:List Expr}{g:fc}{p:Pos}(M:∀x F,T.lookup x=some F->eS X.prog X.w X.K X.mg X.base k x ps F)(hr:dZ k X.A)(hN:X.N[i]?=some y)(hv:FD X.env.scope y)
  (P:PA X (e::j) (vA (md X) g)) (hn:nA ps.length g) (B:(y==("__debug__":Str))=false:=by decide) (t:(y==("__classdict__":Str))=false:=by decide) (he:starEach (e::j) X.env=(false,eval e X.env)::starEach j X.env:=by rfl) (hpl:(backTo pos (starEach j X.env)).any (·.1)=false:=by rfl):
  PE X (.Call (.Name y p) (e::j) [] pos) (tD (md X) (qw i T g)):=by
 rintro h s z H Q I ⟨ρ,Γ,S,d,R,ok,e,q⟩
 unfold qw at e
 split at e
 ·rename_i x hx
  obtain⟨F,o,e⟩:=aq e
  obtain⟨f,fd,G,bb,kp,m⟩:=(M x F o).ex
  obtain⟨v,n,rv⟩:=ok.en.get i _ hx
  cases rv with
  | fn hm=>
    have L:(md X).mg x=some (.ref f):=m
    rw[hm] at L
    cases L
    refine wpAny_Call_Name_kw (cg (Ci hN hv B t h s z H (λJ l=>J=.ref f/\l=H) I ⟨_,n,rfl,rfl⟩) λu s1 Y=> ?_)
    obtain⟨J,l,I1,r1,o,Z⟩:=Y
    subst o Z
    cases (show u=Value.ref f from r1)
    refine PySem.W.callWith_K (h₀:=X.base) I.ok.mod.kin kp (cg (P pos h s1 z l _ I1 (xV hn z l Q ⟨ρ,Γ,S,d,R,ok,e,q⟩)) λus s2 ⟨vs,H1,C,r,U⟩=>⟨C.kIn,?_⟩) he hpl
    exact A7 G hr bb .nil Av C r U
 ·cases e
end
def xO(w:World)(x:Str):PyData.keyHash w.params x=hashStr w x:=by
 unfold PyData.keyHash hashStr
 first|rfl|simp
inductive Al(w:World)(mg:Str->Option Value):List DictEntry->List (Str×Str)->Prop
 |nil:Al w mg [] []
 |cons {x nm:Str} {t:Tok} {f:Addr} {es:List DictEntry} {tbl:List (Str×Str)}:mg nm=some (.ref f)->Al w mg es tbl->Al w mg (⟨PyData.keyHash w.params x,.str x t,.ref f⟩::es) ((x,nm)::tbl)
def Al.keys{P:Program}{w:World}{mg:Str->Option Value}{b:List DictEntry}{a:List (Str×Str)}(c:Al w mg b a):∀e∈b,∃k,(bg P w).is k e.key=true/\e.hash=(bg P w).hash k:=by
 induction c with
 |nil=>intro e h;cases h
 | @cons x nm t f b a hm c ih=>
   intro e h
   rcases Qsq.mp h with rfl|h
   · exact⟨Sum.inr x,mi x t,xO w x⟩
   · exact ih e h
def Al.pairs{P:Program}{w:World}{mg:Str->Option Value}{b:List DictEntry}{a:List (Str×Str)}(e:Al w mg b a):∃vs:List (Key×Value),Pairs (bg P w) b vs/\vs.map (·.1)=a.map (λp=>Sum.inr p.1)∧
  ∀k nm,a.lookup k=some nm->∃f,valueAt vs (Sum.inr k:Key)=some (.ref f)/\mg nm=some (.ref f):=by
 induction e with
 |nil=>exact⟨[],.nil,rfl,λk nm h=>by cases h⟩
 | @cons x nm t f b a hm e ih=>
   obtain⟨vs,i,m,l⟩:=ih
   refine⟨(Sum.inr x,.ref f)::vs,.cons (mi x t) rfl i,by simp[m],λk n h=> ?_⟩
   by_cases c:k=x
   · subst c
     rw[List.lookup_cons_self] at h
     cases h
     refine⟨f,?_,hm⟩
     unfold valueAt
     rw[List.find?_cons_of_pos (by simp)]
     rfl
   · have o:(k==x)=false:=by simpa using c
     rw[List.lookup_cons,o] at h
     obtain⟨g,d,j⟩:=l k n h
     refine⟨g,?_,j⟩
     unfold valueAt at d⊢
     rw[List.find?_cons_of_neg]
     · exact d
     · intro z
       have:(Sum.inr x:Key)=Sum.inr k:=by simpa using z
       exact c (Sum.inr.inj this).symm
def Bo{P:Program}{w:World}{K:PySem.W.Frag}{mg:Str->Option Value}{x:Str}{c:List (Str×Str)}{a:Addr}{d:List DictEntry}{ep:Nat}(m:mg x=some (.ref a))(l:K.lookup a=some ⟨.type "dict",none,.dict d.toArray ep,#[]⟩)(f:Al w mg d c)(nd:(c.map (·.1)).Nodup):yR P w K mg x c:=by
 obtain⟨i,g,o,k⟩:=f.pairs (P:=P)
 refine⟨a,m,λh q=>⟨i,⟨_,_,_,q _ _ l,⟨rfl,rfl,rfl⟩,rfl,λe j=>f.keys e (by simpa using j),by simpa using g,?_⟩,k⟩⟩
 rw[o]
 have:c.map (λp=>(Sum.inr p.1:Key))=(c.map (·.1)).map Sum.inr:=by rw[QPq];rfl
 rw[this]
 exact List.Pairwise.map _ (λa b n e=>n (Sum.inr.inj e)) nd
theorem Am{P:Program}{w:World}{K:PySem.W.Frag}{mg:Str->Option Value}{base:Heap}{k:Nat}{ps:List Str}:∀{T:List (Str×cY)},(∀p∈T,eS P w K mg base k p.1 ps p.2)->∀x F,T.lookup x=some F->eS P w K mg base k x ps F
 | [],_,x,F,h=>by cases h
 | p::T,g,x,F,h=>by
   by_cases c:x=p.1
   · subst c
     rw[List.lookup_cons_self] at h
     cases h
     exact g p (QBq ..)
   · have b:(x==p.1)=false:=by simpa using c
     rw[List.lookup_cons,b] at h
     exact Am (λq a=>g q (Qpq _ a)) x F h
def uP:Sp:=λc H Q _=>∃(a:Addr) (b:List Int) (o:Obj),c= [.ref a]/\H a=some (.frz o (.lst (b.map V.int)))/\b.length<=63/\∀d,Q (.bl true) d
theorem rF{M:Md}{ρ:List Addr}{H:Hp}:∀ns:List Int,aK M ρ H (ns.map D.int) (ns.map V.int)
 | []=>.nil
 |s::ss=>.cons (.int s) (rF ss)
def CA{P:Program}{w:World}{K:PySem.W.Frag}{mg:Str->Option Value}{base:Heap}{k:Nat}{f:Addr}{i:FuncData}{ps:List Str}{F:cY}(G:bc P w K mg base dC k f i ps (d0 ⟨K,mg⟩ 1 F))
  (h:∀ns:List Int,ns.length<=63->∃c,F [.ref 0] [.frz (ns.map D.int)]=some (.d (.bl true),c)):bc P w K mg base dC k f i ps uP:=
 G.imp λy H Q E l=>by
  obtain⟨a,ns,o,e,j,m,q⟩:=l
  subst e
  obtain⟨c,e⟩:=h ns m
  refine⟨[a],[.frz (ns.map D.int)],[.ref 0],_,c,rfl,.cons (.ref rfl) .nil,⟨rfl,by simp,λk b u g s=> ?_⟩,e,λp v n x t r=> ?_⟩
  ·cases k with
   |zero=>cases g;cases s;exact⟨_,o,j,rF ns⟩
   |succ k=>simp at g
  ·cases r
   exact q n
def xH(K:PySem.W.Frag):Bool:=K.all λp=>match p.2.data with|.seq _ _=>(match p.2.cls with|.type s=>s !="list" |_=>true)|_=>true
def y0{K:PySem.W.Frag}(h:xH K=true){a:Addr}{o:Obj}(e:K.lookup a=some o){f:Array Value}{n:Nat}(hd:o.data=.seq f n):o.cls≠.type "list":=by
 intro i
 have d:∀(K:List (Addr×Obj)),K.all (λp=>match p.2.data with|.seq _ _=>(match p.2.cls with|.type s=>s !="list" |_=>true)|_=>true)=true->K.lookup a=some o->False:=by
  intro K
  induction K with
  |nil=>intro _ e;cases e
  | cons p K j=>
    intro h e
    rw[List.all_cons,QCq] at h
    obtain⟨b,q⟩:=p
    rw[List.lookup_cons] at e
    by_cases c:a=b
    · subst c
      simp only[BEq.rfl] at e
      cases e
      have g:=h.1
      simp only[hd,i] at g
      simp at g
    · have k:(a==b)=false:=by simpa using c
      rw[k] at e
      exact j h.2 e
 exact d K h e
def H_{K:PySem.W.Frag}{H:Hp}{a:Addr}{ns:List Int}(b:xH K=true)(c:ns.length<=63)(e:DK H)(d:gJ K H a (ns.map V.int)):uP [.ref a] H (λv _=>v=.bl true) λ_ _ _=>False:=by
 rcases d with(h|⟨o,h⟩)|⟨o,its,n,h,hc,_,hd,_⟩
 ·rcases e a with z|⟨o,f,z⟩
  ·rw[h] at z;cases z
  ·rw[h] at z;cases z
 ·exact⟨a,ns,o,rfl,h,c,λ_=>rfl⟩
 ·exact absurd hc (y0 b h hd)
def GO{l:PySem.W.OpenLaw}{q:Program}{b:List Str}{v:(Str->Option Value)->Heap->Prop}{i:World->Heap->Prop}{d:DefRec}{K:Params->PySem.W.Frag}{k:Nat}(p:l.most=some 63)(c:d.params.defaults= [])(t:dZ k PySem.callerA)
  (y:∀(w:World) (h:Heap),i w h->(K w.params).In h) (m:∀w:World,xH (K w.params)=true)
  (F:∀(w:World) (mg:Str->Option Value) (g:Addr) (h:Heap),(K w.params).In h->h.Ns mainGlobals mg->mg d.name=some (.ref g)→
   ∃e:FuncData,(∀(s:Shared) (u:Value),BindsTo s e ⟨[u],[]⟩ [("_law_script",u)])/\∀base:Heap,(K w.params).In base->base.Ns mainGlobals mg->bc l.prog w (K w.params) mg base dC k g e ["_law_script"] uP):
  PySem.W.WalkO q b v i l.row.toRowW d [] (λf vs=>PySem.call f vs):=
 L2.Ds (n:=63) (k:=k) (x:="_law_script") (CX:=λ_=>dC) (sp:=λ_=>uP) p (by decide) c t y F (λw H a A j o r=>H_ (m w) j o r) λ_ _ _ _ _ z=>z
end DL
namespace DL
open PySem PySem.Spec L2 PyProof.Rows
section
variable{X:Cx}{x:Str}{e:Expr}{f:aW}{pos pos':Pos}
def xa(i:Nat)(c:X.N.Nodup)(he:PE X e (tD (md X) f))(hi:X.N[i]?=some x:=by rfl)(d:Loc X.env.scope x:=by first|exact Or.inl rfl|exact Or.inr rfl)(b:swapsWith e (some (.Name x pos')) pos.line X.env=pure false:=by rfl)
  (a:X.fn x=true\/X.env.scope.names.lookup x=some .local:=by first|exact .inl rfl|exact .inr rfl|assumption):PS X (.Assign [.Name x pos'] e pos) (tS (md X) (bq i f)):=GD (F_ c hi d he b a)
def KI(i:Nat)(b:X.N.Nodup)(hi:X.N[i]?=some x:=by rfl)(c:Loc X.env.scope x:=by first|exact Or.inl rfl|exact Or.inr rfl)(a:X.fn x=true\/X.env.scope.names.lookup x=some .local:=by first|exact .inl rfl|exact .inr rfl|assumption):PG X (.Name x pos) (o6 i):=tf b hi c a
def vo(i:Nat)(b:X.N.Nodup)(hi:X.N[i]?=some x:=by rfl)(c:Loc X.env.scope x:=by first|exact Or.inl rfl|exact Or.inr rfl)(a:X.fn x=true\/X.env.scope.names.lookup x=some .local:=by first|exact .inl rfl|exact .inr rfl|assumption):PG X (.Name x pos) (tG (md X) (bK i)):=Cn (tf b hi c a)
def KQ{N:List Str}{a:Scope}{b:List (Str×Addr)}{C:Addr}{s:Shared}{H:Hp}{fp:List Addr}(i:Nat)(d:N.Nodup:=by decide +kernel)(hi:(aJ X N a b C s H fp).N[i]?=some x:=by rfl)(g:Loc (aJ X N a b C s H fp).env.scope x:=by first|exact Or.inl rfl|exact Or.inr rfl)
  (c:(aJ X N a b C s H fp).fn x=true\/(aJ X N a b C s H fp).env.scope.names.lookup x=some .local:=by first|exact .inl rfl|exact .inr rfl|assumption):PG (aJ X N a b C s H fp) (.Name x pos) (tG (md (aJ X N a b C s H fp)) (bK i)):=Cn (tf d hi g c)
def v_(i:Nat)(b:X.N[i]?=some x:=by rfl)(c:FD X.env.scope x:=by first|exact Or.inl rfl|exact Or.inr (Or.inl rfl)|exact Or.inr (Or.inr rfl))(hd:(x==("__debug__":Str))=false:=by decide)(a:(x==("__classdict__":Str))=false:=by decide):PE X (.Name x pos) (tD (md X) (av i)):=Gw (pv i b c hd a)
end
section
variable{X:Cx}{x:Str}{k k':Nat}{ps:List Str}{F:cY}{e:Expr}{es:List Expr}{g:fc}{p pos:Pos}
def nX(C:eS X.prog X.w X.K X.mg X.base k x ps F)(f:dZ k' X.A)(b:PA X (e::es) (vA (md X) g))(h:k<=k':=by first|decide|omega)(c:Gl X x:=by rfl)
  (d:nA ps.length g:=by repeat (first|exact w9|refine jA ?_))
  (a:(x==("__debug__":Str))=false:=by decide) (he:starEach (e::es) X.env=(false,eval e X.env)::starEach es X.env:=by rfl) (hpl:(backTo pos (starEach es X.env)).any (·.1)=false:=by rfl):
  PE X (.Call (.Name x p) (e::es) [] pos) (tD (md X) (az F g)):=GQ C (f.mono h) c b d a he hpl
def G0(C:eS X.prog X.w X.K X.mg X.base k x ps F)(f:dZ k' X.A)(b:PA X (e::es) (vA (md X) g))(h:k<=k':=by first|decide|omega)(c:Gl X x:=by rfl)
  (d:nA ps.length g:=by repeat (first|exact w9|refine jA ?_))
  (a:(x==("__debug__":Str))=false:=by decide) (he:starEach (e::es) X.env=(false,eval e X.env)::starEach es X.env:=by rfl) (hpl:(backTo pos (starEach es X.env)).any (·.1)=false:=by rfl):
  PE X (.Call (.Name x p) (e::es) [] pos) (tL (md X) (eG F g)):=G9 C (f.mono h) c b d a he hpl
end
def e_{N P:List Str}{h:Scope}(a:h.kind=.function:=by rfl)(b:h.isCoroutine=false:=by rfl)(c:h.isGenerator=false:=by rfl)(d:N.Nodup:=by decide +kernel)(e:N.take P.length=P:=by rfl)
  (f:∀x∈P,h.names.lookup x=some .local\/h.names.lookup x=some .cell:=by decide +kernel) (g:∀y∈h.names,y.2≠.free:=by decide +kernel):aC N P h:=⟨a,b,c,d,e,f,g⟩
structure aS(K:PySem.W.Frag)(x:Str)(st:Stmt)(f:Addr):Prop where
 ex:∃(oc:Value) (od:Option Addr) (kV dc pm:Value) (an:Option Addr) (cd ct:Value) (sl:Array (Option Value)),PySem.W.nsIn K mainGlobals x=some (some (.ref f))∧
  K.lookup f=some ⟨oc,od,.func (PySem.W.fnOf x x (fu st) (eB st) (ay st) .none kV dc pm an cd ct),sl⟩/\PySem.W.codeIn K cd x=true/\PySem.W.keepIn K (.ref f)=true
def aS.of{K:PySem.W.Frag}{x:Str}{st:Stmt}{f:Addr}{g:Value}{i:Option Addr}{kV j d:Value}{e:Option Addr}{b ct:Value}{h:Array (Option Value)}(a:PySem.W.nsIn K mainGlobals x=some (some (.ref f)))
  (l:K.lookup f=some ⟨g,i,.func (PySem.W.fnOf x x (fu st) (eB st) (ay st) .none kV j d e b ct),h⟩) (c:PySem.W.codeIn K b x=true) (k:PySem.W.keepIn K (.ref f)=true):aS K x st f:=⟨g,i,kV,j,d,e,b,ct,h,a,l,c,k⟩
structure JF(K:PySem.W.Frag)(mg:Str->Option Value)(x:Str)(st:Stmt)(ps:List Str)(f:Addr):Prop where
 ex:∃fd,d_ K x x st f fd/\Binds K fd ps []/\PySem.W.keepIn K (.ref f)=true
 m:mg x=some (.ref f)
def aS.ok1{K:PySem.W.Frag}{mg:Str->Option Value}{x:Str}{st:Stmt}{ps:List Str}{f:Addr}{h:Heap}(D:aS K x st f)(X:K.In h)(G:h.Ns mainGlobals mg)
  (m:∀(kV d e:Value) (g:Option Addr) (b ct:Value) (a:List Value),a.length=ps.length->bindArgs (PySem.W.fnOf x x (fu st) (eB st) (ay st) .none kV d e g b ct) ⟨a,[]⟩=pure (ps.zip a):=by intro _ _ _ _ _ _ a k;rcases a with _|⟨_,_|⟨_,_|⟨_,_|⟨_,_|⟨_,_|⟨_,_⟩⟩⟩⟩⟩⟩ <;>first|rfl|cases k):JF K mg x st ps f:=by
 obtain⟨q,n,kV,p,e,g,o,ct,r,l,j,i,c⟩:=D.ex
 exact⟨⟨_,wm j i c,(wm j i c).binds m,c⟩,PySem.W.mg_of X G l⟩
structure Pk(P:Program)(w:World)(base:Heap):Prop where
def JF.cal{P:Program}{w:World}{base:Heap}{K:PySem.W.Frag}{mg:Str->Option Value}{x:Str}{st:Stmt}{ps:List Str}{f:Addr}{k:Nat}{F:cY}(O:JF K mg x st ps f)(Z:Pk P w base)
  (h:∀a,d_ K x x st f a->Binds K a ps []->PySem.W.keepIn K (.ref f)=true->mg x=some (.ref f)->bc P w K mg base dC k f a ps (d0 ⟨K,mg⟩ ps.length F)):eS P w K mg base k x ps F:=by
 obtain⟨a,d,b,c⟩:=O.ex
 exact⟨f,a,h a d b c O.m,b,c,O.m⟩
end DL
namespace DL
open PySem PySem.Spec L2
def E{α:Type}(f:cE->aA->Option (α×aA))(c:cE)(S:aA)(Q:α->aA->Prop):Prop:=∃a b,f c S=some (a,b)/\Q a b
def T(f:cG)(a:cE)(S:aA)(Q:Out->Prop):Prop:=∃o,f a S=some o/\Q o
def Fn(F:cY)(ds:List D)(S:aA)(Q:Res->aA->Prop):Prop:=∃r a,F ds S=some (r,a)/\Q r a
def Tg(g:j8)(d:D)(c:cE)(S:aA)(Q:cE->aA->Prop):Prop:=∃a b,g d c S=some (a,b)/\Q a b
def IK(g:nR)(d:List D)(c:cE)(S:aA)(Q:cE->aA->Prop):Prop:=∃a b,g d c S=some (a,b)/\Q a b
def Op{α:Type}(o:Option α)(Q:α->Prop):Prop:=∃d,o=some d/\Q d
section
variable{Γ:cE}{S:aA}
def E.mono{α:Type}{f:cE->aA->Option (α×aA)}{Q R:α->aA->Prop}(h:E f Γ S Q)(i:∀a S,Q a S->R a S):E f Γ S R:=by
 obtain⟨a,b,e,q⟩:=h
 exact⟨a,b,e,i _ _ q⟩
def bP{i:Nat}{d:D}{Q:D->aA->Prop}(h:Γ[i]?=some (some d))(q:Q d S):E (av i) Γ S Q:=⟨d,S,by unfold av;rw[h],q⟩
def Ga{d:D}{Q:D->aA->Prop}(q:Q d S):E (cF d) Γ S Q:=⟨d,S,rfl,q⟩
def rO{Q:List D->aA->Prop}(q:Q [] S):E aw Γ S Q:=⟨[],S,rfl,q⟩
def mZ{f:aW}{g:fc}{Q:List D->aA->Prop}(h:E f Γ S λd a=>E g Γ a λds S2=>Q (d::ds) S2):E (ax f g) Γ S Q:=by
 obtain⟨d,a,b,ds,S2,c,q⟩:=h
 exact⟨_,_,by unfold ax;rw[b];simp only[Qbq];rw[c];rfl,q⟩
def Cs{o:pD}{f g:aW}{Q:D->aA->Prop}(h:E f Γ S λx a=>E g Γ a λy S2=>Op (o S2 x y) λd=>Q d S2):E (bj o f g) Γ S Q:=by
 obtain⟨x,a,b,y,S2,c,d,e,q⟩:=h
 exact⟨d,S2,by unfold bj;rw[b];simp only[Qbq];rw[c];simp only[Qbq];rw[e];rfl,q⟩
def HJ{f:fc}{Q:D->aA->Prop}(h:E f Γ S λds a=>ds.length<=sizeLine/\Q (.tup ds) a):E (aV f) Γ S Q:=by
 obtain⟨ds,a,b,l,q⟩:=h
 exact⟨_,_,by unfold aV;rw[b];simp only[Qbq];rw[Qhq l],q⟩
def sF{f:fc}{Q:List D->aA->Prop}(h:E f Γ S λds a=>ds.length<=sizeLine/\Q ds a):E (gg f) Γ S Q:=by
 obtain⟨ds,a,b,l,q⟩:=h
 exact⟨_,_,by unfold gg;rw[b];simp only[Qbq];rw[Qhq l],q⟩
def DW{f:fc}{Q:D->aA->Prop}(h:E f Γ S λds a=>Q (.ref a.length) (a++ [.lst ds])):E (kM f) Γ S Q:=by
 obtain⟨ds,a,b,q⟩:=h
 exact⟨_,_,by unfold kM;rw[b];rfl,q⟩
def KM{o:D4}{f:fc}{Q:D->aA->Prop}(h:E f Γ S λds a=>Op (o ds) λd=>Q d a):E (Ae o f) Γ S Q:=by
 obtain⟨ds,a,b,d,c,q⟩:=h
 exact⟨d,a,by unfold Ae;rw[b];simp only[Qbq];rw[c];rfl,q⟩
def nM{f:aW}{Q:(List D×Tag)->aA->Prop}(h:E f Γ S λd a=>Op (pz a d) λp=>Q p a):E (bF f) Γ S Q:=by
 obtain⟨e,a,b,d,c,q⟩:=h
 exact⟨d,a,by unfold bF;rw[b];simp only[Qbq];rw[c];rfl,q⟩
def B7{f:fc}{Q:(List D×Tag)->aA->Prop}(h:E f Γ S λds a=>Q (ds,.fr) a):E (kN f) Γ S Q:=by
 obtain⟨ds,a,b,q⟩:=h
 exact⟨_,a,by unfold kN;rw[b];rfl,q⟩
def J4{f:et}{Q:D->aA->Prop}(h:E f Γ S λp a=>Q (.int p.1.length) a):E (iZ f) Γ S Q:=by
 obtain⟨p,a,b,q⟩:=h
 exact⟨_,a,by unfold iZ;rw[b];rfl,q⟩
def JK{f:et}{Q:D->aA->Prop}(h:E f Γ S λp a=>Q (.tup p.1) a):E (tupQ f) Γ S Q:=by
 obtain⟨p,a,b,q⟩:=h
 exact⟨_,a,by unfold tupQ;rw[b];rfl,q⟩
def Gg{f:et}{Q:(List D×Tag)->aA->Prop}(h:E f Γ S λp a=>p.2.isL=true/\Q p a):E (lB f) Γ S Q:=by
 obtain⟨p,a,b,l,q⟩:=h
 exact⟨_,a,by unfold lB;rw[b];simp only[Qbq];rw[Qhq l],q⟩
def yx{f:et}{Q:D->aA->Prop}(h:E f Γ S λp a=>(p.2.isL=true/\p.2.stays a p.1)/\Q (.bl (!p.1.isEmpty)) a):E (my f) Γ S Q:=by
 obtain⟨p,a,b,l,q⟩:=h
 exact⟨_,a,by unfold my;rw[b];simp only[Qbq];rw[Qhq l],q⟩
def Bn{F:cY}{g:fc}{Q:D->aA->Prop}(h:E g Γ S λds a=>Fn F ds a λr S2=>match r with|.d x=>Q x S2|.l _=>False):E (az F g) Γ S Q:=by
 obtain⟨ds,a,b,r,S2,c,q⟩:=h
 cases r with
 |d x=>exact⟨x,S2,by unfold az;rw[b];simp only[Qbq];rw[c];rfl,q⟩
 |l x=>exact q.elim
def Iv{F:cY}{g:fc}{Q:List D->aA->Prop}(h:E g Γ S λds a=>Fn F ds a λr S2=>match r with|.d _=>False|.l x=>Q x S2):E (eG F g) Γ S Q:=by
 obtain⟨ds,a,b,r,S2,c,q⟩:=h
 cases r with
 |d x=>exact q.elim
 |l x=>exact⟨x,S2,by unfold eG;rw[b];simp only[Qbq];rw[c];rfl,q⟩
def gK{f:aW}{Q:Bool->aA->Prop}(h:E f Γ S λd a=>match d with|.bl k=>Q k a|_=>False):E (aO f) Γ S Q:=by
 obtain⟨d,a,b,q⟩:=h
 cases d with
 |bl k=>exact⟨k,a,by unfold aO;rw[b];rfl,q⟩
 |_=>exact q.elim
def Ib{f:aW}{Q:Bool->aA->Prop}(h:E f Γ S λd a=>Op (wW a d) λk=>Q k a):E (i_ f) Γ S Q:=by
 obtain⟨d,a,b,k,c,q⟩:=h
 exact⟨k,a,by unfold i_;rw[b];simp only[Qbq];rw[c];rfl,q⟩
def F0{f:h_}{Q:Bool->aA->Prop}(h:E f Γ S λk a=>Q (!k) a):E (uc f) Γ S Q:=by
 obtain⟨k,a,b,q⟩:=h
 exact⟨_,a,by unfold uc;rw[b];rfl,q⟩
def EF{f g:h_}{Q:Bool->aA->Prop}(h:E f Γ S λk a=>if k=true then E g Γ a Q else Q false a):E (vj f g) Γ S Q:=by
 obtain⟨k,a,b,q⟩:=h
 cases k with
 |true=>obtain⟨j,c,d,q⟩:=(q:E g Γ a Q);exact⟨j,c,by unfold vj;rw[b];exact d,q⟩
 |false=>exact⟨false,a,by unfold vj;rw[b];rfl,q⟩
def Be{f g:h_}{Q:Bool->aA->Prop}(h:E f Γ S λk a=>if k=true then Q true a else E g Γ a Q):E (FZ f g) Γ S Q:=by
 obtain⟨k,a,b,q⟩:=h
 cases k with
 |true=>exact⟨true,a,by unfold FZ;rw[b];rfl,q⟩
 |false=>obtain⟨j,c,d,q⟩:=(q:E g Γ a Q);exact⟨j,c,by unfold FZ;rw[b];exact d,q⟩
def J3{c:h_}{f g:aW}{Q:D->aA->Prop}(h:E c Γ S λk a=>if k=true then E f Γ a Q else E g Γ a Q):E (pN c f g) Γ S Q:=by
 obtain⟨k,a,e,q⟩:=h
 cases k with
 |true=>obtain⟨j,b,d,q⟩:=(q:E f Γ a Q);exact⟨j,b,by unfold pN;rw[e];exact d,q⟩
 |false=>obtain⟨j,b,d,q⟩:=(q:E g Γ a Q);exact⟨j,b,by unfold pN;rw[e];exact d,q⟩
def B8{i:Nat}{f:aW}{Q:Out->Prop}(h:E f Γ S λd a=>Q (.nx (Γ.set i (some d)) a)):T (bq i f) Γ S Q:=by
 obtain⟨d,a,b,q⟩:=h
 exact⟨_,by unfold bq;rw[b];rfl,q⟩
def nB{f:aW}{Q:Out->Prop}(h:E f Γ S λd a=>Q (.rt d a)):T (cc f) Γ S Q:=by
 obtain⟨d,a,b,q⟩:=h
 exact⟨_,by unfold cc;rw[b];rfl,q⟩
def Ji{f:fc}{Q:Out->Prop}(h:E f Γ S λd a=>Q (.rl d a)):T (D3 f) Γ S Q:=by
 obtain⟨d,a,b,q⟩:=h
 exact⟨_,by unfold D3;rw[b];rfl,q⟩
def CC{f:aW}{Q:Out->Prop}(h:E f Γ S λd a=>Q (.nx Γ a)):T (Cq f) Γ S Q:=by
 obtain⟨d,a,b,q⟩:=h
 exact⟨_,by unfold Cq;rw[b];rfl,q⟩
def bW{Q:Out->Prop}(q:Q (.nx Γ S)):T gD Γ S Q:=⟨_,rfl,q⟩
def KU{f:aW}{g:j8}{Q:Out->Prop}(h:E f Γ S λd b=>Tg g d Γ b λa S2=>Q (.nx a S2)):T (oI f g) Γ S Q:=by
 obtain⟨d,b,c,a,S2,e,q⟩:=h
 exact⟨_,by unfold oI;rw[c];simp only[Qbq];rw[e];rfl,q⟩
def bz{f g:cG}{Q:Out->Prop}(h:T f Γ S λo=>match o with|.nx a b=>T g a b Q|o=>Q o):T (aD f g) Γ S Q:=by
 obtain⟨o,c,q⟩:=h
 cases o with
 |nx a b=>obtain⟨o,d,q⟩:=(q:T g a b Q);exact⟨o,by unfold aD;rw[c];exact d,q⟩
 |_=>exact⟨_,by unfold aD;rw[c];rfl,q⟩
def fA{c:h_}{f g:cG}{Q:Out->Prop}(h:E c Γ S λk a=>if k=true then T f Γ a Q else T g Γ a Q):T (gk c f g) Γ S Q:=by
 obtain⟨k,a,d,q⟩:=h
 cases k with
 |true=>obtain⟨j,b,q⟩:=(q:T f Γ a Q);exact⟨j,by unfold gk;rw[d];exact b,q⟩
 |false=>obtain⟨j,b,q⟩:=(q:T g Γ a Q);exact⟨j,by unfold gk;rw[d];exact b,q⟩
def aL{i:Nat}{d:D}{Q:cE->aA->Prop}(q:Q (Γ.set i (some d)) S):Tg (bK i) d Γ S Q:=⟨_,_,rfl,q⟩
def KS{f g:aW}{d:D}{Q:cE->aA->Prop}(h:E f Γ S λx a=>E g Γ a λy S2=>∃k i ds j,x=.ref k/\y=.int i/\S2[k]?=some (.lst ds)/\yV ds.length i=some j/\Q Γ (S2.set k (.lst (ds.set j d)))):Tg (Gh f g) d Γ S Q:=by
 obtain⟨x,a,b,y,S2,c,k,i,ds,j,rfl,rfl,h1,h2,q⟩:=h
 exact⟨_,_,by unfold Gh;rw[b];simp only[Qbq];rw[c];simp only[Qbq,h1,h2],q⟩
def Kz{f g h:aW}{Q:Out->Prop}(w:E f Γ S λx c=>E g Γ c λy S2=>∃k i ds m,x=.ref k/\y=.int i/\S2[k]?=some (.lst ds)/\0<=i/\ds[i.toNat]?=some (.int m)/\E h Γ S2 λz b=>∃n a j,z=.int n/\b[k]?=some (.lst a)/\yV a.length i=some j/\Q (.nx Γ (b.set k (.lst (a.set j (.int (m+n))))))):T (Ii f g h) Γ S Q:=by
 obtain⟨x,c,e,y,S2,d,k,i,ds,m,rfl,rfl,h1,h2,h3,z,b,e3,n,a,j,rfl,h4,h5,q⟩:=w
 exact⟨_,by unfold Ii;rw[e];simp only[Qbq];rw[d];simp only[Qbq,h1,Qhq h2,h3,e3,h4,h5],q⟩
def iJ{i:rN}{g:j8}{b:cG}{Q:Out->Prop} (h:E i Γ S λp v=>∃I:Nat->cE->aA->Prop,I 0 Γ v/\(∀n a e,I n a e->p.2 e)∧
   (∀(n:Nat) (d:D) (a:cE) (e:aA),p.1[n]?=some d->I n a e->Tg g d a e λr S2=>T b r S2 λo=>match o with|.nx c f=>I (n+1) c f|.ct c f=>I (n+1) c f|.bk c f=>Q (.nx c f)|o=>Q o)∧
   ∀a e,I p.1.length a e->Q (.nx a e)):T (kG i g b) Γ S Q:=by
 obtain⟨⟨s,W⟩,v,B,I,A,y,j,t⟩:=h
 have z:∀(k n:Nat) (a:cE) (e:aA),n+k=s.length->I n a e->∃o,forL g b W (s.drop n) a e=some o/\Q o:=by
  intro k
  induction k with
  | zero=>
    intro n a e w l
    rw[List.drop_of_length_le (by omega)]
    refine⟨.nx a e,by simp only[forL];rw[Qhq (y _ _ _ l)],t _ _ (by rw[←w];exact l)⟩
  | succ k x=>
    intro n a e w l
    have m:n<s.length:=by omega
    rw[QWq m]
    obtain⟨r,S2,u,o,C,q⟩:=j n s[n] a e (gQe m) l
    simp only[forL]
    rw[Qhq (y _ _ _ l),u]
    simp only[Qbq]
    rw[C]
    simp only[Qbq]
    cases o with
    |nx c f=>exact x (n+1) c f (by omega) q
    |ct c f=>exact x (n+1) c f (by omega) q
    |bk c f=>exact⟨_,rfl,q⟩
    |rt d f=>exact⟨_,rfl,q⟩
    |rl d f=>exact⟨_,rfl,q⟩
 obtain⟨o,u,q⟩:=z s.length 0 Γ v (by omega) A
 exact⟨o,by unfold kG;rw[B];exact u,q⟩
def pE{js:List (Option Nat)}{i:rN}{g:j8}{t:h_}{f:aW}{Q:List D->aA->Prop} (h:E i Γ S λp A=>∃I:Nat->cE->aA->List D->Prop,I 0 (lO js Γ) A []/\(∀n b e a,I n b e a->p.2 e)∧
   (∀(n:Nat) (d:D) (b:cE) (e:aA) (a:List D),p.1[n]?=some d->I n b e a->Tg g d b e λj S2=>E t j S2 λk w=>if k=true then E f j w λy x=>a.length<sizeLine/\I (n+1) j x (a++ [y]) else I (n+1) j w a)∧
   ∀b e a,I p.1.length b e a->Q a e):E (dm js i g t f) Γ S Q:=by
 obtain⟨⟨u,W⟩,A,L,I,H,F,m,v⟩:=h
 have G:∀(k n:Nat) (b:cE) (e:aA) (a:List D),n+k=u.length->I n b e a->∃r l,jR g t f W (u.drop n) b e a=some (r,l)/\Q r l:=by
  intro k
  induction k with
  | zero=>
    intro n b e a B o
    rw[List.drop_of_length_le (by omega)]
    refine⟨a,e,by simp only[jR];rw[Qhq (F _ _ _ _ o)],v _ _ _ (by rw[←B];exact o)⟩
  | succ k C=>
    intro n b e a B o
    have s:n<u.length:=by omega
    rw[QWq s]
    obtain⟨j,S2,z,c,w,M,q⟩:=m n u[n] b e a (gQe s) o
    simp only[jR]
    rw[Qhq (F _ _ _ _ o),z]
    simp only[Qbq]
    rw[M]
    simp only[Qbq]
    cases c with
    | true=>
      rw[Qhq rfl] at q⊢
      obtain⟨y,x,K,J,q⟩:=q
      rw[K]
      simp only[Qbq]
      rw[Qhq J]
      exact C (n+1) j x _ (by omega) q
    | false=>
      rw[Quq (by decide)] at q⊢
      exact C (n+1) j w _ (by omega) q
 obtain⟨r,l,z,q⟩:=G u.length 0 _ A [] (by omega) H
 exact⟨r,l,by unfold dm;rw[L];exact z,q⟩
def Au{f:aW}{Q:(List D×(aA->Prop))->aA->Prop}(h:E f Γ S λd a=>∃j,d=.int j/\(-(2^62)<=j/\j<2^62)/\Q (i3 0 j,λ_=>True) a):E (wY f) Γ S Q:=by
 obtain⟨d,a,b,j,rfl,hj,q⟩:=h
 exact⟨_,a,by unfold wY;rw[b];simp only[Qbq];rw[Qhq hj],q⟩
def sN{f:et}{Q:(List D×(aA->Prop))->aA->Prop}(h:E f Γ S λp a=>Q (p.1,λb=>p.2.stays b p.1) a):E (qF f) Γ S Q:=by
 obtain⟨p,a,c,q⟩:=h
 exact⟨_,a,by unfold qF;rw[c];rfl,q⟩
def BM{m:List D->List D->Option (List D×D)}{f:aW}{g:fc}{Q:D->aA->Prop}(h:E f Γ S λx b=>∃k a,x=.ref k/\b[k]?=some (.lst a)/\E g Γ b λys S2=>∃ds,S2[k]?=some (.lst ds)/\Op (m ds ys) λp=>Q p.2 (S2.set k (.lst p.1))):E (Cr m f g) Γ S Q:=by
 obtain⟨x,b,c,k,a,rfl,h1,ys,S2,e2,ds,h2,p,e3,q⟩:=h
 exact⟨_,_,by unfold Cr;rw[c];simp only[Qbq,e2,h1,h2,e3],q⟩
end
def bD{n:Nat}{b:cG}{ds:List D}{S:aA}{Q:Res->aA->Prop} (h:T b (ds.map some++List.replicate (n-ds.length) none) S λo=>match o with
   |.nx _ a=>Op (settle S .non a) λp=>Q p.1 p.2|.rt d a=>Op (settle S d a) λp=>Q p.1 p.2|.rl l a=>Op (eC S l a) λp=>Q p.1 p.2|_=>False):Fn (eE n b) ds S Q:=by
 obtain⟨o,f,q⟩:=h
 cases o with
 |nx g a=>obtain⟨⟨r,e⟩,c,q⟩:=q;exact⟨r,e,by unfold eE;rw[f];exact c,q⟩
 |rt d a=>obtain⟨⟨r,e⟩,c,q⟩:=q;exact⟨r,e,by unfold eE;rw[f];exact c,q⟩
 |rl d a=>obtain⟨⟨r,e⟩,c,q⟩:=q;exact⟨r,e,by unfold eE;rw[f];exact c,q⟩
 |bk=>exact q.elim
 |ct=>exact q.elim
def fH{S a S2:aA}{d:D}{Q:Res×aA->Prop}(b:lR S a)(c:a.take S.length=S2)(hd:∀k,d≠.ref k)(e:bB S.length d=true)(q:Q (.d d,S2)):Op (settle S d a) Q:=by
 refine⟨_,?_,q⟩
 unfold settle
 rw[Qhq b,c]
 cases d with
 |ref k=>exact absurd rfl (hd k)
 |_=>simp only[e,if_true]
def oQ{S a S2:aA}{ds:List D}{Q:Res×aA->Prop}(b:lR S a)(c:a.take S.length=S2)(d:bo S.length ds=true)(q:Q (.l ds,S2)):Op (eC S ds a) Q:=by
 refine⟨_,?_,q⟩
 unfold eC
 rw[Qhq ⟨b,d⟩,c]
def p0{S:aA}:lR S S:=⟨Qmq _,λk o _ h=>.inl h⟩
def rV{S:aA}{k:Nat}{o:O}(h:Dx S.length o=true):lR S (S.set k o):=by
 refine⟨by simp,λj u _ e=> ?_⟩
 rw[List.getElem?_set] at e
 split at e
 ·split at e
  ·cases e;exact .inr h
  ·cases e
 ·exact .inl e
end DL
namespace L2
open PySem PySem.Spec PyProof.Rows
end L2
namespace DL
open PySem PySem.Spec L2
end DL
namespace L2
open PySem PySem.Spec PyProof.Rows
end L2
namespace DL
open PySem PySem.Spec PyProof.Rows L2
end DL
namespace L2
open PySem PySem.Spec PyProof.Rows
end L2
namespace DL
open PySem PySem.Spec PyProof.Rows L2
end DL
namespace DL
open PySem PySem.Spec L2
mutual
def iR:D->Option PyData
 |.non=>some .none
 |.bl b=>some (.bool b)
 |.int i=>some (.int i)
 |.str x=>if PyData.strOk x=true then some (.str x) else none
 |.tup a=>(jS a).map .tuple
 |.ref _=>none
 |.fn _=>none
def jS:List D->Option (List PyData)
 | []=>some []
 |d::ds=>(iR d).bind λp=>(jS ds).map (p::·)
end
mutual
theorem lT:∀{d:D} {p:PyData},iR d=some p->p.canLay0=true
 |.non,_,e=>by cases e;rfl
 |.bl _,_,e=>by cases e;rfl
 |.int _,_,e=>by cases e;rfl
 | .str x,_,e=>by
   simp only[iR] at e
   split at e
   · rename_i c;cases e;exact c
   · cases e
 | .tup ds,_,e=>by
   simp only[iR] at e
   obtain⟨b,a,rfl⟩:=oQm.mp e
   exact rJ a
 |.ref _,_,e=>by cases e
 |.fn _,_,e=>by cases e
theorem rJ:∀{ds:List D} {ps:List PyData},jS ds=some ps->PyData.canLayAll0 ps=true
 | [],_,e=>by cases e;rfl
 | d::ds,_,e=>by
   simp only[jS] at e
   obtain⟨p,a,e⟩:=aq e
   obtain⟨ps,b,rfl⟩:=oQm.mp e
   simp only[PyData.canLayAll0,QCq]
   exact⟨lT a,rJ b⟩
end
mutual
theorem wg{M:Md}{ρ:List Addr}{H:Hp}:∀{d:D} {p:PyData} {v:V},Rel M ρ H d v->iR d=some p->nU (λ_=>False) H p v
 |.non,_,_,.non,e=>by cases e;exact .non
 |.bl _,_,_,.bl _,e=>by cases e;exact .bl _
 |.int _,_,_,.int _,e=>by cases e;exact .int _
 | .str _,_,_,.str _,e=>by
   simp only[iR] at e
   split at e
   · cases e;exact .str _
   · cases e
 | .tup ds,_,_,.tup h hs,e=>by
   simp only[iR] at e
   obtain⟨b,a,rfl⟩:=oQm.mp e
   exact .tup h (yA hs a)
 |.ref _,_,_,_,e=>by cases e
 |.fn _,_,_,_,e=>by cases e
theorem yA{M:Md}{ρ:List Addr}{H:Hp}:∀{ds:List D} {ps:List PyData} {vs:List V},aK M ρ H ds vs->jS ds=some ps->oV (λ_=>False) H ps vs
 | [],_,_,.nil,e=>by cases e;exact .nil
 | d::ds,_,_,.cons h hs,e=>by
   simp only[jS] at e
   obtain⟨p,a,e⟩:=aq e
   obtain⟨ps,b,rfl⟩:=oQm.mp e
   exact .cons (wg h a) (yA hs b)
end
end DL
namespace L2
open PySem PySem.Spec
section
variable{X:Cx}
def G4(a:Bool):R2:=λx y H Q=>∃p q,nU (λ_=>False) H p x/\nU (λ_=>False) H q y/\p.canLay0=true/\q.canLay0=true/\p.depth<=60/\Q (.bl (if a then !PyData.eqv p q else PyData.eqv p q)) H
def EL(m:X.A.units+64<cLine):iH X (compareOp .NotEq) (G4 true):=by
 rintro b s n H x y v u Q I e i ⟨p,q,k,j,f,g,o,h⟩
 obtain⟨r,d,_⟩:=pw I (λa z=>z.elim) k e
 obtain⟨l,c,_⟩:=pw I (λa z=>z.elim) j i
 exact SeqAt.neOverData _ _ _ _ _ _ _ _ _ _ _ _ d c f g (by omega) ⟨.bl _,H,I,rfl,h⟩
end
end L2
namespace DL
open PySem PySem.Spec L2
section
variable{X:Cx}{a b e:Expr}{pos:Pos}
def BW(c:Bool):pD:=λ_ x y=>(iR x).bind λp=>(iR y).bind λq=>if p.depth<=60 then some (.bl (if c then !PyData.eqv p q else PyData.eqv p q)) else none
def Ft{M:Md}{f:Bool}:iS M (G4 f) (BW f):=by
 intro m S H x y d u v Q i j l e q
 unfold BW at e
 obtain⟨p,h,e⟩:=aq e
 obtain⟨k,g,e⟩:=aq e
 split at e
 ·rename_i c
  cases e
  exact⟨p,k,wg j h,wg l g,lT h,lT g,c,q _ _ bx.refl i (.bl _)⟩
 ·cases e
def A2{f g:aW}{k:Nat}(h:dZ k X.A)(c:PE X a (tD (md X) f))(d:PE X b (tD (md X) g)):PT X (.Compare a [.NotEq] [b] pos) (tB (md X) (aO (bj (BW true) f g))):=D5 (EL h.units) Ft c d (w5 _)
end
end DL
namespace DL
open PySem PySem.Spec PyProof.Rows L2
def gW:fillsNumberSlot (.type "tuple") "mul"=pure false:=
 PySem.fillsNumberSlot_seq (id:="tuple.__mul__") (r:=some (.builtin "tuple.__rmul__")) PySem.F.slot_tuple_mul.lookup (by decide +kernel) PySem.F.slot_tuple_rmul.lookup (by decide +kernel)
def lN:seqRepeat? (.type "tuple")=pure (some (.builtin "tuple.__mul__")):=by
 unfold seqRepeat?
 rw[PySem.seqSlot_of (T:="tuple") (name:="__mul__") (id:="tuple.__mul__") PySem.F.slot_tuple_mul.lookup (by decide +kernel),PySem.seqSlot_of (T:="tuple") (name:="__rmul__") (id:="tuple.__rmul__") PySem.F.slot_tuple_rmul.lookup (by decide +kernel)]
 rfl
def pV(a:Int)(t:Tok)(l:Addr)(items:Array Value)(n:Nat)(c:Option Addr)(e:Array (Option Value)):
  Meets (Builtin.«int.__rmul__» ⟨[.int a t,.ref l],[]⟩) (λ_ R s=>s.heap.get? l=some {cls:=.type "tuple",dict:=c,data:=.seq items n,slots:=e}/\R (.ok (.ret Value.notImplemented)) s):=
 .of_wp λb w A R s h=>by obtain⟨j,g,d,k,i⟩:=s;obtain⟨f,h⟩:=h;wp_walk;exact⟨_,rfl,h⟩
def zK(l:Addr)(items:Array Value)(n:Nat)(q:Option Addr)(v:Array (Option Value))(x:Int)(u:Tok)(H:2<=x)(F:x<2^63)(a:¬items.isEmpty=true)(hsz:items.size*x.toNat<=sizeLine):
  Meets (Builtin.«tuple.__mul__» ⟨[.ref l,.int x u],[]⟩) (λ_ R s=>s.heap.get? l=some {cls:=.type "tuple",dict:=q,data:=.seq items n,slots:=v}/\R (.ok (.ret (Value.ref s.heap.objs.size))) {s with heap:=s.heap.push {cls:=Value.type "tuple",data:=Data.seq (List.foldl (λf e=>f++e) #[] (List.replicate x.toNat items))},toks:=s.toks}):=
 .of_wp λi w A R s h=>by
  obtain⟨B,g,d,G,z⟩:=s;obtain⟨b,h⟩:=h
  have C:=AutoSeq1.idx_int
  have j:(sizeLine:Nat)=16777216:=by decide
  have k:((items.size:Int)*x)=((items.size*x.toNat:Nat):Int):=by rw[Int.natCast_mul,Int.toNat_of_nonneg (by omega)]
  have t:items.size*x.toNat<=16777216:=by omega
  have o:¬(decide (x< -2^63)||decide (x>=2^63))=true:=by simp;omega
  have r:¬(items.isEmpty||x==1)=true:=by simp at a⊢;exact⟨a,by omega⟩
  have y:¬(decide (x<=0)||items.isEmpty)=true:=by simp at a⊢;exact⟨by omega,a⟩
  have p:¬((items.size:Int)*x>(2^63-1)/8):=by rw[k];omega
  have m:¬Builtin.Tuple.tupleTooMany ((items.size:Int)*x)=true:=by rw[k];unfold Builtin.Tuple.tupleTooMany;rw[Qdq (by rw[j];omega)];decide
  have c:(List.foldl (λf e=>f++e) #[] (List.replicate x.toNat items)).size<=sizeLine:=by rw[AutoListH.size_joined,j,Nat.mul_comm];simpa using t
  wp_walk using wpAny_loadPart' b
  refine QgQ (Qdq o) ?_
  wp_walk using wpAny_loadPart' b
  refine QgQ (Qdq r) ?_
  wp_walk using wpAny_loadPart' b
  refine QgQ (Qdq y) ?_
  wp_walk using wpAny_loadPart' b
  refine QgQ (Qdq p) ?_
  wp_walk using wpAny_loadPart' b
  refine QgQ (Qdq m) ?_
  wp_walk using wpAny_loadPart' b
  refine QgQ (Qdq (Nat.not_lt.mpr c)) ?_
  wp_walk
  exact⟨_,rfl,h⟩
section
variable{X:Cx}{a b:Expr}{pos:Pos}
def Ej(K:PySem.W.Frag):R2:=λx y H Q=>∃a k c,x=.ref a/\y=.int k/\fK K H a c/\c≠[]/\2<=k/\k<2^63/\c.length*k.toNat<=sizeLine/\∀p,H p=none->Q (.ref p) (upd H p (.tup (List.replicate k.toNat c).flatten))
def DN:iH X (binaryOp .Mult) (Ej X.K):=by
 intro m s R H x y v u Q I J N h
 obtain⟨l,k,C,rfl,rfl,ha,hx,h1,h2,hz,q⟩:=h
 cases J
 obtain⟨t,rfl⟩:=N
 obtain⟨c,f,A,_⟩:=I.tuple ha
 obtain⟨⟨M,p,j,w⟩,e,i,n,r⟩:=id A
 simp only at i r
 subst i r
 have g:c.toArray.size*k.toNat<=sizeLine:=by rw[Qjq,←f.length];exact hz
 have d:List.foldl (λG B=>G++B) #[] (List.replicate k.toNat c.toArray)=(List.replicate k.toNat c).flatten.toArray:=by
  have:=foldl_rep c k.toNat []
  rw[List.nil_append] at this
  exact this
 refine wpAny_binaryOp_repeat_ref (T:="tuple") (U:="int") (by decide) ⟨_,e,rfl⟩ (λL=>typeIs_int L k t) gW F.fills_int_mul F.slot_int_rmul lN F.slot_int_index.lookup
  (call_meets F.slot_int_rmul (typeIs_int s k t) F.entry_int_rmul (F.args_int_rmul_2 _ _) (pV k t l c.toArray n p w)
   ⟨e,rfl,⟨_,e,rfl⟩,call_meets F.slot_tuple_mul ⟨_,e,rfl⟩ F.entry_tuple_mul (F.args_tuple_mul_2 _ _) (zK l c.toArray n p w k t h1 h2 (λz=>hx (f.nil_iff.mp (by simpa using z))) g) ⟨e,?_⟩⟩)
 rw[d]
 refine⟨.ref s.heap.objs.size,_,I.laid (t':=s.toks) (o:=.tup (List.replicate k.toNat C).flatten) (λb P q=>Qcq _ q) (Qmq _) ?_,rfl,q _ (I.hok.fresh (Qmq _))⟩
 exact⟨by rw[len_rep,Nat.mul_comm];exact hz,_,f.rep k.toNat,qM.new _ _⟩
end
def w4(l:Addr)(items:Array Value)(n:Nat)(c:Option Addr)(e:Array (Option Value))(u:Tok):
  Meets (Builtin.«tuple.__mul__» ⟨[.ref l,.int 1 u],[]⟩) (λ_ R s=>s.heap.get? l=some {cls:=.type "tuple",dict:=c,data:=.seq items n,slots:=e}/\R (.ok (.ret (Value.ref l))) s):=
 .of_wp λa w A R s h=>by
  obtain⟨i,g,d,o,f⟩:=s;obtain⟨b,h⟩:=h
  have k:=AutoSeq1.idx_int
  have j:¬(decide ((1:Int)< -2^63)||decide ((1:Int)>=2^63))=true:=by decide
  have m:(items.isEmpty||(1:Int)==1)=true:=by simp
  wp_walk using wpAny_loadPart' b
  exact⟨_,rfl,h⟩
def xF(l:Addr)(items:Array Value)(n:Nat)(e:Option Addr)(f:Array (Option Value))(u:Tok)(a:¬items.isEmpty=true):
  Meets (Builtin.«tuple.__mul__» ⟨[.ref l,.int 0 u],[]⟩) (λ_ R s=>s.heap.get? l=some {cls:=.type "tuple",dict:=e,data:=.seq items n,slots:=f}/\R (.ok (.ret (Value.ref s.heap.objs.size))) {s with heap:=s.heap.push {cls:=Value.type "tuple",data:=Data.seq #[]},toks:=s.toks}):=
 .of_wp λb w A R s h=>by
  obtain⟨j,g,d,p,i⟩:=s;obtain⟨c,h⟩:=h
  have m:=AutoSeq1.idx_int
  have k:¬(decide ((0:Int)< -2^63)||decide ((0:Int)>=2^63))=true:=by decide
  have o:¬(items.isEmpty||(0:Int)==1)=true:=by simpa using a
  have q:(decide ((0:Int)<=0)||items.isEmpty)=true:=by simp
  wp_walk using wpAny_loadPart' c
  exact⟨_,rfl,h⟩
section
variable{X:Cx}{a b:Expr}{pos:Pos}
def DZ(K:PySem.W.Frag):R2:=λx y H Q=>∃a k c,x=.ref a/\y=.int k/\fK K H a c/\c≠[]/\((k=1/\Q (.ref a) H)\/(k=0/\∀p,H p=none->Q (.ref p) (upd H p (.tup []))))
def CB:iH X (binaryOp .Mult) (DZ X.K):=by
 intro m s M H x y v u Q I A G h
 obtain⟨l,k,L,rfl,rfl,ha,hx,h⟩:=h
 cases A
 obtain⟨t,rfl⟩:=G
 obtain⟨c,r,w,_⟩:=I.tuple ha
 obtain⟨⟨C,f,j,g⟩,d,i,n,p⟩:=id w
 simp only at i p
 subst i p
 have e:¬c.toArray.isEmpty=true:=λz=>hx (r.nil_iff.mp (by simpa using z))
 refine wpAny_binaryOp_repeat_ref (T:="tuple") (U:="int") (by decide) ⟨_,d,rfl⟩ (λB=>typeIs_int B k t) gW F.fills_int_mul F.slot_int_rmul lN F.slot_int_index.lookup
  (call_meets F.slot_int_rmul (typeIs_int s k t) F.entry_int_rmul (F.args_int_rmul_2 _ _) (pV k t l c.toArray n f g) ⟨d,rfl,⟨_,d,rfl⟩,?_⟩)
 rcases h with⟨rfl,q⟩|⟨rfl,q⟩
 ·exact call_meets F.slot_tuple_mul ⟨_,d,rfl⟩ F.entry_tuple_mul (F.args_tuple_mul_2 _ _) (w4 l c.toArray n f g t) ⟨d,.ref l,H,I,rfl,q⟩
 ·refine call_meets F.slot_tuple_mul ⟨_,d,rfl⟩ F.entry_tuple_mul (F.args_tuple_mul_2 _ _) (xF l c.toArray n f g t e) ⟨d,?_⟩
  refine⟨.ref s.heap.objs.size,_,I.laid (t':=s.toks) (o:=.tup []) (λb J q=>Qcq _ q) (Qmq _) ?_,rfl,q _ (I.hok.fresh (Qmq _))⟩
  exact⟨Nat.zero_le _,_,.nil,qM.new _ _⟩
def sU:pD:=λ_ x y=>match x,y with
 |.tup i,.int k=>if 0<=k/\k<2^63/\i≠[]/\i.length*k.toNat<=sizeLine then some (.tup (List.replicate k.toNat i).flatten) else none
 |_,_=>none
def C4{M:Md}:iS M (λx y H Q=>Ej M.K x y H Q\/DZ M.K x y H Q) sU:=by
 intro o S H x y d u v Q i l n e q
 cases l with
 | tup j g=>
   cases n with
   | int k=>
     simp only[sU] at e
     split at e <;>cases e
     rename_i h
     have f:=λz=>h.2.2.1 (List.length_eq_zero_iff.mp (g.length.trans (List.length_eq_zero_iff.mpr z)))
     by_cases m:2<=k
     · exact .inl ⟨_,k,_,rfl,rfl,fK.of j,f,m,h.2.1,by rw[←g.length];exact h.2.2.2,λp c=>q _ _ (bx.laid c) (i.lay c) (.tup aR ((g.rep _).ext (bx.laid c)))⟩
     · refine .inr ⟨_,k,_,rfl,rfl,fK.of j,f,?_⟩
       rcases(by omega:k=1\/k=0) with rfl|rfl
       · refine .inl ⟨rfl,q _ _ bx.refl i ?_⟩
         rw[show(List.replicate (1:Int).toNat _).flatten=_ from List.append_nil _]
         exact .tup j g
       · exact .inr ⟨rfl,λp c=>q _ _ (bx.laid c) (i.lay c) (.tup aR .nil)⟩
   |_=>simp only[sU,reduceCtorEq] at e
 |_=>simp only[sU,reduceCtorEq] at e
def Jv{f g:aW}(c:PE X a (tD (md X) f))(d:PE X b (tD (md X) g)):PE X (.BinOp a .Mult b pos) (tD (md X) (bj sU f g)):=kQ C4 (ni (DN.or CB) c d)
end
end DL
namespace L2
open PySem PySem.Spec PyProof.Rows
end L2
namespace DL
open PySem PySem.Spec L2
end DL
namespace L2
open PySem PySem.Spec PyProof.Rows
def Hb(a:Addr)(ob:Obj)(kvs:List (Key×V)):It:=⟨λi H=>H a=some (.frz ob (.dK kvs))/\i<kvs.length,λi H v b=>b=H/\∃k x,kvs[i]?=some (k,x)/\v=kV k,λi H=>H a=some (.frz ob (.dK kvs))/\i=kvs.length⟩
def DH{P:Program}{w:World}{k:Key}{u:Value}(h:(bg P w).is k u=true):RelV (kV k) u:=by
 rw[w_] at h
 cases k with
 | inl i=>
   cases u <;>simp[iU,Value.isInt] at h
   subst h
   exact⟨_,rfl⟩
 | inr x=>
   cases u <;>simp[iU,Value.isStrOf] at h
   subst h
   exact⟨_,rfl⟩
theorem rP{α c:Type}{F:α->c->Prop}:∀{l:List α} {m:List c} {i:Nat} {a:α},Paired F l m->l[i]?=some a->∃b,m[i]?=some b/\F a b
 |_,_,0,_,.cons h _,e=>by cases e;exact⟨_,rfl,h⟩
 |_,_,i+1,_,.cons _ t,e=>by simpa using rP (i:=i) t (by simpa using e)
 |_,_,_,_,.nil,e=>by simp at e
def zh{P:Program}{w:World}{K:PySem.W.Frag}{tg:Expr}{a it:Addr}{ob:Obj}{kvs:List (Key×V)}{ep:Nat}(q:∃u,ob.data=.dict u ep):Turn P w K tg (Hb a ob kvs) [it] it (λi h=>h.IsKeyIter it a i kvs.length ep) where
 mem:=by simp
 obj:=λi h g b n=>by
  have e:b=it:=by simpa using n
  subst e
  obtain⟨o,e,c,d⟩:=g
  exact⟨o,e,λv z=>by rw[d] at z;cases z⟩
 keep:=λi h J g k=>g.at λo e=>k it (by simp) o e
 item:=by
  intro X L M hK hc i l s σ H E I F g N
  subst L M hK
  obtain⟨hz,S⟩:=N
  obtain⟨f,y,C,U,G,o,u,a1,t,hx,B,hr⟩:=(show bL X.prog X.w H s.heap a (.frz ob (.dK kvs)) from I.hok a _ hz)
  rw[f] at t
  cases t
  obtain⟨a2,j⟩:=q
  rw[j] at B
  cases B
  have r:kvs.length=U.length:=KV.length G
  obtain⟨f0,f1,f2,Q,Y,f5⟩:=F it (by simp)
  obtain⟨⟨k,x⟩,hk⟩:∃p,kvs[i]?=some p:=⟨_,gQe S⟩
  obtain⟨⟨k',x'⟩,Z,e1,_⟩:=rP G hk
  cases e1
  rw[r] at g
  refine wpAny_pyNext_dict_item g ⟨ob,u,f,hx,j,hr⟩ Z λR J A m sb=> ?_
  have I1:Inv X l σ H {s with heap:=J}:=I.turned (t':=s.toks) (λb o n e=>(sb.2 b n).trans e) f0 f1 Q Y f5
  obtain⟨o,e,c,d⟩:=id m
  rw[←r] at m
  exact⟨R,rfl,xT (s:={s with heap:=J}) e c d (by decide) ⟨kV k,H,I1,DH A,⟨rfl,k,x,hk,rfl⟩,m,λb n=>(F b n).1⟩⟩
 done:=by
  intro X L M hK hc i l s σ H E I F g N
  subst L M hK
  obtain⟨hz,S⟩:=N
  obtain⟨f,y,C,U,G,o,u,a1,t,hx,B,hr⟩:=(show bL X.prog X.w H s.heap a (.frz ob (.dK kvs)) from I.hok a _ hz)
  rw[f] at t
  cases t
  obtain⟨a2,j⟩:=q
  rw[j] at B
  cases B
  have r:kvs.length=U.length:=KV.length G
  obtain⟨f0,f1,f2,Q,Y,f5⟩:=F it (by simp)
  rw[r] at g
  exact wpAny_pyNext_dict_end (I.ok.hd hc) g ⟨ob,u,f,hx,j,hr⟩ (by rw[S,r];simp) λJ eb=>⟨rfl,I.turned (t':=s.toks) (λb o n e=>eb b o n e) f0 f1 Q Y f5⟩
 self:=λ_ _ _ _ _ g h=>wpAny_pyIter_keyiter g h
def HZ(d:TE):TI:=λe H R=>d e H λx H1=>∃a b,x=.ref a/\((H1 a=some (.dK b)/\∀c,R (Hb a c b) (upd H1 a (.frz c (.dK b))))\/∃c,H1 a=some (.frz c (.dK b))/\R (Hb a c b) H1)
def CL{X:Cx}{L l:Expr}{G:TE}(N:PE X l G):PI X L l (HZ G):=by
 intro d s z H R I h
 refine cg (N d s z H _ I h) λv g P=> ?_
 obtain⟨x,H1,y,Q,a,c,e,q⟩:=P
 subst e
 cases Q
 have J:∀{H2:Hp} {ob:Obj},Inv X d z H2 g->H2 a=some (.frz ob (.dK c))->R (Hb a ob c) H2->wpAny (model X.prog X.w) X.A (pyIter (.ref a)) (JH X d z L R) X.xe g:=by
  intro H2 ob k F n
  obtain⟨j,i,f,t,B,o,p,ep,m,S,K,C⟩:=(show bL X.prog X.w H2 g.heap a (.frz ob (.dK c)) from k.hok a _ F)
  rw[j] at m
  cases m
  have r:c.length=t.length:=KV.length B
  refine wpAny_pyIter_dict f ⟨ob,p,j,S,K,C⟩ ?_
  refine⟨g.heap.objs.size,[g.heap.objs.size],_,_,H2,rfl,k.kept (t':=g.toks) λb o e=>Qcq _ e,zh (ep:=ep) ⟨p,K⟩,⟨_,Qrq _ rfl,rfl,by rw[r];rfl⟩,λb U=> ?_,n⟩
  have e:b=g.heap.objs.size:=by simpa using U
  subst e
  exact k.fpOk (Qmq _) (k.hok.fresh (Qmq _))
 rcases q with⟨M,n⟩|⟨ob,F,n⟩
 ·obtain⟨i,f,t,B,o,p,ep,m,C⟩:=(show bL X.prog X.w H1 g.heap a (.dK c) from y.hok a _ M)
  have k:=y.write (x:=a) (e:=a) (o:=.frz o (.dK c)) (h':=g.heap) (t':=g.toks) (by rw[M];trivial) (.inl rfl) (λb u _ e=>e) ⟨o,m⟩ ⟨m,i,f,t,B,o,p,ep,m,C⟩
  exact J (ob:=o) k aR (n o)
 ·exact J y F n
end L2
namespace DL
open PySem PySem.Spec PyProof.Rows L2
def kD:Key->D
 |.inl i=>.int i
 |.inr x=>.str x
def Fq{M:Md}{ρ:List Addr}{H:Hp}(k:Key):Rel M ρ H (kD k) (kV k):=by
 cases k with
 |inl i=>exact .int i
 |inr x=>exact .str x
theorem bu.at:∀{M:Md} {ρ:List Addr} {H:Hp} {l:List (Key×D)} {kv:List (Key×V)} {i:Nat} {k:Key} {d:D},bu M ρ H l kv->l[i]?=some (k,d)->∃x,kv[i]?=some (k,x)
 |_,_,_,[],_,_,_,_,_,e=>by simp at e
 |_,_,_,(k',d')::l,_,0,k,d,⟨v,t,rfl,_,_⟩,e=>by cases e;exact⟨v,rfl⟩
 | _,_,_,(k',d')::l,_,i+1,k,d,⟨v,t,rfl,_,h⟩,e=>by
   obtain⟨x,a⟩:=bu.at (i:=i) h (by simpa using e)
   exact⟨x,by simpa using a⟩
section
variable{X:Cx}{a b e:Expr}{pos:Pos}
def IG(f:aW):rN:=λg S=>(f g S).bind λ(x,d)=>match x with
 | .ref k=>match d[k]? with
   |some (.dct l)=>some ((l.map (λp=>kD p.1),λc=>c[k]?=some (.fdc l)),d.set k (.fdc l))
   |some (.fdc l)=>some ((l.map (λp=>kD p.1),λc=>c[k]?=some (.fdc l)),d)
   |_=>none
 |_=>none
def Jl{tg l:Expr}{f:aW}(hl:PE X l (tD (md X) f)):PI X tg l (tI (md X) (IG f)):=G7 (CL hl) λσ H R qq=>by
 obtain⟨ρ,Z,S,ds,W,Q,ok,e,q⟩:=qq
 obtain⟨⟨x,S1⟩,U,e⟩:=aq e
 have t:∀{s:List Addr} {H2:Hp} {k:Nat} {a:Addr} {m:Obj} {j:List (Key×V)} {l:List (Key×D)},s[k]?=some a->H2 a=some (.frz m (.dK j))->bu (md X) s H2 l j->Walks (md X) (Hb a m j) s H2 (l.map λp=>kD p.1) (λQ=>Q[k]?=some (.fdc l)):=by
  intro s H2 k a m j l hk hz hr i a1 S3 H3 x3 N w3
  have A:H3 a=some (.frz m (.dK j)):=x3.keep a _ hz (.inr trivial)
  have C:=hr.length
  refine⟨λd hd=> ?_,λhi=>⟨A,by rw[hi,lQm,C]⟩⟩
  rw[gQm] at hd
  obtain⟨⟨ky,dv⟩,hp,rfl⟩:=oQm.mp hd
  obtain⟨v,hv⟩:=hr.at hp
  refine⟨⟨A,(gQs.mp hv).1⟩,λy H4 hy=> ?_⟩
  obtain⟨rfl,ky',v',hv',rfl⟩:=hy
  rw[hv] at hv'
  cases hv'
  exact⟨bx.refl,N,Fq ky⟩
 cases x with
 | ref k=>
   dsimp only at e
   split at e
   · rename_i l G
     obtain⟨J,rfl⟩:=bG e
     obtain⟨rfl,rfl⟩:=Prod.mk.inj J
     refine⟨ρ,Z,S,_,S1,ok,U,λg v1 H1 M o K=> ?_⟩
     cases K with
     | ref w=>
       rename_i a
       obtain⟨j,B,P⟩:=o.obj k a _ w G
       refine⟨a,j,rfl,.inl ⟨B,λm=> ?_⟩⟩
       have ne:∀x,H1 a=some x->¬I0 x:=λx F=>by rw[B] at F;cases F;exact λz=>z
       have Y:bx g H1 g (upd H1 a (.frz m (.dK j))):=by
         have ma:a∈g:=mQg w
         refine⟨List.prefix_refl _,λ_ h=>.inl h,λb x F c=> ?_,λb I=> ?_⟩
         · rw[aM]
           · exact F
           · intro z
             subst z
             exact c.elim (λn=>n ma) λim=>ne _ F im
         · by_cases z:b=a
           · subst z;rw[aR] at I;cases I
           · rw[aM z] at I;exact I
       have h3:bu (md X) g (upd H1 a (.frz m (.dK j))) l j:=P.imp λ_ _ r=>r.ext Y
       obtain⟨L,_⟩:=o.put (o':=.fdc l) (u:=.frz m (.dK j)) w G ⟨j,m,aR,h3⟩ ne
       exact q g _ _ (M.trans Y) L (t w aR h3)
   · rename_i l G
     obtain⟨J,rfl⟩:=bG e
     obtain⟨rfl,rfl⟩:=Prod.mk.inj J
     refine⟨ρ,Z,S,_,S1,ok,U,λg v1 H1 M o K=> ?_⟩
     cases K with
     | ref w=>
       rename_i a
       obtain⟨j,m,B,P⟩:=o.obj k a _ w G
       exact⟨a,j,rfl,.inr ⟨m,B,q g _ _ M o (t w B P)⟩⟩
   · cases e
 |_=>cases e
def II(f g:aW):aW:=λi S=>(f i S).bind λ(x,j)=>(g i j).bind λ(y,h)=>match x with
 | .ref k=>match h[k]? with
   |some (.dct l)=>(k9 y).bind λc=>(jj l c).bind λd=>some (d,h)
   |some (.fdc l)=>(k9 y).bind λc=>(jj l c).bind λd=>some (d,h)
   |_=>none
 |_=>none
def IA{f g:aW}(Z:X.A.units+1<cLine)(m:PE X a (tD (md X) f))(hb:PE X b (tD (md X) g))(n:AD b):PE X (.Subscript a b pos) (tD (md X) (II f g)):=jf (xZ Z m hb n) λσ H Q P=>by
 obtain⟨L,r,S,d,S',ok,e,q⟩:=P
 obtain⟨⟨x,s⟩,K,e⟩:=aq e
 obtain⟨⟨y,J⟩,I,e⟩:=aq e
 cases x with
 | ref k=>
   dsimp only at e
   split at e
   · rename_i l n
     obtain⟨N,C,e⟩:=aq e
     obtain⟨R,t,e⟩:=aq e
     obtain⟨rfl,rfl⟩:=bG e
     refine⟨L,r,S,_,s,ok,K,λj W H1 p i h=>⟨j,r,s,y,J,ok.to p i,I,λw Y H2 o c F=> ?_⟩⟩
     cases jF F C
     have h:=h.ext o
     cases h with
     | ref m=>
       obtain⟨M,u,G⟩:=c.obj k _ _ m n
       obtain⟨v,z,B⟩:=G.val t
       exact⟨_,v,rfl,by rw[←z];exact xj.k u,q _ _ _ (p.trans o) c B⟩
   · rename_i l n
     obtain⟨N,C,e⟩:=aq e
     obtain⟨R,t,e⟩:=aq e
     obtain⟨rfl,rfl⟩:=bG e
     refine⟨L,r,S,_,s,ok,K,λj W H1 p i h=>⟨j,r,s,y,J,ok.to p i,I,λw Y H2 o c F=> ?_⟩⟩
     cases jF F C
     have h:=h.ext o
     cases h with
     | ref m=>
       obtain⟨M,U,u,G⟩:=c.obj k _ _ m n
       obtain⟨v,z,B⟩:=G.val t
       exact⟨_,v,rfl,by rw[←z];exact .inl ⟨M,N,.inr ⟨U,u⟩,rfl,rfl⟩,q _ _ _ (p.trans o) c B⟩
   · cases e
 |_=>cases e
end
end DL
namespace DL
open PySem PySem.Spec L2
end DL
namespace L2
open PySem PySem.Spec
end L2
namespace DL
open PySem PySem.Spec L2
end DL
namespace L2
open PySem PySem.Spec PyProof.Rows
end L2
namespace DL
open PySem PySem.Spec L2
end DL
namespace W28
open PySem PySem.Spec L2 DL
abbrev cT:=bj sG
abbrev df(v:Nat)(k:Int):=bj sG (av v) (cF (.int k))
abbrev gn(v:Nat)(k:Int):=ax (bj sG (av v) (cF (.int k)))
abbrev nL(x:Str):=ax (cF (.str x))
abbrev bM(k:Int):=cF (.int k)
abbrev aB(k:Nat):=ax (av k)
abbrev rZ(k:Int):=ax (cF (.int k))
def lZ:cG:=
 (aD (bq 2 (bM 0))
 (aD (gk (aO (bj Jh (av 1) (iZ (bF (av 0))))) (bq 2 (Ae C2 (ax (cT (av 0) (av 1)) aw))) gD)
 (aD (bq 3 (bj kB (bj oh (av 2) (bj kB (bj ur (bM 10) (bM 60)) (bj ur (bM 10) (bM 60)))) (Ae intOfD (ax (bj Jp (av 2) (bj ur (bM 10) (bM 18))) aw))))
 (D3 (gg (aB 3 (ax (bj oh (bj bX (bj bX (av 2) (bj kB (bM 104729) (av 1))) (bM 7)) (bM 2305843009213693951)) (rZ 0 aw))))))))
def jM:cY:=eE 4 lZ
def kc:cG:=
 (aD (gk (aO (bj HH (df 0 0) (bM 0))) (aD (bq 2 (bj oh (df 0 0) (av 1)))
 (aD (oI (bj u3 (df 0 0) (av 1)) (Gh (av 0) (bM 0)))
 (cc (av 2)))) gD)
 (aD (Ii (av 0) (bM 2) (bM 1))
 (aD (bq 3 (bj oh (bj bX (bj bX (bj kB (df 0 1) (bM 69069)) (bj kB (bM 9973) (df 0 2))) (bM 5)) (bM 2305843009213693921)))
 (aD (oI (bj oh (bj kB (av 3) (bj bX (bj bX (bj oh (av 3) (bM 999983)) (bj kB (bM 2) (df 0 2))) (bM 3))) (bM 2305843009213693907)) (Gh (av 0) (bM 1)))
 (cc (bj oh (bj u3 (df 0 1) (bM 65537)) (av 1)))))))
def bA:cY:=eE 4 kc
def km:cG:=
 (cc (cT (av 1) (az bA (aB 0 (ax (iZ (bF (av 1))) aw)))))
def ij:cY:=eE 2 km
def i6:cG:=
 (aD (bq 2 (kM (Gi (kN (Gi (kN (gg (nL "a" (nL "bb" (nL "c" (nL "d" (nL "e" aw))))))) (lV (az bA (aB 0 (rZ 3 aw)))) nP)) nP (lV (bj bX (bM 1) (az bA (aB 0 (rZ 3 aw))))))))
 (aD (bq 3 (bj bX (bM 1) (az bA (aB 0 (rZ 4 aw)))))
 (aD (bq 4 (aV (nL "x" (ax (tupQ (kN (dm [none,some 0] (wY (av 3)) (bK 0) dS (aV (nL "tell" (ax (az bA (aB 1 (rZ 10 aw))) aw)))))) aw))))
 (aD (bq 5 (kM (gg aw)))
 (aD (kG (qF (bF (av 2))) (bK 6) (aD (bq 7 (cT (kM (gg (nL "at once" (nL "when free" aw)))) (az bA (aB 0 (rZ 2 aw)))))
 (Cq (Cr vk (av 5) (ax (aV (aB 6 (aB 7 (ax (aV aw) (ax (bj sU (aV (ax (aV (nL "bell" (nL "row" aw))) aw)) (az bA (aB 0 (rZ 2 aw)))) (ax (aV (aB 4 aw)) aw)))))) aw)))))
 (aD (bq 6 (az ij (aB 0 (aB 2 aw))))
 (aD (bq 8 (aV (ax (aV (nL "do" (ax (cF .non) (aB 6 (nL "x" (rZ 3 aw)))))) (ax (aV (nL "say" (rZ 1 aw))) aw))))
 (cc (aV (ax (aV (ax (tupQ (lB (bF (av 5)))) (ax (aV aw) (ax (aV aw) (ax (bj sU (aV (ax (aV (ax (aV aw) (aB 8 aw))) aw)) (av 1)) aw))))) (aB 6 (aB 3 aw))))))))))))
def gr:cY:=eE 9 i6
def ka:cG:=
 (cc (tupQ (kN (dm [none,none] (qF (bF (av 0))) (iP (nG 2 (aE (bK 0) (aE (bK 1) c7)))) dS (av 1)))))
def eR:cY:=eE 1 ka
def jt:cG:=
 (aD (oI (av 0) (iP (nG 5 (aE (bK 1) (aE (bK 2) (aE (bK 3) (aE (bK 4) (aE (bK 5) c7))))))))
 (cc (aV (ax (az eR (aB 3 aw)) (ax (cF (.int (-1))) (ax (aV aw) (ax (aV aw) (ax (tupQ (kN (dm [none] (qF (bF (av 4))) (bK 0) dS (aV aw)))) aw))))))))
def gq:cY:=eE 6 jt
def xh:cG:=
 (aD (oI (av 0) (iP (nG 4 (aE (bK 1) (aE (bK 2) (aE (bK 3) (aE (bK 4) c7)))))))
 (aD (bq 5 (aV (ax (cF (.int (-1))) (ax (cF (.int (-1))) (rZ 0 (rZ 0 (rZ 0 aw)))))))
 (cc (aV (ax (tupQ (kN (dm [none] (qF (bF (av 1))) (bK 0) dS (az gq (aB 0 aw))))) (ax (tupQ (kN (dm [none,none] (qF (bF (av 2))) (iP (nG 2 (aE (bK 0) (aE (bK 1) c7)))) dS (aV (aB 1 (ax (aV aw) aw)))))) (ax (az eR (aB 3 aw)) (ax (tupQ (kN (dm [none,none,some 5] (qF (bF (av 4))) (iP (nG 2 (aE (bK 0) (aE (bK 1) c7)))) dS (aV (ax (az eR (aB 0 aw)) (ax (aV (aB 2 aw)) aw)))))) aw))))))))
def tN:cY:=eE 6 xh
def gd(self:cY):cG:=
 (aD (gk (i_ (l_ "tuple" (av 1))) (aD (gk (FZ (uc (i_ (l_ "tuple" (av 0)))) (aO (bj (gL true) (iZ (bF (av 0))) (iZ (bF (av 1)))))) (cc (cF (.bl false))) gD)
 (cc (Ck (kN (dm [none,none] (vd (bF (av 0)) (bF (av 1))) (iP (nG 2 (aE (bK 0) (aE (bK 1) c7)))) dS (az self (aB 0 (aB 1 aw)))))))) gD)
 (aD (gk (FZ (i_ (l_ "str" (av 1))) (aO (bj (vy false) (av 1) (cF .non)))) (cc (uR (bj (gL false) (l_ "str" (av 0)) (l_ "str" (av 1))) (bj (gL false) (av 0) (av 1)))) gD)
 (cc (uR (l_ "int" (av 0)) (uR (C7 (l_ "bool" (av 0))) (bj (gL false) (av 0) (av 1)))))))
def eQ:Nat->cY
 |0=>λ_ _=>none
 |n+1=>eE 2 (gd (eQ n))
def mH:cG:=
 (D3 (dm [none,none] (qF (bF (av 0))) (iP (nG 2 (aE (bK 0) (aE (bK 1) c7)))) dS (av 1)))
def gR:cY:=eE 1 mH
def fe:cG:=
 (aD (kG (vd (bF (df 0 1)) (bF (df 1 1))) (iP (nG 2 (aE (iP (nG 2 (aE (bK 3) (aE (bK 4) c7)))) (aE (iP (nG 2 (aE (bK 5) (aE (bK 6) c7)))) c7)))) (gk (aO (Ad false (av 2) (bF (av 6)))) (cc (aV (nL "pass" (aB 3 aw)))) gD))
 (aD (kG (vd (bF (df 0 0)) (bF (df 1 0))) (iP (nG 2 (aE (bK 7) (aE (bK 8) c7)))) (aD (gk (aO (Ad false (av 2) (bF (df 8 2)))) (cc (aV (nL "row" (gn 7 0 aw)))) gD)
 (aD (gk (aO (Ad false (av 2) (bF (df 8 3)))) (cc (aV (nL "late" (gn 7 0 aw)))) gD)
 (kG (vd (bF (df 7 3)) (bF (df 8 4))) (iP (nG 2 (aE (iP (nG 2 (aE (bK 9) (aE (bK 10) c7)))) (aE (bK 11) c7)))) (gk (aO (Ad false (av 2) (kN (eG gR (aB 11 aw))))) (cc (aV (nL "bell" (gn 7 0 (aB 9 aw))))) gD)))))
 (cc (cF .non))))
def dE:cY:=eE 12 fe
def jy:cG:=
 (cc (cT (cT (cT (df 0 3) (av 1)) (bM 1)) (p_ (bM 1))))
def bJ:cY:=eE 2 jy
def ng:cG:=
 (aD (wu 3 4 (gn 2 0 (gn 2 1 aw)))
 (aD (gk (aO (bj (gL false) (av 3) (cF (.int (-1))))) (cc (cT (cT (df 0 3) (av 1)) (bM 1))) gD)
 (cc (cT (cT (cT (cT (df 0 0) (av 3)) (bM 4)) (av 4)) (bM 1)))))
def dg:cY:=eE 5 ng
def su:cG:=
 (aD (bq 3 (az dE (aB 0 (aB 1 (aB 2 aw)))))
 (aD (gk (aO (bj (vy true) (av 3) (cF .non))) (cc (av 3)) gD)
 (aD (bq 4 (az bJ (aB 1 (aB 2 aw))))
 (aD (bq 5 (df 4 0))
 (aD (gk (aO (bj (gL false) (av 5) (cF (.int (-1))))) (cc (pN (aO (bj (gL false) (df 4 2) (iZ (bF (az dg (aB 0 (aB 2 (aB 4 aw)))))))) (aV (nL "done" aw)) (aV (nL "out" aw)))) gD)
 (aD (bq 6 (cT (cT (df 0 0) (av 5)) (bM 0)))
 (cc (pN (aO (bj (gL false) (cT (cT (df 1 0) (av 5)) (bM 1)) (av 2))) (aV (nL "within" (aB 6 aw))) (aV (nL "called" (aB 6 aw)))))))))))
def kX:cY:=eE 7 su
def jk:cG:=
 (aD (oI (av 3) (iP (nG 3 (aE (bK 4) (aE (bK 5) (aE (bK 6) c7))))))
 (aD (bq 7 Ie)
 (aD (kG (qF (kN (AK (bF (av 4)) (bF (av 6))))) (bK 8) (El (av 7) (av 8) (aV (nL "out" aw))))
 (aD (kG (yF (bF (av 5))) (iP (nG 2 (aE (bK 9) (aE (bK 8) c7)))) (El (av 7) (av 8) (aV (ax (cT (kM (gg (nL "within" (nL "row" aw)))) (Ae intOfD (ax (bj HH (av 9) (bM 0)) aw))) (aB 2 aw)))))
 (aD (bq 10 (zm (kN (dm [none] (qF (bF (df 0 0))) (bK 0) dS (df 0 0))) (av 2)))
 (aD (gk (aO (bj (BW true) (oq (cT (df 1 0) (av 10)) (lV (bM 1)) (lV (bM 3))) (aV (ax (cT (kM (AK (bF (av 5)) (kN (gg (ax (p_ (bM 1)) aw))))) (bM 0)) (ax (tupQ (kN (Gi (bF (av 5)) (lV (bM 1)) nP))) aw))))) (cc (cF (.bl false))) gD)
 (cc (Ck (kN (dm [none,some 0,some 1,some 7] (IG (av 7)) (bK 0) dS (az (eQ 10) (ax (az kX (aB 1 (aB 2 (aB 0 aw)))) (ax (II (av 3) (av 0)) aw)))))))))))))
def dW:cY:=eE 11 jk
def mV:cG:=
 (D3 (dm [none] (qF (bF (av 0))) (bK 0) dS (df 0 0)))
def cX:cY:=eE 1 mV
def mN:cG:=
 (cc (zm (kN (eG cX (aB 0 aw))) (av 1)))
def cf:cY:=eE 2 mN
def kj:cG:=
 (cc (bj bX (bj bX (oq (av 0) nP (lV (av 1))) (aV (aB 2 aw))) (oq (av 0) (lV (bj bX (av 1) (bM 1))) nP)))
def cB:cY:=eE 3 kj
def kg:cG:=
 (cc (bj bX (oq (av 0) nP (lV (bM 3))) (aV (ax (az cB (gn 0 3 (aB 1 (ax (aV (aB 2 (aB 3 aw))) aw)))) aw))))
def dN:cY:=eE 4 kg
def kn:cG:=
 (cc (bj bX (aV (ax (az cB (gn 0 0 (aB 1 (aB 2 aw)))) aw)) (oq (av 0) (lV (bM 1)) nP)))
def b9:cY:=eE 3 kn
def iy:cG:=
 (aD (bq 5 (cT (az bJ (aB 1 (aB 2 aw))) (bM 0)))
 (aD (gk (aO (bj (gL true) (av 5) (cF (.int (-1))))) (aD (bq 6 (az cf (ax (cT (cT (df 0 0) (av 5)) (bM 2)) (aB 3 aw))))
 (aD (bq 7 (az cB (ax (cT (cT (df 1 0) (av 5)) (bM 0)) (aB 6 (aB 4 aw)))))
 (cc (az b9 (aB 1 (aB 5 (ax (bj bX (aV (aB 7 aw)) (oq (cT (df 1 0) (av 5)) (lV (bM 1)) nP)) aw))))))) gD)
 (aD (gk (aO (Ad false (av 3) (kN (eG cX (gn 0 2 aw))))) (aD (bq 8 (az cB (gn 1 2 (ax (az cf (gn 0 2 (aB 3 aw))) (aB 4 aw)))))
 (cc (aV (gn 1 0 (gn 1 1 (aB 8 (gn 1 3 aw))))))) gD)
 (aD (oI (cT (df 1 3) (av 2)) (iP (nG 2 (aE (bK 7) (aE (bK 9) c7)))))
 (aD (bq 6 (az cf (ax (cT (cT (df 0 3) (av 2)) (bM 0)) (aB 3 aw))))
 (cc (az dN (aB 1 (aB 2 (ax (az cB (aB 7 (aB 6 (aB 4 aw)))) (aB 9 aw)))))))))))
def dF:cY:=eE 10 iy
def gI:cG:=
 (aD (gk (aO (bj (gL false) (av 0) (cF (.str "plus")))) (cc (Ae minD (ax (bj bX (av 1) (av 2)) (ax (cF (.int (9))) aw)))) gD)
 (aD (gk (aO (bj (gL false) (av 0) (cF (.str "minus")))) (cc (Ae maxD (ax (bj Du (av 1) (av 2)) (rZ 0 aw)))) gD)
 (aD (gk (aO (bj (gL false) (av 0) (cF (.str "less")))) (cc (pN (aO (bj Jh (av 1) (av 2))) (bM 1) (bM 0))) gD)
 (aD (gk (aO (bj (gL false) (av 0) (cF (.str "same")))) (cc (pN (aO (bj (gL false) (av 1) (av 2))) (bM 1) (bM 0))) gD)
 (cc (pN (vj (aO (bj (gL true) (av 1) (bM 0))) (aO (bj (gL true) (av 2) (bM 0)))) (bM 1) (bM 0)))))))
def eT:cY:=eE 3 gI
def mr(self:cY):cG:=
 (aD (gk (i_ (l_ "int" (av 0))) (cc (av 0)) gD)
 (aD (gk (i_ (l_ "str" (av 0))) (cc (GB (av 1) (av 0))) gD)
 (aD (gk (aO (bj (gL false) (df 0 0) (cF (.str "waits")))) (cc (pN (aO (bj HH (GB (av 2) (df 0 1)) (bM 0))) (bM 1) (bM 0))) gD)
 (aD (bq 3 (az self (gn 0 1 (aB 1 (aB 2 aw)))))
 (aD (gk (aO (bj (gL false) (df 0 0) (cF (.str "not")))) (cc (pN (aO (bj (gL false) (av 3) (bM 0))) (bM 1) (bM 0))) gD)
 (cc (az eT (gn 0 0 (aB 3 (ax (az self (gn 0 2 (aB 1 (aB 2 aw)))) aw))))))))))
def eM:Nat->cY
 |0=>λ_ _=>none
 |n+1=>eE 4 (mr (eM n))
def jD:cG:=
 (aD (bq 4 (az bJ (aB 1 (aB 2 aw))))
 (aD (bq 5 (df 4 0))
 (aD (gk (aO (bj (gL false) (av 5) (cF (.int (-1))))) (aD (bq 6 (Ge (kN (eG cX (gn 0 2 aw))) (bF (df 1 2))))
 (aD (Cq (CZ (av 6) (Ge (kN (eG cX (ax (cT (cT (df 0 3) (av 2)) (bM 0)) aw))) (bF (cT (cT (df 1 3) (av 2)) (bM 0))))))
 (cc (az (eM 6) (aB 3 (aB 6 (ax Ie aw))))))) gD)
 (aD (bq 6 (Ge (kN (eG cX (ax (cT (cT (df 0 0) (av 5)) (bM 2)) aw))) (bF (cT (cT (df 1 0) (av 5)) (bM 0)))))
 (aD (El (av 6) (cF (.str "given")) (df 4 3))
 (aD (Hv 7 (mQ [none,none] (vd (kN (eG cX (ax (cT (cT (df 0 0) (av 5)) (bM 3)) aw))) (bF (cT (cT (df 1 0) (av 5)) (bM 4)))) (iP (nG 2 (aE (bK 0) (aE (bK 1) c7)))) dS (av 0) (iZ (bF (av 1)))))
 (cc (az (eM 6) (aB 3 (aB 6 (aB 7 aw)))))))))))
def cK:cY:=eE 8 jD
def sQ:cG:=
 (cc (az dF (aB 0 (aB 1 (aB 2 (gn 3 1 (ax (az cK (aB 0 (aB 1 (aB 2 (gn 3 2 aw))))) aw)))))))
def oM:cY:=eE 4 sQ
def eN:cG:=
 (aD (oI (cT (df 0 3) (av 1)) (iP (nG 2 (aE (bK 3) (aE (bK 4) c7)))))
 (cc (az dN (aB 0 (aB 1 (aB 3 (ax (bj bX (oq (av 4) nP (lV (p_ (bM 1)))) (aV (aB 2 aw))) aw)))))))
def cJ:cY:=eE 5 eN
def tx:cG:=
 (aD (bq 3 (az bJ (aB 0 (aB 1 aw))))
 (cc (az cJ (aB 0 (aB 1 (ax (bj bX (bj bX (oq (av 3) nP (lV (bM 2))) (aV (aB 2 aw))) (oq (av 3) (lV (bM 3)) nP)) aw))))))
def ir:cY:=eE 4 tx
def kq:cG:=
 (aD (gk (aO (bj (gL false) (az cK (aB 0 (aB 1 (aB 2 (gn 3 1 aw))))) (bM 0))) (cc (az ir (aB 1 (aB 2 (gn 3 2 aw))))) gD)
 (cc (av 1)))
def il:cY:=eE 4 kq
def xM:cG:=
 (cc (az ir (aB 1 (aB 2 (gn 3 1 aw)))))
def ua:cY:=eE 4 xM
def oU:cG:=
 (aD (oI (cT (df 0 0) (av 1)) (iP (nG 5 (aE (bK 3) (aE (bK 4) (aE (bK 5) (aE (bK 6) (aE (bK 7) c7))))))))
 (aD (gk (aO (bj (gL false) (av 4) (cF (.int (-1))))) (cc (az b9 (aB 0 (aB 1 (ax (aV (aB 3 (aB 2 (aB 5 (aB 6 (aB 7 aw)))))) aw))))) gD)
 (cc (az b9 (aB 0 (aB 1 (ax (aV (aB 3 (aB 4 (ax (bj bX (av 5) (aV (aB 2 aw))) (aB 6 (aB 7 aw)))))) aw)))))))
def i8:cY:=eE 8 oU
def xv:cG:=
 (aD (bq 4 (az cf (gn 0 0 (gn 3 2 aw))))
 (aD (bq 5 (az cf (ax (cT (cT (df 0 0) (av 4)) (bM 4)) (gn 3 3 aw))))
 (aD (bq 6 (aV (aB 4 (aB 5 (rZ 0 (ax (az cK (aB 0 (aB 1 (aB 2 (gn 3 4 aw))))) (rZ 0 aw)))))))
 (aD (oI (cT (df 1 3) (av 2)) (iP (nG 2 (aE (bK 7) (aE (bK 8) c7)))))
 (cc (az i8 (ax (az dN (aB 1 (aB 2 (aB 7 (ax (bj bX (av 8) (aV (aB 6 aw))) aw))))) (aB 4 (aB 2 aw)))))))))
def t7:cY:=eE 9 xv
def oZ:cG:=
 (aD (bq 4 (cT (az bJ (aB 1 (aB 2 aw))) (bM 0)))
 (cc (aV (aB 4 (ax (az cf (ax (cT (cT (df 0 0) (av 4)) (bM 3)) (aB 3 aw))) aw)))))
def hU:cY:=eE 5 oZ
def kI:cG:=
 (aD (bq 4 (cT (df 0 0) (av 1)))
 (cc (az b9 (aB 0 (aB 1 (ax (bj bX (oq (av 4) nP (lV (bM 4))) (aV (ax (az cB (gn 4 4 (aB 2 (aB 3 aw)))) aw))) aw))))))
def dG:cY:=eE 5 kI
def w6:cG:=
 (aD (oI (cT (df 0 0) (av 1)) (iP (nG 5 (aE (bK 2) (aE (bK 3) (aE (bK 4) (aE (bK 5) (aE (bK 6) c7))))))))
 (aD (gk (i_ (av 5)) (cc (az b9 (aB 0 (aB 1 (ax (aV (aB 2 (gn 5 0 (aB 4 (ax (oq (av 5) (lV (bM 1)) nP) (aB 6 aw)))))) aw))))) gD)
 (aD (gk (i_ (av 4)) (cc (az b9 (aB 0 (aB 1 (ax (aV (aB 2 (gn 4 0 (ax (oq (av 4) (lV (bM 1)) nP) (aB 5 (aB 6 aw)))))) aw))))) gD)
 (cc (az b9 (aB 0 (aB 1 (ax (aV (aB 2 (ax (cF (.int (-1))) (aB 4 (aB 5 (aB 6 aw)))))) aw))))))))
def mC:cY:=eE 7 w6
def qB:cG:=
 (aD (oI (az hU (aB 0 (aB 1 (aB 2 (gn 3 1 aw))))) (iP (nG 2 (aE (bK 4) (aE (bK 5) c7)))))
 (aD (bq 6 (bM 0))
 (aD (gk (aO (bj (gL false) (cT (cT (cT (cT (df 0 0) (av 4)) (bM 3)) (av 5)) (bM 1)) (cF (.str "turns")))) (bq 6 (az cK (aB 0 (aB 1 (aB 2 (gn 3 2 aw)))))) gD)
 (aD (bq 7 (cT (cT (cT (df 1 0) (av 4)) (bM 4)) (av 5)))
 (aD (bq 8 (iZ (kN (dm [none,none,some 6] (qF (bF (av 7))) (iP (nG 2 (aE (bK 0) (aE (bK 1) c7)))) (aO (bj IT (av 0) (av 2))) (av 0)))))
 (aD (bq 9 (az dG (aB 1 (aB 4 (aB 5 (ax (bj bX (bj bX (oq (av 7) nP (lV (av 8))) (aV (ax (aV (aB 6 (aB 2 aw))) aw))) (oq (av 7) (lV (av 8)) nP)) aw))))))
 (cc (az mC (aB 9 (aB 4 aw))))))))))
def kZ:cY:=eE 10 qB
def p7:cG:=
 (aD (oI (az hU (aB 0 (aB 1 (aB 2 (gn 3 1 aw))))) (iP (nG 2 (aE (bK 4) (aE (bK 5) c7)))))
 (aD (bq 6 (cT (cT (cT (df 1 0) (av 4)) (bM 4)) (av 5)))
 (aD (gk (uc (i_ (av 6))) (cc (av 1)) gD)
 (aD (bq 7 (az dG (aB 1 (aB 4 (aB 5 (ax (oq (av 6) (lV (bM 1)) nP) aw))))))
 (aD (gk (aO (bj (gL false) (cT (cT (df 0 0) (av 4)) (bM 1)) (cF (.str "when free")))) (cc (av 7)) gD)
 (aD (oI (cT (df 7 0) (av 4)) (iP (nG 5 (aE (bK 8) (aE (bK 9) (aE (bK 10) (aE (bK 11) (aE (bK 12) c7))))))))
 (cc (az b9 (aB 7 (aB 4 (ax (aV (aB 8 (ax (cT (df 6 0) (bM 1)) (aB 10 (ax (bj bX (av 11) (aV (aB 2 aw))) (aB 12 aw)))))) aw)))))))))))
def k0:cY:=eE 13 p7
def sA:cG:=
 (aD (oI (az hU (aB 0 (aB 1 (aB 2 (gn 3 1 aw))))) (iP (nG 2 (aE (bK 4) (aE (bK 5) c7)))))
 (cc (az dG (aB 1 (aB 4 (aB 5 (ax (aV aw) aw)))))))
def oH:cY:=eE 6 sA
def oT:cG:=
 (aD (bq 4 (az cK (aB 0 (aB 1 (aB 2 (gn 3 1 aw))))))
 (cc (az cJ (aB 1 (aB 2 (ax (bj bX (oq (az bJ (aB 1 (aB 2 aw))) nP (lV (bM 4))) (aV (aB 4 aw))) aw))))))
def lj:cY:=eE 5 oT
def kF:cG:=
 (cc (bj bX (aV (gn 0 0 (ax (az cB (gn 0 1 (aB 1 (aB 2 aw)))) aw))) (oq (av 0) (lV (bM 2)) nP)))
def dP:cY:=eE 3 kF
def xg:cG:=
 (aD (bq 4 (az cf (gn 0 1 (aB 3 aw))))
 (aD (oI (cT (df 1 1) (av 4)) (iP (nG 2 (aE (bK 5) (aE (bK 6) c7)))))
 (aD (gk (aO (bj HH (av 5) (bM 0))) (cc (az dP (aB 1 (aB 4 (ax (aV (ax (bj Du (av 5) (bM 1)) (aB 6 aw))) aw))))) gD)
 (cc (az dP (aB 1 (aB 4 (ax (aV (aB 5 (ax (bj bX (av 6) (aV (aB 2 aw))) aw))) aw))))))))
def pS:cY:=eE 7 xg
def o_:cG:=
 (cc (az pS (aB 0 (aB 1 (aB 2 (gn 3 1 aw))))))
def lU:cY:=eE 4 o_
def jn:cG:=
 (aD (bq 3 (az cf (gn 0 1 (aB 2 aw))))
 (aD (oI (cT (df 1 1) (av 3)) (iP (nG 2 (aE (bK 4) (aE (bK 5) c7)))))
 (aD (gk (i_ (av 5)) (cc (az dP (aB 1 (aB 3 (ax (aV (aB 4 (ax (oq (av 5) (lV (bM 1)) nP) aw))) aw))))) gD)
 (cc (az dP (aB 1 (aB 3 (ax (aV (ax (Ae minD (ax (bj bX (av 4) (bM 1)) (ax (cF (.int (9))) aw))) (aB 5 aw))) aw))))))))
def eZ:cY:=eE 6 jn
def oS:cG:=
 (cc (az eZ (aB 0 (aB 1 (gn 3 1 aw)))))
def lP:cY:=eE 4 oS
def pU:cG:=
 (cc (az pS (aB 0 (ax (az eZ (aB 0 (aB 1 (gn 3 1 aw)))) (aB 2 (gn 3 2 aw))))))
def lK:cY:=eE 4 pU
def tM:cG:=
 (cc (av 1))
def oD:cY:=eE 4 tM
def jH:List (Str×Str):= [("put","by_put"),("unless","by_unless"),("go","by_go"),("do","by_do"),("wait","by_wait"),("call","by_call"),("all","by_all"),("tell","by_tell"),("take","by_take"),("give","by_give"),("pass","by_pass"),("say","by_say")]
def qm:List (Str×cY):= [("by_put",oM),("by_unless",il),("by_go",ua),("by_do",t7),("by_wait",kZ),("by_call",k0),("by_all",oH),("by_tell",lj),("by_take",lU),("by_give",lP),("by_pass",lK),("by_say",oD)]
def rD:cG:=
 (aD (bq 4 (Iw jH (df 3 0)))
 (cc (qw 4 qm (aB 0 (aB 1 (aB 2 (aB 3 aw)))))))
def hZ:cY:=eE 5 rD
def mM:cG:=
 (aD (oI (cT (df 1 3) (av 2)) (iP (nG 2 (aE (bK 3) (aE (bK 4) c7)))))
 (aD (oI (cT (av 4) (p_ (bM 1))) (iP (nG 5 (aE (bK 5) (aE (bK 6) (aE (bK 7) (aE (bK 8) (aE (bK 9) c7))))))))
 (aD (bq 10 (az dN (ax (az mC (aB 1 (aB 5 aw))) (aB 2 (aB 3 (ax (oq (av 4) nP (lV (p_ (bM 1)))) aw))))))
 (aD (bq 11 (cT (az dg (aB 0 (aB 2 (ax (cT (av 4) (p_ (bM 2))) aw)))) (bj Du (cT (cT (av 4) (p_ (bM 2))) (bM 2)) (bM 1))))
 (aD (gk (aO (bj (vy false) (df 11 1) (cF .non))) (cc (av 10)) gD)
 (cc (az dF (aB 0 (aB 10 (aB 2 (gn 11 1 (aB 9 aw))))))))))))
def gS:cY:=eE 12 mM
def ju:cG:=
 (aD (bq 3 (az bJ (aB 1 (aB 2 aw))))
 (aD (bq 4 (df 3 0))
 (aD (gk (vj (aO (bj (gL true) (av 4) (cF (.int (-1))))) (aO (bj (gL true) (cT (cT (df 1 0) (av 4)) (bM 1)) (av 2)))) (cc (aV (ax (az i8 (aB 1 (aB 4 (aB 2 aw)))) (ax (cF .non) aw)))) gD)
 (aD (bq 5 (az dg (aB 0 (aB 2 (aB 3 aw)))))
 (aD (gk (aO (bj (gL false) (df 3 2) (iZ (bF (av 5))))) (cc (aV (ax (az gS (aB 0 (aB 1 (aB 2 aw)))) (ax (cF .non) aw)))) gD)
 (aD (bq 6 (cT (av 5) (df 3 2)))
 (aD (bq 7 (cF .non))
 (aD (gk (aO (bj (gL false) (df 6 0) (cF (.str "say")))) (bq 7 (aV (aB 2 (ax (az cK (aB 0 (aB 1 (aB 2 (gn 6 1 aw))))) aw)))) gD)
 (cc (aV (ax (az hZ (aB 0 (ax (az ir (aB 1 (aB 2 (ax (bj bX (df 3 2) (bM 1)) aw)))) (aB 2 (aB 6 aw))))) (aB 7 aw))))))))))))
def kS:cY:=eE 8 ju
def fU:cG:=
 (aD (bq 1 (kM (gg aw)))
 (aD (kG (qF (bF (df 0 1))) (iP (nG 2 (aE (bK 2) (aE (bK 3) c7)))) (Cq (rT (av 1) (bF (av 3)))))
 (aD (kG (qF (bF (df 0 0))) (iP (nG 5 (aE (bK 4) (aE (bK 5) (aE (bK 3) (aE (bK 6) (aE (bK 7) c7))))))) (aD (Cq (rT (av 1) (bF (bj bX (av 3) (av 6)))))
 (kG (qF (bF (av 7))) (bK 8) (Cq (B_ (av 1) (kN (eG gR (aB 8 aw))))))))
 (cc (av 1)))))
def dh:cY:=eE 9 fU
def fR:cG:=
 (aD (bq 3 (az bJ (aB 1 (aB 2 aw))))
 (cc (uR (bj (gL false) (df 3 0) (cF (.int (-1)))) (bj (gL false) (df 3 2) (iZ (bF (az dg (aB 0 (aB 2 (aB 3 aw))))))))))
def eh:cY:=eE 4 fR
def mU:cG:=
 (aD (bq 2 (kM (eG dh (aB 1 aw))))
 (D3 (dm [none,some 0,some 1,some 2] (wY (iZ (bF (df 1 3)))) (bK 0) (vj (aO (Ad true (av 0) (bF (av 3)))) (uc (i_ (az eh (aB 1 (aB 2 (aB 0 aw))))))) (av 0))))
def jE:cY:=eE 3 mU
def qA:cG:=
 (aD (gk (aO (Ad true (av 2) (kN (eG jE (aB 0 (aB 1 aw)))))) never gD)
 (cc (az kS (aB 0 (aB 1 (aB 2 aw))))))
def gX:cY:=eE 3 qA
def HG:cG:=
 (aD (kG (wY (Ae maxD (rZ 1 (ax (Ae minD (ax (iZ (bF (av 0))) (rZ 8 aw))) aw)))) (bK 1) (aD (bq 2 (kM (eG jM (aB 0 (aB 1 aw)))))
 (aD (oI (az gr (aB 2 (ax (bj bX (bM 2) (az bA (aB 2 (rZ 3 aw)))) aw))) (iP (nG 3 (aE (bK 3) (aE (bK 4) (aE (bK 5) c7))))))
 (aD (bq 6 (kM (yJ (iZ (bF (df 3 3))))))
 (aD (wu 7 8 (ax (kM (gg aw)) (ax (kM (gg aw)) aw)))
 (aD (bq 9 (az tN (aB 3 aw)))
 (aD (Bt (aO (my (bF (av 6)))) (aD (Cq (Cr vk (av 7) (ax (Cr j6 (av 6) (ax (az bA (aB 2 (ax (iZ (bF (av 6))) aw))) aw)) aw)))
 (aD (bq 9 (cT (az gX (aB 3 (aB 9 (ax (cT (av 7) (p_ (bM 1))) aw)))) (bM 0)))
 (gk (uc (i_ (az dW (aB 3 (aB 9 (aB 4 (ax (aV (aB 6 (aB 7 (aB 8 aw)))) aw))))))) (cc (cF (.bl false))) gD))) 5)
 (aD (Bt (aO (my (bF (av 7)))) (aD (kG (wY (bj bX (av 5) (bM 1))) (bK 10) (aD (gk (uc (i_ (az dW (aB 3 (aB 9 (aB 4 (ax (aV (aB 6 (aB 7 (aB 8 aw)))) aw))))))) (cc (cF (.bl false))) gD)
 (bq 9 (cT (az gX (aB 3 (aB 9 (gn 7 0 aw)))) (bM 0)))))
 (Cq (Cr vk (av 8) (ax (Cr j6 (av 7) (rZ 0 aw)) aw)))) 5)
 (aD (gk (uc (i_ (az dW (aB 3 (aB 9 (aB 4 (ax (aV (aB 6 (aB 7 (aB 8 aw)))) aw))))))) (cc (cF (.bl false))) gD)
 (kG (qF (bF (av 8))) (bK 11) (aD (oI (az gX (aB 3 (aB 9 (aB 11 aw)))) (iP (nG 2 (aE (bK 9) (aE (bK 12) c7)))))
 (gk (FZ (aO (bj (BW true) (av 12) (aV (aB 11 (rZ 1 aw))))) (aO (bj (BW true) (az kX (aB 3 (aB 9 (aB 11 aw)))) (aV (nL "done" aw))))) (cc (cF (.bl false))) gD))))))))))))
 (cc (cF (.bl true))))
def DE:cY:=eE 13 HG
def top(i:Nat):Stmt:=PySem.Challenge.pw_calledroom_k18_a_row_of_hands.main.body.getD i (.Pass ⟨0,0,0,0⟩)
abbrev kf:Stmt:=top 58
abbrev iV:Stmt:=top 59
abbrev ji:Stmt:=top 60
abbrev ie:Stmt:=top 62
abbrev jq:Stmt:=top 7
abbrev ic:Stmt:=top 9
abbrev sx:Stmt:=top 8
abbrev iT:Stmt:=top 61
abbrev kb:Stmt:=top 20
abbrev eP:Stmt:=top 19
abbrev iD:Stmt:=top 10
abbrev ig:Stmt:=top 11
abbrev qj:Stmt:=top 18
abbrev ix:Stmt:=top 63
abbrev ke:Stmt:=top 25
abbrev kr:Stmt:=top 27
abbrev jm:Stmt:=top 12
abbrev jb:Stmt:=top 15
abbrev i9:Stmt:=top 13
abbrev iY:Stmt:=top 29
abbrev fQ:Stmt:=top 3
abbrev j2:Stmt:=top 2
abbrev j7:Stmt:=top 28
abbrev oX:Stmt:=top 33
abbrev eA:Stmt:=top 16
abbrev pI:Stmt:=top 17
abbrev jx:Stmt:=top 34
abbrev t5:Stmt:=top 35
abbrev mF:Stmt:=top 30
abbrev sO:Stmt:=top 36
abbrev mf:Stmt:=top 37
abbrev i0:Stmt:=top 38
abbrev sV:Stmt:=top 31
abbrev mq:Stmt:=top 39
abbrev m8:Stmt:=top 40
abbrev pO:Stmt:=top 41
abbrev mY:Stmt:=top 42
abbrev jw:Stmt:=top 14
abbrev tF:Stmt:=top 44
abbrev mI:Stmt:=top 43
abbrev ia:Stmt:=top 46
abbrev ml:Stmt:=top 45
abbrev mv:Stmt:=top 47
abbrev pL:Stmt:=top 48
abbrev kH:Stmt:=top 50
abbrev kK:Stmt:=top 32
abbrev mL:Stmt:=top 56
abbrev fj:Stmt:=top 53
abbrev ff:Stmt:=top 54
abbrev j_:Stmt:=top 52
abbrev me:Stmt:=top 55
abbrev kU:Stmt:=top 64
end W28
namespace W28
open PySem PySem.Spec L2 DL PyProof.Rows
abbrev xw:List Str:= ["_law_found","_law_due"]
abbrev CW:List Str:= ["_law_pot_here","_law_hands"]
abbrev Dp:List Str:= ["_law_pot_here","_law_many"]
abbrev Bm:List Str:= ["_law_pot_here","_law_some"]
abbrev yj:List Str:= ["_law_script","_law_k"]
abbrev BE:List Str:= ["_law_script"]
abbrev yl:List Str:= ["_law_world_here","_law_scene","_law_name","_law_places"]
abbrev u5:List Str:= ["form","first","second"]
abbrev vM:List Str:= ["line"]
abbrev vV:List Str:= ["parts","at","part"]
abbrev vz:List Str:= ["roll","name"]
abbrev vQ:List Str:= ["roll"]
abbrev uE:List Str:= ["room"]
abbrev ve:List Str:= ["scene","at","room"]
abbrev vc:List Str:= ["scene","at","turnstile"]
abbrev x8:List Str:= ["scene","hand","frame"]
abbrev x_:List Str:= ["scene","hand","row"]
abbrev va:List Str:= ["scene","hand","values","frames"]
abbrev vS:List Str:= ["scene","hand"]
abbrev yC:List Str:= ["scene","room","bell","line"]
abbrev yh:List Str:= ["scene","room","hand"]
abbrev ya:List Str:= ["scene","room"]
abbrev yN:List Str:= ["scene"]
abbrev vY:List Str:= ["things"]
abbrev sf:List Str:= ["tree","things","waiting"]
abbrev yb:List Str:= ["world","hand","frame"]
abbrev yP:List Str:= ["world","scene","hand","name"]
abbrev bf:List Str:= ["world","scene","hand","row"]
abbrev yM:List Str:= ["world","scene","hand","tree"]
abbrev x9:List Str:= ["world","scene","hand","word","value"]
abbrev yc:List Str:= ["world","scene","hand","word"]
abbrev cU:List Str:= ["world","scene","hand"]
abbrev yt:List Str:= ["world","scene","name"]
abbrev yL:List Str:= ["world","scene"]
abbrev yn:List Str:= ["world"]
section
variable(P:Program)(w:World)(K:PySem.W.Frag)(mg:Str->Option Value)(base:Heap)
abbrev wA:Prop:=eS P w K mg base 1 "_law_pot" yj jM
abbrev iW:Prop:=eS P w K mg base 1 "_law_take" Dp bA
abbrev uD:Prop:=eS P w K mg base 2 "_law_pick" Bm ij
abbrev sI:Prop:=eS P w K mg base 3 "_law_world" CW gr
abbrev nc:Prop:=eS P w K mg base 1 "values_of" vY eR
abbrev tU:Prop:=eS P w K mg base 2 "begun_room" uE gq
abbrev Dz:Prop:=eS P w K mg base 3 "begun" yn tN
abbrev uK:Prop:=eS P w K mg base 11 "_law_same" xw (eQ 10)
abbrev qu:Prop:=eS P w K mg base 1 "hands_at" vM gR
abbrev mX:Prop:=eS P w K mg base 2 "place_in_a_row" cU dE
abbrev cq:Prop:=eS P w K mg base 1 "last_frame" vS bJ
abbrev fD:Prop:=eS P w K mg base 1 "program_of" yb dg
abbrev u6:Prop:=eS P w K mg base 3 "stands" cU kX
abbrev tO:Prop:=eS P w K mg base 12 "_law_right" yl dW
abbrev kh:Prop:=eS P w K mg base 1 "names_of" vQ cX
abbrev gh:Prop:=eS P w K mg base 2 "place_of" vz cf
abbrev eV:Prop:=eS P w K mg base 1 "with_part" vV cB
abbrev gw:Prop:=eS P w K mg base 2 "with_hand" va dN
abbrev eX:Prop:=eS P w K mg base 2 "with_room" ve b9
abbrev nk:Prop:=eS P w K mg base 3 "put_thing" x9 dF
abbrev pH:Prop:=eS P w K mg base 1 "value_of_two" u5 eT
abbrev wZ:Prop:=eS P w K mg base 8 "value_of" sf (eM 6)
abbrev eJ:Prop:=eS P w K mg base 9 "reckoned" yM cK
abbrev gA:Prop:=eS P w K mg base 3 "with_last_frame" x8 cJ
abbrev pd:Prop:=eS P w K mg base 4 "at_row" x_ ir
abbrev rh:Prop:=eS P w K mg base 3 "come_in" yh i8
abbrev mG:Prop:=eS P w K mg base 3 "bell_of" yc hU
abbrev i7:Prop:=eS P w K mg base 3 "with_line" yC dG
abbrev xY:Prop:=eS P w K mg base 3 "leave" ya mC
abbrev nK:Prop:=eS P w K mg base 2 "with_pass" vc dP
abbrev yz:Prop:=eS P w K mg base 3 "taken" yP pS
abbrev lu:Prop:=eS P w K mg base 3 "given_back" yt eZ
abbrev wV:Prop:=eS P w K mg base 11 "row_done" bf hZ
abbrev we:Prop:=eS P w K mg base 4 "end_deed" cU gS
abbrev zy:Prop:=eS P w K mg base 12 "step_of" cU kS
abbrev nW:Prop:=eS P w K mg base 2 "hands_in_rows" yN dh
abbrev nT:Prop:=eS P w K mg base 2 "is_behind_all" cU eh
abbrev wI:Prop:=eS P w K mg base 3 "may_step" yL jE
abbrev zU:Prop:=eS P w K mg base 13 "stepped" cU gX
end
def JI{X:Cx}{a:Expr}{pos:Pos}{f:et}{p:Pos}(d:Gl X "len")(e:X.mg "len"=none)(b:PE X a (tQ (md X) f))(c:starEach [a] X.env= [(false,eval a X.env)]):PE X (.Call (.Name "len" p) [a] [] pos) (tD (md X) (iZ f)):=yw d e b c
def dy{X:Cx}{pos:Pos}{N:List Str}{js:List (Option Nat)}{a:Scope}{c:List (Str×Addr)}{h b e:Expr}{d:List Expr}{i:rN}{g:j8}{t:h_}{f:aW}(S:aX X N js a c)(j:X.calm=true)(hi:PI X h b (tI (md X) i))(l:∀C s H fp,PG (aJ X N a c C s H fp) h (tG (md (aJ X N a c C s H fp)) g))(m:∀C s H fp,nZ (aJ X N a c C s H fp) d (tB (md (aJ X N a c C s H fp)) t))(he:∀C s H fp,PE (aJ X N a c C s H fp) e (tD (md (aJ X N a c C s H fp)) f))(k:∀x,foldedSetIterable b X.env x=pure x:=by intro _;rfl):PE X (.ListComp e [⟨h,b,d,0⟩] a pos) (tL (md X) (dm js i g t f)):=E_ S j hi l m he k
def Bg{X:Cx}{pos:Pos}{N:List Str}{js:List (Option Nat)}{a:Scope}{d:List (Str×Addr)}{h b l j c:Expr}{f:List Expr}{i:rN}{g:j8}{t:h_}{o p:aW}{n:Nat}{e:Pos}(S:aX X N js a d)(q:X.calm=true)(hi:PI X h b (tI (md X) i))(u:∀C s H fp,PG (aJ X N a d C s H fp) h (tG (md (aJ X N a d C s H fp)) g))(w:∀C s H fp,nZ (aJ X N a d C s H fp) f (tB (md (aJ X N a d C s H fp)) t))(z:∀C s H fp,PE (aJ X N a d C s H fp) l (tD (md (aJ X N a d C s H fp)) o))(y:∀C s H fp,PE (aJ X N a d C s H fp) j (tD (md (aJ X N a d C s H fp)) p))(m:PG X c (o6 n))(r:∀x,foldedSetIterable b X.env x=pure x:=by intro _;rfl)(k:swapsWithSole [c] (.DictComp l j [⟨h,b,f,0⟩] a pos) e.line X.env=pure true:=by rfl)(v:(assignEach [c] X.env).map (·.2)= [assign c X.env]:=by rfl):PS X (.Assign [c] (.DictComp l j [⟨h,b,f,0⟩] a pos) e) (tS (md X) (Hv n (mQ js i g t o p))):=C1 S q hi u w z y m r k v
local macro_rules|`(tactic|ac_rfl)=>do
 let g (l:List (String×Nat)):Lean.MacroM (Array (Lean.TSyntax `Lean.Parser.Tactic.tacticSeq)):=l.toArray.mapM λ(s,k)=>do
  let ws:=((s.splitOn " ").map λn=>Lean.mkIdent n.toName).toArray
  let h←`(?_)
  let e:=Lean.Syntax.mkApp ⟨ws[0]!.raw⟩ ((ws.toList.tail!.map λw=>⟨w.raw⟩).toArray++Array.replicate k h)
  `(tacticSeq|refine $e)
 let a←g [("KQ",5),("v_",5),("aF",3),("dU",0),("b_",0),("jN",3),("dt",2),("lQ",3),("m9",1),("vh",1),("vo",5),("Gn",1),("Bu",3),("vW",0),("HD",0),("D6",4),("Bq",0),("Ee",2),("KW",1),("Js",1),("JP",0),("Im",3),("D1",5),("D5 Hk Ha",3),("Hz",1),("Kv",0),("JI",4),("BR",6),("Ki",0),("Kt",2),("J_",2),("BX",1),("yO",1),("Ik",5),("Hg",1),("Kp",3),("D5 Kn Kf",3),("Cb",2),("J0",6),("Kh Hk Ha",3),("KN",3),("JU",1),("Kl",7),("JZ",2),("Kx",2),("D5 Kj Ky",3),("ID",3),("BU",1),("JG",5),("Km",2),("Gc",10),("D5 Ke J8",3),("JN",2),("JY",3),("AS",4),("Jv",2),("Cj",0),("Kq",5),("D5 IU Jr",3),("IM",0),("Kk",2),("Ir",6),("Jb",4),("Gk",6),("IB",3),("Kh JX J1",3),("Jw",4),("vF",6),("J5",1),("Kc",1),("D5 IH Iu",3),("Jm",4),("Kh Kj Ky",3),("Jl",1),("IA",4),("HM",6),("KI",5),("D5 Kg KC",3),("Hn",6),("Io",0),("g7",1),("Ks",1),("KD",1),("Ar",2),("IY",1),("Hq",1)]
 let b←g [("w5",1),("PassesOwn.never",0),("Eg",0),("Ip",0),("Bl.abs",1),("Bl.all",1),("Bl.bool",1),("Bl.dict",1),("Bl.enum",1),("Bl.int",1),("Bl.isi",1),("Bl.len",1),("Bl.max",1),("Bl.min",1),("Bl.range",1),("Bl.str",1),("Bl.tuple",1),("Bl.zip",1),("dt",2),("g7",1)]
 let c←([("Gu m3 Gm Bl.int",0),("Fh iX z4 Bl.min",1),("Jf iX Gs Bl.abs",0),("Ez iX Aa Bl.max",1),("str",2),("tuple",2),("int",2),("bool",2)]:List (String×Nat)).toArray.mapM λ(s,k)=>do
  let ws:=((s.splitOn " ").map λn=>Lean.mkIdent n.toName).toArray
  if k=2 then
   `(tacticSeq|refine DI (v:=.ty $(Lean.quote s)) rfl ($(Lean.mkIdent (.str (.str .anonymous "Bl") s)) (by assumption)) $(Lean.mkIdent (.str `PyProof.Rows ("boot_" ++s))) rfl)
  else
   let e←if k=1 then `($(ws[2]!) rfl) else pure ⟨ws[2]!.raw⟩
   `(tacticSeq|((with_reducible refine E1 $(ws[0]!) ?_);refine $(ws[1]!) $e rfl ($(ws[3]!) (by assumption)) (by rfl) ?_))
 `(tactic|repeat (first
 |exact rfl
 |exact Or.inl rfl
 |(with_reducible first $[| $a]*)
 |(with_reducible first|refine PW.pt (w_and ?_ ?_)|refine PW.pt (w_or ?_ ?_))
 |refine nX (by assumption) (by assumption) ?_
 |((with_reducible refine xa ?_ ?_ ?_ ?_ ?_ ?hsz ?_);(case hsz=>exact rfl))
 |refine iC (ue (v:=.int (-1)) rfl (by assumption) ⟨_,rfl⟩) λ_ _=>.int (-1)
 |refine G0 (by assumption) (by assumption) ?_
 |refine iC (ue (v:=.int (9)) rfl (by assumption) ⟨_,rfl⟩) λ_ _=>.int (9)
 |refine A2 (by assumption) ?_ ?_
 |assumption
 |exact Or.inr rfl
 |exact Or.inr (Or.inl rfl)
 |exact Or.inr (Or.inr rfl)
 |decide
 |omega
 |(intro _ _;rfl)
 |(intro _;rfl)
 |(intro _ _ _;rfl)
 |exact⟨rfl,rfl,rfl,rfl,rfl,rfl,rfl⟩
 |exact λ_ _=>.int _
 |(first $[| $c]*)
 |(first $[| $b]*)))
section
variable{P:Program}{w:World}{K:PySem.W.Frag}{mg:Str->Option Value}{base:Heap}{f:Addr}{fd:FuncData}
def nq:aC ["_law_script","_law_k","_law_cell","_law_digits"] yj (ay kf):=e_
def uN(F:d_ K "_law_pot" "_law_pot" kf f fd)(B:Bl mg):bc P w K mg base dC 1 f fd yj (d0 ⟨K,mg⟩ 2 jM):=by
 have c:=nq.nd
 refine a0 F nq λb A a s H E d=> ?_
 delta lZ
 ac_rfl
def lL:aC ["_law_pot_here","_law_many","_law_digit","_law_mixed"] Dp (ay iV):=e_
def uq(F:d_ K "_law_take" "_law_take" iV f fd)(B:Bl mg):bc P w K mg base dC 1 f fd Dp (d0 ⟨K,mg⟩ 2 bA):=by
 have c:=lL.nd
 refine a0 F lL λb A a s H E d=> ?_
 delta kc
 ac_rfl
def sW:aC Bm Bm (ay ji):=e_
def sY(F:d_ K "_law_pick" "_law_pick" ji f fd)(B:Bl mg)(c:iW P w K mg base):bc P w K mg base dC 2 f fd Bm (d0 ⟨K,mg⟩ 2 ij):=by
 refine a0 F sW λb A a s H E d=> ?_
 delta km
 ac_rfl
def jQ:aC ["_law_pot_here","_law_hands","_law_names","_law_rows","_law_deed","_law_rooms","_law_name","_law_manner","_law_program"] CW (ay ie):=e_
def qX(F:d_ K "_law_world" "_law_world" ie f fd)(B:Bl mg)(d:iW P w K mg base)(c:uD P w K mg base):bc P w K mg base dC 3 f fd CW (d0 ⟨K,mg⟩ 2 gr):=by
 have e:=jQ.nd
 refine a0 F jQ λb A a s H E g=> ?_
 delta i6
 ac_rfl
 refine dy (N:= ["_law_k","_law_pot_here"]) (js:= [none,some 0]) (aX.gen rfl rfl rfl rfl rfl rfl) rfl ?_ (λ_ _ _ _=> ?_) (λ_ _ _ _=> ?_) (λ_ _ _ _=> ?_)
 ac_rfl
def tT:aC vY vY (ay jq):=e_
def t9(F:d_ K "values_of" "values_of" jq f fd)(B:Bl mg):bc P w K mg base dC 1 f fd vY (d0 ⟨K,mg⟩ 1 eR):=by
 refine a0 F tT λb A a s H E c=> ?_
 delta ka
 ac_rfl
 refine dy (N:= ["word","value"]) (js:= [none,none]) (aX.gen rfl rfl rfl rfl rfl rfl) rfl ?_ (λ_ _ _ _=> ?_) (λ_ _ _ _=> ?_) (λ_ _ _ _=> ?_)
 ac_rfl
def jY:aC ["room","name","manner","things","bells","deeds"] uE (ay ic):=e_
def qU(F:d_ K "begun_room" "begun_room" ic f fd)(B:Bl mg)(d:nc P w K mg base){b:Tok}(e:mg "NOBODY"=some (.int (-1) b)):bc P w K mg base dC 2 f fd uE (d0 ⟨K,mg⟩ 1 gq):=by
 have g:=jY.nd
 refine a0 F jY λc A a s H E h=> ?_
 delta jt
 ac_rfl
 refine dy (N:= ["bell"]) (js:= [none]) (aX.gen rfl rfl rfl rfl rfl rfl) rfl ?_ (λ_ _ _ _=> ?_) (λ_ _ _ _=> ?_) (λ_ _ _ _=> ?_)
 ac_rfl
def uC:aC ["world","rooms","passes","shared","hands","own"] yn (ay sx):=e_
def Br(F:d_ K "begun" "begun" sx f fd)(B:Bl mg)(d:nc P w K mg base)(i:tU P w K mg base){c:Tok}(e:mg "OWN"=some (.int (-1) c)):bc P w K mg base dC 3 f fd yn (d0 ⟨K,mg⟩ 1 tN):=by
 have g:=uC.nd
 refine a0 F uC λb A a s H E h=> ?_
 delta xh
 ac_rfl
 refine dy (N:=uE) (js:= [none]) (aX.gen rfl rfl rfl rfl rfl rfl) rfl ?_ (λ_ _ _ _=> ?_) (λ_ _ _ _=> ?_) (λ_ _ _ _=> ?_)
 ac_rfl
 refine dy (N:= ["name","value"]) (js:= [none,none]) (aX.gen rfl rfl rfl rfl rfl rfl) rfl ?_ (λ_ _ _ _=> ?_) (λ_ _ _ _=> ?_) (λ_ _ _ _=> ?_)
 ac_rfl
 refine dy (N:= ["things","program","own"]) (js:= [none,none,some 5]) (aX.gen rfl rfl rfl rfl rfl rfl) rfl ?_ (λ_ _ _ _=> ?_) (λ_ _ _ _=> ?_) (λ_ _ _ _=> ?_)
 ac_rfl
def tK:aC xw xw (ay iT):=e_
theorem kP(F:d_ K "_law_same" "_law_same" iT f fd)(B:Bl mg)(b:Binds K fd xw [])(c:PySem.W.keepIn K (.ref f)=true)(m:mg "_law_same"=some (.ref f)):∀n,bc P w K mg base dC (1+n) f fd xw (d0 ⟨K,mg⟩ 2 (eQ n))
 |0=>yq
 | n+1=>by
   have e:eS P w K mg base (1+n) "_law_same" xw (eQ n):=⟨f,fd,kP F B b c m n,b,c,m⟩
   refine a0 (k:=1+n) F tK λd A a s H E g=> ?_
   delta gd
   ac_rfl
   refine dy (N:= ["_law_one","_law_other"]) (js:= [none,none]) (aX.gen rfl rfl rfl rfl rfl rfl) rfl ?_ (λ_ _ _ _=> ?_) (λ_ _ _ _=> ?_) (λ_ _ _ _=> ?_)
   ac_rfl
end
section
variable{P:Program}{w:World}{K:PySem.W.Frag}{mg:Str->Option Value}{base:Heap}{f:Addr}{fd:FuncData}
def vG:aC vM vM (ay kb):=e_
def uS(F:d_ K "hands_at" "hands_at" kb f fd)(B:Bl mg):bc P w K mg base dC 1 f fd vM (d0 ⟨K,mg⟩ 1 gR):=by
 refine a0 F vG λb A a s H E c=> ?_
 delta mH
 ac_rfl
 refine dy (N:= ["turn","hand"]) (js:= [none,none]) (aX.gen rfl rfl rfl rfl rfl rfl) rfl ?_ (λ_ _ _ _=> ?_) (λ_ _ _ _=> ?_) (λ_ _ _ _=> ?_)
 ac_rfl
def gC:aC ["world","scene","hand","name","first","value","row","room","state","bell","sort","line"] cU (ay eP):=e_
def lI(F:d_ K "place_in_a_row" "place_in_a_row" eP f fd)(B:Bl mg)(c:qu P w K mg base):bc P w K mg base dC 2 f fd cU (d0 ⟨K,mg⟩ 3 dE):=by
 have d:=gC.nd
 refine a0 F gC λb A a s H E e=> ?_
 delta fe
 ac_rfl
def qL:aC vS vS (ay iD):=e_
def qK(F:d_ K "last_frame" "last_frame" iD f fd)(B:Bl mg):bc P w K mg base dC 1 f fd vS (d0 ⟨K,mg⟩ 2 bJ):=by
 refine a0 F qL λb A a s H E c=> ?_
 delta jy
 ac_rfl
def jW:aC ["world","hand","frame","room","deed"] yb (ay ig):=e_
def qI(F:d_ K "program_of" "program_of" ig f fd)(B:Bl mg){c:Tok}(d:mg "OWN"=some (.int (-1) c)):bc P w K mg base dC 1 f fd yb (d0 ⟨K,mg⟩ 3 dg):=by
 have e:=jW.nd
 refine a0 F jW λb A a s H E g=> ?_
 exact(dt (D9 (BH (i:=3) (j:=4) rfl e rfl rfl (by decide) rfl rfl (aF (jN (v_ 2) dU) (aF (jN (v_ 2) dU) b_)) rfl))
  (dt (Bu (D5 Hk Ha (v_ 3) (iC (ue (v:=.int (-1)) rfl d ⟨_,rfl⟩) λ_ _=>.int (-1)) (w5 _)) (g7 (m9 (jN (jN (jN (v_ 0) dU) (v_ 1)) dU))) vW)
  (g7 (m9 (jN (jN (jN (jN (jN (v_ 0) dU) (v_ 3)) dU) (v_ 4)) dU)))))
def rq:aC ["world","scene","hand","waits","frame","room","name"] cU (ay qj):=e_
def zt(F:d_ K "stands" "stands" qj f fd)(B:Bl mg)(e:mX P w K mg base)(d:cq P w K mg base)(g:fD P w K mg base){c:Tok}(h:mg "OWN"=some (.int (-1) c)):bc P w K mg base dC 3 f fd cU (d0 ⟨K,mg⟩ 3 kX):=by
 have i:=rq.nd
 refine a0 F rq λb A a s H E j=> ?_
 delta su
 ac_rfl
def jV:aC ["_law_world_here","_law_scene","_law_name","_law_places","_law_out","_law_row","_law_behind","_law_due","_law_own","_law_at","_law_spot"] yl (ay ix):=e_
def qO(F:d_ K "_law_right" "_law_right" ix f fd)(B:Bl mg)(e:uK P w K mg base)(g:u6 P w K mg base):bc P w K mg base dC 12 f fd yl (d0 ⟨K,mg⟩ 4 dW):=by
 have h:=jV.nd
 refine a0 F jV λb A a s H E d=> ?_
 have c:=BV d
 delta jk
 ac_rfl
 refine dy (N:= ["_law_room"]) (js:= [none]) (aX.gen rfl rfl rfl rfl rfl rfl) rfl ?_ (λ_ _ _ _=> ?_) (λ_ _ _ _=> ?_) (λ_ _ _ _=> ?_)
 ac_rfl
 refine dy (N:= ["_law_own","_law_world_here","_law_scene","_law_due"]) (js:= [none,some 0,some 1,some 7]) (aX.gen rfl rfl rfl rfl rfl rfl) rfl ?_ (λ_ _ _ _=> ?_) (λ_ _ _ _=> ?_) (λ_ _ _ _=> ?_)
 ac_rfl
def uY:aC vQ vQ (ay ke):=e_
def uL(F:d_ K "names_of" "names_of" ke f fd)(B:Bl mg):bc P w K mg base dC 1 f fd vQ (d0 ⟨K,mg⟩ 1 cX):=by
 refine a0 F uY λb A a s H E c=> ?_
 delta mV
 ac_rfl
 refine dy (N:= ["row"]) (js:= [none]) (aX.gen rfl rfl rfl rfl rfl rfl) rfl ?_ (λ_ _ _ _=> ?_) (λ_ _ _ _=> ?_) (λ_ _ _ _=> ?_)
 ac_rfl
def uF:aC vz vz (ay kr):=e_
def vR(F:d_ K "place_of" "place_of" kr f fd)(B:Bl mg)(c:kh P w K mg base):bc P w K mg base dC 2 f fd vz (d0 ⟨K,mg⟩ 2 cf):=by
 refine a0 F uF λb A a s H E d=> ?_
 delta mN
 ac_rfl
def sE:aC vV vV (ay jm):=e_
def uh(F:d_ K "with_part" "with_part" jm f fd)(B:Bl mg):bc P w K mg base dC 1 f fd vV (d0 ⟨K,mg⟩ 3 cB):=by
 refine a0 F sE λb A a s H E c=> ?_
 delta kj
 ac_rfl
def tw:aC va va (ay jb):=e_
def tY(F:d_ K "with_hand" "with_hand" jb f fd)(B:Bl mg)(c:eV P w K mg base):bc P w K mg base dC 2 f fd va (d0 ⟨K,mg⟩ 4 dN):=by
 refine a0 F tw λb A a s H E d=> ?_
 delta kg
 ac_rfl
def sR:aC ve ve (ay i9):=e_
def tR(F:d_ K "with_room" "with_room" i9 f fd)(B:Bl mg)(c:eV P w K mg base):bc P w K mg base dC 2 f fd ve (d0 ⟨K,mg⟩ 3 b9):=by
 refine a0 F sR λb A a s H E d=> ?_
 delta kn
 ac_rfl
end
section
variable{P:Program}{w:World}{K:PySem.W.Frag}{mg:Str->Option Value}{base:Heap}{f:Addr}{fd:FuncData}
def k_:aC ["world","scene","hand","word","value","room","place","values","shared","frames"] x9 (ay iY):=e_
def sC(F:d_ K "put_thing" "put_thing" iY f fd)(B:Bl mg)(e:cq P w K mg base)(i:gh P w K mg base)(j:eV P w K mg base)(d:eX P w K mg base)(g:kh P w K mg base)(h:gw P w K mg base){c:Tok}(k:mg "OWN"=some (.int (-1) c)):bc P w K mg base dC 3 f fd x9 (d0 ⟨K,mg⟩ 5 dF):=by
 have l:=k_.nd
 refine a0 F k_ λb A a s H E m=> ?_
 delta iy
 ac_rfl
def n_:aC u5 u5 (ay fQ):=e_
def oa(F:d_ K "value_of_two" "value_of_two" fQ f fd)(B:Bl mg){c:Tok}(d:mg "HIGHEST"=some (.int (9) c)):bc P w K mg base dC 1 f fd u5 (d0 ⟨K,mg⟩ 3 eT):=by
 refine a0 F n_ λb A a s H E e=> ?_
 delta gI
 ac_rfl
def nz:aC ["tree","things","waiting","first"] sf (ay j2):=e_
theorem nJ(F:d_ K "value_of" "value_of" j2 f fd)(B:Bl mg)(e:pH P w K mg base)(b:Binds K fd sf [])(c:PySem.W.keepIn K (.ref f)=true)(m:mg "value_of"=some (.ref f)):∀n,bc P w K mg base dC (2+n) f fd sf (d0 ⟨K,mg⟩ 3 (eM n))
 |0=>yq
 | n+1=>by
   have j:eS P w K mg base (2+n) "value_of" sf (eM n):=⟨f,fd,nJ F B e b c m n,b,c,m⟩
   have i:=nz.nd
   refine a0 (k:=2+n) F nz λd A a s H E g=> ?_
   have h:=BV g
   delta mr
   ac_rfl
def nF:aC ["world","scene","hand","tree","frame","room","things","waiting"] yM (ay j7):=e_
def vq(F:d_ K "reckoned" "reckoned" j7 f fd)(B:Bl mg)(g:cq P w K mg base)(h:kh P w K mg base)(k:wZ P w K mg base){e:Tok}(i:mg "OWN"=some (.int (-1) e)):bc P w K mg base dC 9 f fd yM (d0 ⟨K,mg⟩ 4 cK):=by
 have j:=nF.nd
 refine a0 F nF λb A a s H E c=> ?_
 have d:=BV c
 delta jD
 ac_rfl
 refine Bg (n:=7) (N:= ["bell","line"]) (js:= [none,none]) (aX.gen rfl rfl rfl rfl rfl rfl) rfl ?_ (λ_ _ _ _=> ?_) (λ_ _ _ _=> ?_) (λ_ _ _ _=> ?_) (λ_ _ _ _=> ?_) ?_
 ac_rfl
def zx:aC bf bf (ay oX):=e_
def zc(F:d_ K "by_put" "by_put" oX f fd)(B:Bl mg)(c:nk P w K mg base)(d:eJ P w K mg base):bc P w K mg base dC 10 f fd bf (d0 ⟨K,mg⟩ 4 oM):=by
 refine a0 F zx λb A a s H E e=> ?_
 delta sQ
 ac_rfl
def fP:aC ["scene","hand","frame","values","frames"] x8 (ay eA):=e_
def kA(F:d_ K "with_last_frame" "with_last_frame" eA f fd)(B:Bl mg)(c:gw P w K mg base):bc P w K mg base dC 3 f fd x8 (d0 ⟨K,mg⟩ 3 cJ):=by
 have d:=fP.nd
 refine a0 F fP λb A a s H E e=> ?_
 delta eN
 ac_rfl
def si:aC ["scene","hand","row","frame"] x_ (ay pI):=e_
def yY(F:d_ K "at_row" "at_row" pI f fd)(B:Bl mg)(d:cq P w K mg base)(c:gA P w K mg base):bc P w K mg base dC 4 f fd x_ (d0 ⟨K,mg⟩ 3 ir):=by
 have e:=si.nd
 refine a0 F si λb A a s H E g=> ?_
 delta tx
 ac_rfl
def ui:aC bf bf (ay jx):=e_
def sM(F:d_ K "by_unless" "by_unless" jx f fd)(B:Bl mg)(d:eJ P w K mg base)(c:pd P w K mg base):bc P w K mg base dC 10 f fd bf (d0 ⟨K,mg⟩ 4 il):=by
 refine a0 F ui λb A a s H E e=> ?_
 delta kq
 ac_rfl
end
section
variable{P:Program}{w:World}{K:PySem.W.Frag}{mg:Str->Option Value}{base:Heap}{f:Addr}{fd:FuncData}
def A6:aC bf bf (ay t5):=e_
def BB(F:d_ K "by_go" "by_go" t5 f fd)(B:Bl mg)(c:pd P w K mg base):bc P w K mg base dC 5 f fd bf (d0 ⟨K,mg⟩ 4 ua):=by
 refine a0 F A6 λb A a s H E d=> ?_
 delta xM
 ac_rfl
def oY:aC ["scene","room","hand","values","within","row","late","bells"] yh (ay mF):=e_
def xf(F:d_ K "come_in" "come_in" mF f fd)(B:Bl mg)(d:eX P w K mg base){b:Tok}(e:mg "NOBODY"=some (.int (-1) b)):bc P w K mg base dC 3 f fd yh (d0 ⟨K,mg⟩ 3 i8):=by
 have g:=oY.nd
 refine a0 F oY λc A a s H E h=> ?_
 delta oU
 ac_rfl
def uH:aC ["world","scene","hand","row","room","deed","frame","values","frames"] bf (ay sO):=e_
def A1(F:d_ K "by_do" "by_do" sO f fd)(B:Bl mg)(e:gh P w K mg base)(g:eJ P w K mg base)(c:rh P w K mg base)(d:gw P w K mg base):bc P w K mg base dC 10 f fd bf (d0 ⟨K,mg⟩ 4 t7):=by
 have h:=uH.nd
 refine a0 F uH λb A a s H E i=> ?_
 delta xv
 ac_rfl
def pZ:aC ["world","scene","hand","word","room"] yc (ay mf):=e_
def wF(F:d_ K "bell_of" "bell_of" mf f fd)(B:Bl mg)(c:cq P w K mg base)(d:gh P w K mg base):bc P w K mg base dC 3 f fd yc (d0 ⟨K,mg⟩ 4 hU):=by
 have e:=pZ.nd
 refine a0 F pZ λb A a s H E g=> ?_
 delta oZ
 ac_rfl
def lG:aC ["scene","room","bell","line","state"] yC (ay i0):=e_
def tH(F:d_ K "with_line" "with_line" i0 f fd)(B:Bl mg)(c:eX P w K mg base)(d:eV P w K mg base):bc P w K mg base dC 3 f fd yC (d0 ⟨K,mg⟩ 4 dG):=by
 have e:=lG.nd
 refine a0 F lG λb A a s H E g=> ?_
 delta kI
 ac_rfl
def uQ:aC ["scene","room","values","within","row","late","bells"] ya (ay sV):=e_
def A_(F:d_ K "leave" "leave" sV f fd)(B:Bl mg)(d:eX P w K mg base){b:Tok}(e:mg "NOBODY"=some (.int (-1) b)):bc P w K mg base dC 3 f fd ya (d0 ⟨K,mg⟩ 2 mC):=by
 have g:=uQ.nd
 refine a0 F uQ λc A a s H E h=> ?_
 delta w6
 ac_rfl
def qi:aC ["world","scene","hand","row","room","bell","turn","line","ahead","waiting"] bf (ay mq):=e_
def xi(F:d_ K "by_wait" "by_wait" mq f fd)(B:Bl mg)(c:mG P w K mg base)(e:eJ P w K mg base)(d:i7 P w K mg base)(g:xY P w K mg base):bc P w K mg base dC 10 f fd bf (d0 ⟨K,mg⟩ 4 kZ):=by
 have h:=qi.nd
 refine a0 F qi λb A a s H E i=> ?_
 delta qB
 ac_rfl
 refine dy (N:= ["other","waiter","turn"]) (js:= [none,none,some 6]) (aX.gen rfl rfl rfl rfl rfl rfl) rfl ?_ (λ_ _ _ _=> ?_) (λ_ _ _ _=> ?_) (λ_ _ _ _=> ?_)
 ac_rfl
def qg:aC ["world","scene","hand","row","room","bell","line","called","values","within","queue","late","bells"] bf (ay m8):=e_
def wG(F:d_ K "by_call" "by_call" m8 f fd)(B:Bl mg)(d:mG P w K mg base)(e:i7 P w K mg base)(c:eX P w K mg base):bc P w K mg base dC 4 f fd bf (d0 ⟨K,mg⟩ 4 k0):=by
 have g:=qg.nd
 refine a0 F qg λb A a s H E h=> ?_
 delta p7
 ac_rfl
def q0:aC ["world","scene","hand","row","room","bell"] bf (ay pO):=e_
def y2(F:d_ K "by_all" "by_all" pO f fd)(B:Bl mg)(c:mG P w K mg base)(d:i7 P w K mg base):bc P w K mg base dC 4 f fd bf (d0 ⟨K,mg⟩ 4 oH):=by
 have e:=q0.nd
 refine a0 F q0 λb A a s H E g=> ?_
 delta sA
 ac_rfl
end
section
variable{P:Program}{w:World}{K:PySem.W.Frag}{mg:Str->Option Value}{base:Heap}{f:Addr}{fd:FuncData}
def pT:aC ["world","scene","hand","row","told"] bf (ay mY):=e_
def wB(F:d_ K "by_tell" "by_tell" mY f fd)(B:Bl mg)(e:eJ P w K mg base)(c:gA P w K mg base)(d:cq P w K mg base):bc P w K mg base dC 10 f fd bf (d0 ⟨K,mg⟩ 4 lj):=by
 have g:=pT.nd
 refine a0 F pT λb A a s H E h=> ?_
 delta oT
 ac_rfl
def tq:aC vc vc (ay jw):=e_
def sS(F:d_ K "with_pass" "with_pass" jw f fd)(B:Bl mg)(c:eV P w K mg base):bc P w K mg base dC 2 f fd vc (d0 ⟨K,mg⟩ 3 dP):=by
 refine a0 F tq λb A a s H E d=> ?_
 delta kF
 ac_rfl
def vm:aC ["world","scene","hand","name","place","value","row"] yP (ay tF):=e_
def AJ(F:d_ K "taken" "taken" tF f fd)(B:Bl mg)(c:gh P w K mg base)(d:nK P w K mg base):bc P w K mg base dC 3 f fd yP (d0 ⟨K,mg⟩ 4 pS):=by
 have e:=vm.nd
 refine a0 F vm λb A a s H E g=> ?_
 delta xg
 ac_rfl
def xl:aC bf bf (ay mI):=e_
def wa(F:d_ K "by_take" "by_take" mI f fd)(B:Bl mg)(c:yz P w K mg base):bc P w K mg base dC 4 f fd bf (d0 ⟨K,mg⟩ 4 lU):=by
 refine a0 F xl λb A a s H E d=> ?_
 delta o_
 ac_rfl
def jT:aC ["world","scene","name","place","value","row"] yt (ay ia):=e_
def qJ(F:d_ K "given_back" "given_back" ia f fd)(B:Bl mg)(d:gh P w K mg base)(g:nK P w K mg base){c:Tok}(e:mg "HIGHEST"=some (.int (9) c)):bc P w K mg base dC 3 f fd yt (d0 ⟨K,mg⟩ 3 eZ):=by
 have h:=jT.nd
 refine a0 F jT λb A a s H E i=> ?_
 delta jn
 ac_rfl
def xq:aC bf bf (ay ml):=e_
def wC(F:d_ K "by_give" "by_give" ml f fd)(B:Bl mg)(c:lu P w K mg base):bc P w K mg base dC 4 f fd bf (d0 ⟨K,mg⟩ 4 lP):=by
 refine a0 F xq λb A a s H E d=> ?_
 delta oS
 ac_rfl
def xI:aC bf bf (ay mv):=e_
def wz(F:d_ K "by_pass" "by_pass" mv f fd)(B:Bl mg)(d:yz P w K mg base)(c:lu P w K mg base):bc P w K mg base dC 4 f fd bf (d0 ⟨K,mg⟩ 4 lK):=by
 refine a0 F xI λb A a s H E e=> ?_
 delta pU
 ac_rfl
def y4:aC bf bf (ay pL):=e_
def z9(F:d_ K "by_say" "by_say" pL f fd)(B:Bl mg):bc P w K mg base dC 1 f fd bf (d0 ⟨K,mg⟩ 4 oD):=by
 refine a0 F y4 λb A a s H E c=> ?_
 delta tM
 ac_rfl
def nj:aC ["world","scene","hand","row","deed"] bf (ay kH):=e_
def vw(F:d_ K "row_done" "row_done" kH f fd)(B:Bl mg)(d:∀x F,qm.lookup x=some F->eS P w K mg base 10 x bf F)(e:yR P w K mg "DONE_BY" jH):bc P w K mg base dC 11 f fd bf (d0 ⟨K,mg⟩ 4 hZ):=by
 have c:=nj.nd
 refine a0 F nj λb A a s H E g=> ?_
 exact(dt (xa 4 c (CG e rfl (jN (v_ 3) dU) (λ_ _=>rfl)))
  (g7 (m9 (CM d (g.mono (by decide)) rfl (by first|exact Or.inl rfl|exact Or.inr (Or.inl rfl)) (aF (v_ 0) (aF (v_ 1) (aF (v_ 2) (aF (v_ 3) b_)))) (jA (jA (jA (jA w9))))))))
def m_:aC ["world","scene","hand","values","frames","room","deed","row","given","told","outside","came_by"] cU (ay kK):=e_
def vZ(F:d_ K "end_deed" "end_deed" kK f fd)(B:Bl mg)(c:gw P w K mg base)(g:xY P w K mg base)(d:fD P w K mg base)(e:nk P w K mg base):bc P w K mg base dC 4 f fd cU (d0 ⟨K,mg⟩ 3 gS):=by
 have h:=m_.nd
 refine a0 F m_ λb A a s H E i=> ?_
 delta mM
 ac_rfl
def pX:aC ["world","scene","hand","frame","room","program","row","event"] cU (ay mL):=e_
def xr(F:d_ K "step_of" "step_of" mL f fd)(B:Bl mg)(j:cq P w K mg base)(k:rh P w K mg base)(l:fD P w K mg base)(h:we P w K mg base)(e:eJ P w K mg base)(g:wV P w K mg base)(d:pd P w K mg base){b:Tok}(m:mg "OWN"=some (.int (-1) b)):bc P w K mg base dC 12 f fd cU (d0 ⟨K,mg⟩ 3 kS):=by
 have n:=pX.nd
 refine a0 F pX λc A a s H E i=> ?_
 delta ju
 ac_rfl
end
section
variable{P:Program}{w:World}{K:PySem.W.Frag}{mg:Str->Option Value}{base:Heap}{f:Addr}{fd:FuncData}
def hV:aC ["scene","hands","value","row","values","within","late","bells","line"] yN (ay fj):=e_
def mj(F:d_ K "hands_in_rows" "hands_in_rows" fj f fd)(B:Bl mg)(c:qu P w K mg base):bc P w K mg base dC 2 f fd yN (d0 ⟨K,mg⟩ 1 dh):=by
 have d:=hV.nd
 refine a0 F hV λb A a s H E e=> ?_
 delta fU
 ac_rfl
def g8:aC ["world","scene","hand","frame"] cU (ay ff):=e_
def mS(F:d_ K "is_behind_all" "is_behind_all" ff f fd)(B:Bl mg)(d:cq P w K mg base)(e:fD P w K mg base){c:Tok}(g:mg "OWN"=some (.int (-1) c)):bc P w K mg base dC 2 f fd cU (d0 ⟨K,mg⟩ 3 eh):=by
 have h:=g8.nd
 refine a0 F g8 λb A a s H E i=> ?_
 delta fR
 ac_rfl
def nN:aC ["world","scene","held_up"] yL (ay j_):=e_
def vC(F:d_ K "may_step" "may_step" j_ f fd)(B:Bl mg)(c:nW P w K mg base)(d:nT P w K mg base):bc P w K mg base dC 3 f fd yL (d0 ⟨K,mg⟩ 2 jE):=by
 have e:=nN.nd
 refine a0 F nN λb A a s H E g=> ?_
 delta mU
 ac_rfl
 refine dy (N:= ["hand","world","scene","held_up"]) (js:= [none,some 0,some 1,some 2]) (aX.gen rfl rfl rfl rfl rfl rfl) rfl ?_ (λ_ _ _ _=> ?_) (λ_ _ _ _=> ?_) (λ_ _ _ _=> ?_)
 ac_rfl
def xK:aC cU cU (ay me):=e_
def wJ(F:d_ K "stepped" "stepped" me f fd)(B:Bl mg)(e:wI P w K mg base)(c:zy P w K mg base):bc P w K mg base dC 13 f fd cU (d0 ⟨K,mg⟩ 3 gX):=by
 refine a0 F xK λb A a s H E d=> ?_
 delta qA
 ac_rfl
def BI:aC ["_law_script","_law_k","_law_pot_here","_law_world_here","_law_name","_law_rows","_law_out","_law_row","_law_behind","_law_scene","_law_turn","_law_own","_law_event"] BE (ay kU):=e_
def FV(F:d_ K "law" "law" kU f fd)(B:Bl mg)(o:wA P w K mg base)(l:sI P w K mg base)(h:iW P w K mg base)(m:Dz P w K mg base)(d:zU P w K mg base)(e:tO P w K mg base)(n:u6 P w K mg base):bc P w K mg base dC 14 f fd BE (d0 ⟨K,mg⟩ 1 DE):=by
 have b:=BI.nd
 refine a0 F BI λk A c s H E a=> ?_
 have g:=a.units0
 exact(dt (BR PassesOwn.never rfl (AS rfl B.range (E1 Ez (iX (Aa rfl) rfl B.max (by rfl) (aF dU (aF (E1 Fh (iX (z4 rfl) rfl B.min (by rfl) (aF (yw rfl B.len (Gn (v_ 0))) (aF dU b_)))) b_))))) (vo 1 b) (dt (xa 2 b (yO (G0 o a (aF (v_ 0) (aF (v_ 1) b_)))))
  (dt (D1 (nX l a (aF (v_ 2) (aF (Ee dU (nX h a (aF (v_ 2) (aF dU b_)))) b_))) (D6 rfl (lQ (vo 3 b) (lQ (vo 4 b) (lQ (vo 5 b) Bq)))))
  (dt (xa 6 b (yO (Ey rfl rfl B.list rfl B.range (yw rfl B.len (Gn (jN (v_ 3) dU))))))
  (dt (D9 (BH (i:=7) (j:=8) rfl b rfl rfl (by decide) rfl rfl (aF (yO (BX b_)) (aF (yO (BX b_)) b_)) rfl))
  (dt (xa 9 b (nX m a (aF (v_ 3) b_)))
  (dt (xW 5 PassesOwn.never (ye g (Gn (v_ 6))) (dt (Cb (vF (v_ 7) (yK (v_ 6) (nX h a (aF (v_ 2) (aF (yw rfl B.len (Gn (v_ 6))) b_))))))
  (dt (xa 9 b (jN (nX d a (aF (v_ 3) (aF (v_ 9) (aF (jN (v_ 7) (Hg dU)) b_)))) dU))
  (g7 (Bu (BU (Ar (nX e a (aF (v_ 3) (aF (v_ 9) (aF (v_ 4) (aF (vh (aF (v_ 6) (aF (v_ 7) (aF (v_ 8) b_)))) b_))))))) (g7 (m9 Cj)) vW)))))
  (dt (xW 5 PassesOwn.never (ye g (Gn (v_ 7))) (dt (BR PassesOwn.never rfl (AS rfl B.range (Ee (v_ 5) dU)) (vo 10 b) (dt (Bu (BU (Ar (nX e a (aF (v_ 3) (aF (v_ 9) (aF (v_ 4) (aF (vh (aF (v_ 6) (aF (v_ 7) (aF (v_ 8) b_)))) b_))))))) (g7 (m9 Cj)) vW)
  (g7 (xa 9 b (jN (nX d a (aF (v_ 3) (aF (v_ 9) (aF (jN (v_ 7) dU) b_)))) dU)))))
  (g7 (Cb (vF (v_ 8) (yK (v_ 7) dU))))))
  (dt (Bu (BU (Ar (nX e a (aF (v_ 3) (aF (v_ 9) (aF (v_ 4) (aF (vh (aF (v_ 6) (aF (v_ 7) (aF (v_ 8) b_)))) b_))))))) (g7 (m9 Cj)) vW)
  (g7 (BR PassesOwn.never rfl (Hz (Gn (v_ 8))) (vo 11 b) (dt (D1 (nX d a (aF (v_ 3) (aF (v_ 9) (aF (v_ 11) b_)))) (D6 rfl (lQ (vo 9 b) (lQ (vo 12 b) Bq))))
  (g7 (Bu (PW.pt (w_or (A2 a (v_ 12) (vh (aF (v_ 11) (aF dU b_)))) (Hq (A2 a (nX n a (aF (v_ 3) (aF (v_ 9) (aF (v_ 11) b_)))) (vh (aF HD b_)))))) (g7 (m9 Cj)) vW))))))))))))))
  (g7 (m9 Cj)))
end
def all_mk{l:PySem.W.OpenLaw}{w:World}{K:PySem.W.Frag}{h:Heap}{mg:Str->Option Value}{fa f1 f2 f3 f4 f5 f6 f7 f8 f9 k3 a2 a9 i2 q4 a3 e9 l8 b1 q6 l1 a7 c5 n4 Q b3 h6 N H b4 o n2 m1 b8 t C u M l4 c1 R e1 z U r c6 h1 q5 e0 j5 q9 h3 f:Addr}(X:K.In h)(G:h.Ns mainGlobals mg)(o1:mg "law"=some (.ref fa))
  (d1:aS K "_law_pot" kf f1)
  (d2:aS K "_law_take" iV f2)
  (d3:aS K "_law_pick" ji f3)
  (d4:aS K "_law_world" ie f4)
  (d5:aS K "values_of" jq f5)
  (d6:aS K "begun_room" ic f6)
  (d7:aS K "begun" sx f7)
  (d8:aS K "_law_same" iT f8)
  (d9:aS K "hands_at" kb f9)
  (p2:aS K "place_in_a_row" eP k3)
  (r1:aS K "last_frame" iD a2)
  (m2:aS K "program_of" ig a9)
  (b2:aS K "stands" qj i2)
  (e4:aS K "_law_right" ix q4)
  (e6:aS K "names_of" ke a3)
  (h9:aS K "place_of" kr e9)
  (n6:aS K "with_part" jm l8)
  (h0:aS K "with_hand" jb b1)
  (j1:aS K "with_room" i9 q6)
  (e5:aS K "put_thing" iY l1)
  (f0:aS K "value_of_two" fQ a7)
  (o4:aS K "value_of" j2 c5)
  (e8:aS K "reckoned" j7 n4)
  (n8:aS K "by_put" oX Q)
  (a6:aS K "with_last_frame" eA b3)
  (k5:aS K "at_row" pI h6)
  (c3:aS K "by_unless" jx N)
  (n0:aS K "by_go" t5 H)
  (q8:aS K "come_in" mF b4)
  (b5:aS K "by_do" sO o)
  (c4:aS K "bell_of" mf n2)
  (r3:aS K "with_line" i0 m1)
  (l0:aS K "leave" sV b8)
  (l5:aS K "by_wait" mq t)
  (e2:aS K "by_call" m8 C)
  (o3:aS K "by_all" pO u)
  (a8:aS K "by_tell" mY M)
  (q1:aS K "with_pass" jw l4)
  (k1:aS K "taken" tF c1)
  (l7:aS K "by_take" mI R)
  (q2:aS K "given_back" ia e1)
  (g1:aS K "by_give" ml z)
  (h2:aS K "by_pass" mv U)
  (n5:aS K "by_say" pL r)
  (q7:aS K "row_done" kH c6)
  (l6:aS K "end_deed" kK h1)
  (n9:aS K "step_of" mL q5)
  (n7:aS K "hands_in_rows" fj e0)
  (n3:aS K "is_behind_all" ff j5)
  (r2:aS K "may_step" j_ q9)
  (b0:aS K "stepped" me h3)
  {oc kV dc pm cd ct:Value} {od an:Option Addr} {sl:Array (Option Value)} (i5:PySem.W.nsIn K mainGlobals "law"=some (some (.ref f))) (h5:K.lookup f=some ⟨oc,od,.func (PySem.W.fnOf "law" "law" (fu kU) (eB kU) (ay kU) .none kV dc pm an cd ct),sl⟩) (b7:PySem.W.codeIn K cd "law"=true) (k6:PySem.W.keepIn K (.ref f)=true)
  {fY:Tok} (AC:PySem.W.nsIn K mainGlobals "NOBODY"=some (some (.int (-1) fY)))
  {fO:Tok} (GH:PySem.W.nsIn K mainGlobals "OWN"=some (some (.int (-1) fO)))
  {gN:Tok} (zY:PySem.W.nsIn K mainGlobals "HIGHEST"=some (some (.int (9) gN)))
  {rC xD:Nat} {uf sZ ub tW sL um ud ug tE sH qN qQ:Tok} (zu:PySem.W.nsIn K mainGlobals "DONE_BY"=some (some (.ref rC))) (wX:K.lookup rC=some ⟨.type "dict",none,.dict (List.toArray [⟨PyData.keyHash w.params "put",.str "put" uf,.ref Q⟩,⟨PyData.keyHash w.params "unless",.str "unless" sZ,.ref N⟩,⟨PyData.keyHash w.params "go",.str "go" ub,.ref H⟩,⟨PyData.keyHash w.params "do",.str "do" tW,.ref o⟩,⟨PyData.keyHash w.params "wait",.str "wait" sL,.ref t⟩,⟨PyData.keyHash w.params "call",.str "call" um,.ref C⟩,⟨PyData.keyHash w.params "all",.str "all" ud,.ref u⟩,⟨PyData.keyHash w.params "tell",.str "tell" ug,.ref M⟩,⟨PyData.keyHash w.params "take",.str "take" tE,.ref R⟩,⟨PyData.keyHash w.params "give",.str "give" sH,.ref z⟩,⟨PyData.keyHash w.params "pass",.str "pass" qN,.ref U⟩,⟨PyData.keyHash w.params "say",.str "say" qQ,.ref r⟩]) xD,#[]⟩)
  (GK:PySem.W.nsIn K mainGlobals "len"=some none) (C0:PySem.W.nsIn K mainGlobals "tuple"=some none) (EY:PySem.W.nsIn K mainGlobals "list"=some none) (F9:PySem.W.nsIn K mainGlobals "dict"=some none) (HU:PySem.W.nsIn K mainGlobals "set"=some none) (Hx:PySem.W.nsIn K mainGlobals "int"=some none) (HV:PySem.W.nsIn K mainGlobals "str"=some none) (F4:PySem.W.nsIn K mainGlobals "bool"=some none) (Ia:PySem.W.nsIn K mainGlobals "all"=some none) (He:PySem.W.nsIn K mainGlobals "any"=some none) (CU:PySem.W.nsIn K mainGlobals "range"=some none) (GY:PySem.W.nsIn K mainGlobals "zip"=some none) (B0:PySem.W.nsIn K mainGlobals "sorted"=some none) (t8:PySem.W.nsIn K mainGlobals "isinstance"=some none) (HI:PySem.W.nsIn K mainGlobals "min"=some none) (HN:PySem.W.nsIn K mainGlobals "max"=some none) (Gy:PySem.W.nsIn K mainGlobals "abs"=some none) (vD:PySem.W.nsIn K mainGlobals "enumerate"=some none)
  (T:∀ns:List Int,ns.length<=63->∃S',DE [.ref 0] [.frz (ns.map D.int)]=some (.d (.bl true),S')):
  ∃fd:FuncData,(∀(s:Shared) (v:Value),BindsTo s fd ⟨[v],[]⟩ [("_law_script",v)])/\∀base:Heap,K.In base->base.Ns mainGlobals mg->bc l.prog w K mg base dC 14 fa fd BE uP:=by
 have e:=o1.symm.trans (PySem.W.mg_of X G i5)
 cases e
 have k4:=wm (st:=kU) h5 b7 k6
 have O1:=d1.ok1 (ps:=yj) X G
 have O2:=d2.ok1 (ps:=Dp) X G
 have O3:=d3.ok1 (ps:=Bm) X G
 have O4:=d4.ok1 (ps:=CW) X G
 have O5:=d5.ok1 (ps:=vY) X G
 have O6:=d6.ok1 (ps:=uE) X G
 have O7:=d7.ok1 (ps:=yn) X G
 have O8:=d8.ok1 (ps:=xw) X G
 have O9:=d9.ok1 (ps:=vM) X G
 have g2:=p2.ok1 (ps:=cU) X G
 have e3:=r1.ok1 (ps:=vS) X G
 have k7:=m2.ok1 (ps:=yb) X G
 have o0:=b2.ok1 (ps:=cU) X G
 have h4:=e4.ok1 (ps:=yl) X G
 have p3:=e6.ok1 (ps:=vQ) X G
 have r0:=h9.ok1 (ps:=vz) X G
 have i1:=n6.ok1 (ps:=vV) X G
 have c0:=h0.ok1 (ps:=va) X G
 have g0:=j1.ok1 (ps:=ve) X G
 have a4:=e5.ok1 (ps:=x9) X G
 have j4:=f0.ok1 (ps:=u5) X G
 have o5:=o4.ok1 (ps:=sf) X G
 have p4:=e8.ok1 (ps:=yM) X G
 have i:=n8.ok1 (ps:=bf) X G
 have l3:=a6.ok1 (ps:=x8) X G
 have n1:=k5.ok1 (ps:=x_) X G
 have Y:=c3.ok1 (ps:=bf) X G
 have S:=n0.ok1 (ps:=bf) X G
 have g4:=q8.ok1 (ps:=yh) X G
 have n:=b5.ok1 (ps:=bf) X G
 have k2:=c4.ok1 (ps:=yc) X G
 have h7:=r3.ok1 (ps:=yC) X G
 have b6:=l0.ok1 (ps:=ya) X G
 have I:=l5.ok1 (ps:=bf) X G
 have P:=e2.ok1 (ps:=bf) X G
 have a1:=o3.ok1 (ps:=bf) X G
 have A:=a8.ok1 (ps:=bf) X G
 have g3:=q1.ok1 (ps:=vc) X G
 have q3:=k1.ok1 (ps:=yP) X G
 have J:=l7.ok1 (ps:=bf) X G
 have m0:=q2.ok1 (ps:=yt) X G
 have y:=g1.ok1 (ps:=bf) X G
 have j:=h2.ok1 (ps:=bf) X G
 have L:=n5.ok1 (ps:=bf) X G
 have l2:=q7.ok1 (ps:=bf) X G
 have c2:=l6.ok1 (ps:=cU) X G
 have h8:=n9.ok1 (ps:=cU) X G
 have p1:=n7.ok1 (ps:=yN) X G
 have e7:=n3.ok1 (ps:=cU) X G
 have o2:=r2.ok1 (ps:=yL) X G
 have a5:=b0.ok1 (ps:=cU) X G
 have gM:=PySem.W.mg_of X G AC
 have c:=PySem.W.mg_of X G GH
 have jC:=PySem.W.mg_of X G zY
 have mE:yR l.prog w K mg "DONE_BY" jH:=Bo (PySem.W.mg_of X G zu) wX (.cons i.m (.cons Y.m (.cons S.m (.cons n.m (.cons I.m (.cons P.m (.cons a1.m (.cons A.m (.cons J.m (.cons y.m (.cons j.m (.cons L.m .nil)))))))))))) (by decide +kernel)
 have B:Bl mg:=⟨QFq X G GK,QFq X G C0,QFq X G EY,QFq X G F9,QFq X G HU,QFq X G Hx,QFq X G HV,QFq X G F4,QFq X G Ia,QFq X G He,QFq X G CU,QFq X G GY,QFq X G B0,QFq X G t8,QFq X G HI,QFq X G HN,QFq X G Gy,QFq X G vD⟩
 refine⟨PySem.W.fnOf "law" "law" (fu kU) (eB kU) (ay kU) .none kV dc pm an cd ct,λs v=>.of_eq rfl,λbase _ _=> ?_⟩
 have Z:Pk l.prog w base:=⟨⟩
 have ku:=O1.cal Z λ_ F _ _ _=>uN F B
 have cM:=O2.cal Z λ_ F _ _ _=>uq F B
 have nE:=O3.cal Z λ_ F _ _ _=>sY F B cM
 have ik:=O4.cal Z λ_ F _ _ _=>qX F B cM nE
 have gB:=O5.cal Z λ_ F _ _ _=>t9 F B
 have kW:=O6.cal Z λ_ F _ _ _=>qU F B gB gM
 have sr:=O7.cal Z λ_ F _ _ _=>Br F B gB kW c
 have jc:=O8.cal Z λ_ F b k m=>kP F B b k m 10
 have iq:=O9.cal Z λ_ F _ _ _=>uS F B
 have gV:=g2.cal Z λ_ F _ _ _=>lI F B iq
 have a:=e3.cal Z λ_ F _ _ _=>qK F B
 have cx:=k7.cal Z λ_ F _ _ _=>qI F B c
 have je:=o0.cal Z λ_ F _ _ _=>zt F B gV a cx c
 have ed:=h4.cal Z λ_ F _ _ _=>qO F B jc je
 have eL:=p3.cal Z λ_ F _ _ _=>uL F B
 have q:=r0.cal Z λ_ F _ _ _=>vR F B eL
 have bR:=i1.cal Z λ_ F _ _ _=>uh F B
 have cN:=c0.cal Z λ_ F _ _ _=>tY F B bR
 have bQ:=g0.cal Z λ_ F _ _ _=>tR F B bR
 have gy:=a4.cal Z λ_ F _ _ _=>sC F B a q bR bQ eL cN c
 have gc:=j4.cal Z λ_ F _ _ _=>oa F B jC
 have j0:=o5.cal Z λ_ F b k m=>nJ F B gc b k m 6
 have g:=p4.cal Z λ_ F _ _ _=>vq F B a eL j0 c
 have BQ:=i.cal Z λ_ F _ _ _=>zc F B gy g
 have c_:=l3.cal Z λ_ F _ _ _=>kA F B cN
 have gQ:=n1.cal Z λ_ F _ _ _=>yY F B a c_
 have vB:=Y.cal Z λ_ F _ _ _=>sM F B g gQ
 have Dd:=S.cal Z λ_ F _ _ _=>BB F B gQ
 have jG:=g4.cal Z λ_ F _ _ _=>xf F B bQ gM
 have Dh:=n.cal Z λ_ F _ _ _=>A1 F B q g jG cN
 have fL:=k2.cal Z λ_ F _ _ _=>wF F B a q
 have dX:=h7.cal Z λ_ F _ _ _=>tH F B bQ bR
 have oJ:=b6.cal Z λ_ F _ _ _=>A_ F B bQ gM
 have y7:=I.cal Z λ_ F _ _ _=>xi F B fL g dX oJ
 have zP:=P.cal Z λ_ F _ _ _=>wG F B fL dX bQ
 have Ao:=a1.cal Z λ_ F _ _ _=>y2 F B fL dX
 have zS:=A.cal Z λ_ F _ _ _=>wB F B g c_ a
 have gx:=g3.cal Z λ_ F _ _ _=>sS F B bR
 have oG:=q3.cal Z λ_ F _ _ _=>AJ F B q gx
 have zd:=J.cal Z λ_ F _ _ _=>wa F B oG
 have fB:=m0.cal Z λ_ F _ _ _=>qJ F B q gx jC
 have zr:=y.cal Z λ_ F _ _ _=>wC F B fB
 have zR:=j.cal Z λ_ F _ _ _=>wz F B oG fB
 have B2:=L.cal Z λ_ F _ _ _=>z9 F B
 have qc:∀x F,qm.lookup x=some F->eS l.prog w K mg base 10 x bf F:=by
  refine Am λp hp=> ?_
  simp only[qm,Qsq,QXq,or_false] at hp
  rcases hp with rfl|rfl|rfl|rfl|rfl|rfl|rfl|rfl|rfl|rfl|rfl|rfl
  ·exact BQ.mono (by decide)
  ·exact vB.mono (by decide)
  ·exact Dd.mono (by decide)
  ·exact Dh.mono (by decide)
  ·exact y7.mono (by decide)
  ·exact zP.mono (by decide)
  ·exact Ao.mono (by decide)
  ·exact zS.mono (by decide)
  ·exact zd.mono (by decide)
  ·exact zr.mono (by decide)
  ·exact zR.mono (by decide)
  ·exact B2.mono (by decide)
 have pM:=l2.cal Z λ_ F _ _ _=>vw F B qc mE
 have ql:=c2.cal Z λ_ F _ _ _=>vZ F B cN oJ cx gy
 have se:=h8.cal Z λ_ F _ _ _=>xr F B a jG cx ql g pM gQ c
 have iM:=p1.cal Z λ_ F _ _ _=>mj F B iq
 have iK:=e7.cal Z λ_ F _ _ _=>mS F B a cx c
 have p6:=o2.cal Z λ_ F _ _ _=>vC F B iM iK
 have gU:=a5.cal Z λ_ F _ _ _=>wJ F B p6 se
 exact CA (FV k4 B ku ik cM sr gU ed je) T
end W28
namespace DL
open PySem PySem.Spec L2
def pB{a:cE}{S:aA}{Q:Bool->aA->Prop}(q:Q true S):E dS a S Q:=⟨_,_,rfl,q⟩
section
variable{S:aA}
def J6{i j:Int}{Q:D->Prop}(q:Q (.int (i+j))):Op (bX S (.int i) (.int j)) Q:=⟨_,rfl,q⟩
def c9{i j:List D}{Q:D->Prop}(h:i.length+j.length<=sizeLine)(q:Q (.tup (i++j))):Op (bX S (.tup i) (.tup j)) Q:=⟨_,by simp only[bX];rw[Qhq h],q⟩
def Jk{k:Int->Int->D}{i j:Int}{Q:D->Prop}(q:Q (k i j)):Op (intD (λ_ _=>True) k S (.int i) (.int j)) Q:=⟨_,by simp only[intD,if_true],q⟩
def pe{i j:Int}{Q:D->Prop}(h:0<j)(q:Q (.int (i%j))):Op (oh S (.int i) (.int j)) Q:=⟨_,by simp only[oh,intD];rw[Qhq h],q⟩
def Aw{i j:Int}{Q:D->Prop}(h:Bk i j)(q:Q (.int (i/j))):Op (u3 S (.int i) (.int j)) Q:=⟨_,by simp only[u3,intD];rw[Qhq h],q⟩
def qY{i j:Int}{Q:D->Prop}(h:Di i j)(q:Q (.int (i*j))):Op (kB S (.int i) (.int j)) Q:=⟨_,by simp only[kB,intD];rw[Qhq h.ok],q⟩
def ar{ds:List D}{i:Int}{d:D}{Q:D->Prop}(h:lW ds i=some d)(q:Q d):Op (sG S (.tup ds) (.int i)) Q:=⟨_,h,q⟩
def hX{k:Nat}{ds:List D}{i:Int}{d:D}{Q:D->Prop}(a:S[k]?=some (.lst ds))(h:lW ds i=some d)(q:Q d):Op (sG S (.ref k) (.int i)) Q:=⟨_,by simp only[sG,a];exact h,q⟩
def cD{ds:List D}{Q:List D×Tag->Prop}(q:Q (ds,.tu)):Op (pz S (.tup ds)) Q:=⟨_,rfl,q⟩
def eI{k:Nat}{ds:List D}{Q:List D×Tag->Prop}(a:S[k]?=some (.lst ds))(q:Q (ds,.st k)):Op (pz S (.ref k)) Q:=⟨_,by simp only[pz,a],q⟩
def Jn{α:Type}{o:Option α}{d:α}{Q:α->Prop}(h:o=some d)(q:Q d):Op o Q:=⟨d,h,q⟩
end
def aZ{b:Bool}{p q:Prop}(c:b=true->p)(a:b=false->q):if b=true then p else q:=by
 cases b with
 |true=>exact c rfl
 |false=>exact a rfl
end DL
local macro_rules|`(tactic|symm)=>do
 let mut a:Array (Lean.TSyntax `Lean.Parser.Tactic.tacticSeq):= #[]
 for s in (["bz","fA","nB","Ji","B8","KU","CC","bW","Kz","Cs","Ga","mZ","rO","HJ","sF","DW","KM","nM","B7","J4","JK","Gg","yx","Bn","Iv","gK","Ib","F0","EF","Be","J3","pB","aL","KS","Au","sN","J6","Jk","cD"]:List String) do a:=a.push (←`(tacticSeq|refine $(Lean.mkIdent (.str (.str .anonymous "DL") s)) ?_))
 `(tactic|repeat(first|(with_reducible first $[| $a]*)|((with_reducible refine DL.bP (d := ?_) ?_ ?_); rotate_left; rfl)|dsimp only))
local macro_rules|`(tactic|apply $e)=>`(tactic|(refine $e;symm))
namespace W28
open PySem PySem.Spec L2 DL
def l9(a b c:Int):O:=.lst [.int a,.int b,.int c]
def zO{S:aA}{k:Nat}{a b n m:Int}{Q:Res->aA->Prop}(e:S[k]?=some (l9 a b n))(f:0<m)(t:m<1000000)
  (h:∀(d q l p:Int),0<=d->d<m->Q (.d (.int d)) (S.set k (l9 q l p))):Fn bA [.ref k,.int m] S Q:=by
 have r:k<S.length:=(gQs.mp e).1
 have j:∀(o:O),(S.set k o).take S.length=S.set k o:=λo=>by rw[List.take_of_length_le];simp
 refine bD ?_
 unfold kc
 symm
 refine hX e rfl ?_
 symm
 refine aZ (λc=> ?_) (λc=> ?_)
 ·symm
  refine hX e rfl ?_
  symm
  refine pe f ?_
  symm
  refine hX e rfl ?_
  symm
  refine Aw ⟨f,by omega⟩ ?_
  symm
  refine⟨_,_,_,_,rfl,rfl,e,rfl,?_⟩
  symm
  refine fH (rV (by rfl)) (j _) (λ_ z=>by cases z) rfl ?_
  exact h _ _ _ _ (Int.emod_nonneg _ (by omega)) (Int.emod_lt_of_pos _ f)
 ·symm
  refine⟨_,_,_,_,rfl,rfl,e,by decide,rfl,?_⟩
  symm
  refine⟨_,_,_,rfl,e,rfl,?_⟩
  have i:∀o:O,(S.set k o)[k]?=some o:=λo=>by rw[Qyq r]
  symm
  refine hX (i _) rfl ?_
  symm
  refine qY (.inr ⟨by decide,by decide⟩) ?_
  symm
  refine hX (i _) rfl ?_
  refine qY (.inl ⟨by decide,by decide⟩) ?_
  symm
  refine pe (by decide) ?_
  generalize g:(b*69069+9973*_+5)%2305843009213693921=mx
  have s:0<=mx:=by rw[←g];exact Int.emod_nonneg _ (by decide)
  have u:mx<2305843009213693921:=by rw[←g];exact Int.emod_lt_of_pos _ (by decide)
  symm
  refine pe (by decide) ?_
  symm
  refine hX (i _) rfl ?_
  refine qY (.inl ⟨by decide,by decide⟩) ?_
  symm
  refine qY (.inl ⟨by omega,by omega⟩) ?_
  symm
  refine pe (by decide) ?_
  symm
  refine⟨_,_,_,_,rfl,rfl,i _,rfl,?_⟩
  symm
  refine hX (by rw[List.set_set];exact i _) rfl ?_
  symm
  refine Aw ⟨by decide,by decide⟩ ?_
  symm
  refine pe f ?_
  symm
  rw[List.set_set]
  refine fH (rV (by rfl)) (j _) (λ_ z=>by cases z) rfl ?_
  exact h _ _ _ _ (Int.emod_nonneg _ (by omega)) (Int.emod_lt_of_pos _ f)
structure Ex(k:Nat)(S S':aA):Prop where
 len:S.length<=S'.length
 keep:∀(j:Nat) (o:O),j≠k->S[j]?=some o->S'[j]?=some o
 pot:∃a b c,S'[k]?=some (l9 a b c)
def Ex.refl{k:Nat}{S:aA}{a b c:Int}(h:S[k]?=some (l9 a b c)):Ex k S S:=⟨Qmq _,λ_ _ _ h=>h,_,_,_,h⟩
def Ex.set{k:Nat}{S d:aA}{a b c:Int}(x:Ex k S d):Ex k S (d.set k (l9 a b c)):=by
 obtain⟨_,_,_,h⟩:=x.pot
 refine⟨by simpa using x.len,λj o n h=> ?_,a,b,c,Qyq (gQs.mp h).1⟩
 rw[QKq (Ne.symm n)]
 exact x.keep j o n h
def Ex.app{k:Nat}{S d G:aA}(x:Ex k S d):Ex k S (d++G):=by
 obtain⟨a,b,c,h⟩:=x.pot
 refine⟨by rw[lQa];have:=x.len;omega,λj o n h=> ?_,a,b,c,?_⟩
 ·have:=x.keep j o n h
  rw[QHq (gQs.mp this).1]
  exact this
 ·rw[QHq (gQs.mp h).1]
  exact h
def Ex.put{k r:Nat}{S d:aA}{o:O}(x:Ex k S d)(g:S.length<=r)(i:k<S.length):Ex k S (d.set r o):=by
 obtain⟨a,b,c,h⟩:=x.pot
 refine⟨by simpa using x.len,λj e n h=> ?_,a,b,c,?_⟩
 ·have f:=(gQs.mp h).1
  rw[QKq (by omega)]
  exact x.keep j e n h
 ·rw[QKq (by omega)]
  exact h
def Ex.lt{k:Nat}{S d:aA}(x:Ex k S d):k<d.length:=by
 obtain⟨a,b,c,h⟩:=x.pot
 exact(gQs.mp h).1
def dr{S G:aA}{j:Nat}{o:O}(h:S[j]?=some o):(S++G)[j]?=some o:=by
 rw[QHq (gQs.mp h).1]
 exact h
def bN{S:aA}{o:O}:(S++ [o])[S.length]?=some o:=by simp
def iE{S:aA}{k j:Nat}{o o':O}(n:j≠k)(h:S[j]?=some o):(S.set k o')[j]?=some o:=by
 rw[QKq (Ne.symm n)]
 exact h
def gH{S:aA}{j:Nat}{o o':O}(h:S[j]?=some o):(S.set j o')[j]?=some o':=Qyq (gQs.mp h).1
def Ex.clean{k:Nat}{S f:aA}(x:Ex k S f)(l:k<S.length):lR S f/\∃a b c,f.take S.length=S.set k (l9 a b c):=by
 obtain⟨a,b,c,h⟩:=x.pot
 have g:∀j,j<S.length->f[j]?=(S.set k (l9 a b c))[j]? :=λj d=>by
  by_cases e:j=k
  ·subst e
   rw[h,Qyq d]
  ·rw[QKq (Ne.symm e),x.keep j _ e (gQe d),gQe d]
 refine⟨⟨x.len,λj o d e=> ?_⟩,a,b,c,?_⟩
 ·by_cases i:j=k
  ·subst i
   rw[h] at e
   cases e
   exact .inr rfl
  ·rw[x.keep j _ i (gQe d)] at e
   rw[gQe d]
   exact .inl e
 ·apply List.ext_getElem?
  intro j
  by_cases d:j<S.length
  ·rw[List.getElem?_take_of_lt d]
   exact g j d
  ·rw[List.getElem?_eq_none (by rw[Qxq];omega),List.getElem?_eq_none (by simp;omega)]
def D_{k:Nat}{S e:aA}{d:D}{Q:Res->aA->Prop}(x:Ex k S e)(i:k<S.length)(hd:∀k,d≠.ref k)(h:bB S.length d=true)(q:∀a b c,Q (.d d) (S.set k (l9 a b c))):Op (settle S d e) λp=>Q p.1 p.2:=by
 obtain⟨f,a,b,c,g⟩:=x.clean i
 exact fH f g hd h (q a b c)
def fw{S g:aA}{k:Nat}{m:Int}{Q:Res->aA->Prop}(x:Ex k g S)(j:0<m)(l:m<1000000)
  (h:∀(d:Nat) (e:aA),(d:Int)<m->Ex k g e->Ex k S e->e.length=S.length->Q (.d (.int d)) e):Fn bA [.ref k,.int m] S Q:=by
 obtain⟨a,b,c,f⟩:=x.pot
 refine zO f j l λd r p q o i=> ?_
 obtain⟨n,rfl⟩:∃n:Nat,d=n:=⟨d.toNat,by omega⟩
 exact h n _ i x.set (Ex.refl f).set (by simp)
def aI{α:Type}{xs:List α}{j:Nat}{x:α}(h:xs[j]?=some x):lW xs (j:Int)=some x:=by
 have a:=(gQs.mp h).1
 unfold lW yV
 rw[Qhq (by omega),Qhq (by omega)]
 simpa using h
def DF{S n:aA}{k i:Nat}{xs:List D}{Q:Res->aA->Prop}(x:Ex k n S)(hi:i≠k)(m:S[i]?=some (.lst xs))(s:0<xs.length)(t:xs.length<1000)(o:∀d∈xs,(∀k,d≠.ref k)/\bB 0 d=true)
  (f:∀d∈xs,bB S.length d=true)
  (h:∀(d:D) (e:aA),d∈xs->Ex k n e->Ex k S e->e.length=S.length->Q (.d d) e):Fn ij [.ref k,.ref i] S Q:=by
 have y:Ex k S S:=by obtain⟨a,b,c,r⟩:=x.pot;exact Ex.refl r
 refine bD ?_
 unfold km
 symm
 apply eI m ?_
 refine fw y (by show(0:Int)<xs.length;omega) (by show(xs.length:Int)<1000000;omega) λd e p l u q=> ?_
 dsimp only
 have g:d<xs.length:=by have:(d:Int)<(xs.length:Int):=p;omega
 refine hX (l.keep _ _ hi m) (aI (gQe g)) ?_
 have j:=List.getElem_mem g
 refine D_ l x.lt (o _ j).1 (f _ j) λa b c=> ?_
 exact h _ _ j x.set y.set (by simp)
end W28
namespace DL
open PySem PySem.Spec L2
mutual
theorem lC{m:Nat}:∀{d:D},bB 0 d=true->bB m d=true
 |.non,_=>rfl
 |.bl _,_=>rfl
 |.int _,_=>rfl
 |.str _,_=>rfl
 |.tup ds,h=>by simp only[bB] at h⊢;exact g6 h
 |.ref k,h=>by simp[bB] at h
 |.fn _,_=>rfl
theorem g6{m:Nat}:∀{ds:List D},bo 0 ds=true->bo m ds=true
 | [],_=>rfl
 | d::ds,h=>by
   simp only[bo,QCq] at h⊢
   exact⟨lC h.1,g6 h.2⟩
end
theorem oA{m:Nat}:∀{ds:List D},(∀d∈ds,bB m d=true)->bo m ds=true
 | [],_=>rfl
 | d::ds,h=>by
   simp only[bo,QCq]
   exact⟨h d (QBq ..),oA λe a=>h e (Qpq _ a)⟩
def aP{α:Type}{m:Nat}{f:α->D}{l:List α}(h:∀a∈l,bB m (f a)=true):bo m (l.map f)=true:=oA λd c=>by
 obtain⟨a,b,rfl⟩:=Qkq.mp c
 exact h a b
end DL
namespace W28
open PySem PySem.Spec L2 DL
def HC{n j:Nat}(h:j<n)(a:n<1000):seqIndex? (j:Int) n=some j:=(uo (by unfold yV;rw[Qhq (by omega),Qhq (by omega)];simp)).1
end W28
namespace DL
open PySem PySem.Spec L2
def D8{a:cE}{S:aA}{f g:et}{Q:List D->aA->Prop}(h:E f a S λp b=>E g a b λr S2=>(p.2.isM=true/\r.2.isM=true/\p.2.stays S2 p.1/\p.1.length+r.1.length<=sizeLine)/\Q (p.1++r.1) S2):E (AK f g) a S Q:=by
 obtain⟨p,b,c,r,S2,d,l,q⟩:=h
 exact⟨_,S2,by unfold AK;rw[c];simp only[Qbq];rw[d];simp only[Qbq];rw[Qhq l],q⟩
def fZ{S:aA}{i j:Int}{Q:D->Prop}(q:Q (.bl (decide (i=j)))):Op (gL false S (.int i) (.int j)) Q:=⟨_,by simp[gL,rL,xA],q⟩
def gE{S:aA}{i j:Str}{Q:D->Prop}(q:Q (.bl (decide (i=j)))):Op (gL false S (.str i) (.str j)) Q:=⟨_,by simp[gL,rL,xA],q⟩
def dA{a:cE}{S:aA}{n:Nat}{g:nR}{ds:List D}{Q:cE->aA->Prop}(d:ds.length=n)(h:IK g ds a S Q):Tg (iP (nG n g)) (.tup ds) a S Q:=by
 obtain⟨b,c,e,q⟩:=h
 exact⟨b,c,by show nG n g ds a S=_;unfold nG;rw[Qhq d];exact e,q⟩
def aQ{a:cE}{S:aA}{Q:cE->aA->Prop}(q:Q a S):IK c7 [] a S Q:=⟨_,_,rfl,q⟩
def au{b:cE}{S:aA}{f:j8}{g:nR}{d:D}{ds:List D}{Q:cE->aA->Prop}(h:Tg f d b S λa e=>IK g ds a e Q):IK (aE f g) (d::ds) b S Q:=by
 obtain⟨a,e,i,c,j,k,q⟩:=h
 exact⟨c,j,by show(f d b S).bind _=_;rw[i];exact k,q⟩
end DL
namespace W28
open PySem PySem.Spec L2 DL
def ops:List Str:= ["plus","minus","less","same","both"]
inductive Tr where
 |num (n:Nat)|word (x:Str)|waits (b:Str)|no (t:Tr)|two (o:Str) (a b:Tr)
def Tr.d:Tr->D
 |.num n=>.int n
 |.word x=>.str x
 |.waits b=>.tup [.str "waits",.str b]
 |.no t=>.tup [.str "not",t.d]
 |.two o a b=>.tup [.str o,a.d,b.d]
def Tr.Ok(ws bs:List Str):Tr->Prop
 |.num n=>n<=9
 |.word x=>x∈ws
 |.waits b=>b∈bs
 |.no t=>t.Ok ws bs
 |.two o a b=>o∈ops/\a.Ok ws bs/\b.Ok ws bs
def Tr.dep:Tr->Nat
 |.num _=>1
 |.word _=>1
 |.waits _=>1
 |.no t=>t.dep+1
 |.two _ a b=>max a.dep b.dep+1
theorem Tr.low:∀t:Tr,bB 0 t.d=true
 |.num _=>rfl
 |.word _=>rfl
 |.waits _=>rfl
 |.no t=>by simp only[Tr.d,bB,bo];rw[t.low];rfl
 |.two _ a b=>by simp only[Tr.d,bB,bo];rw[a.low,b.low];rfl
inductive Rw where
 |put (x:Str) (t:Tr)|unl (t:Tr) (n:Nat)|go (n:Nat)|do_ (g:Option Str) (r d:Str) (t:Tr)|wait (b:Str) (t:Tr)|call (b:Str)|all (b:Str)|tell (t:Tr)
 |take (p:Str)|give (p:Str)|pass (p q:Str)|say (t:Tr)
def Fu:Option Str->D
 |none=>.non
 |some x=>.str x
def Rw.d:Rw->D
 |.put x t=>.tup [.str "put",.str x,t.d]
 |.unl t n=>.tup [.str "unless",t.d,.int n]
 |.go n=>.tup [.str "go",.int n]
 |.do_ g r d t=>.tup [.str "do",Fu g,.str r,.str d,t.d]
 |.wait b t=>.tup [.str "wait",.str b,t.d]
 |.call b=>.tup [.str "call",.str b]
 |.all b=>.tup [.str "all",.str b]
 |.tell t=>.tup [.str "tell",t.d]
 |.take p=>.tup [.str "take",.str p]
 |.give p=>.tup [.str "give",.str p]
 |.pass p q=>.tup [.str "pass",.str p,.str q]
 |.say t=>.tup [.str "say",t.d]
structure Sc where
 own:Bool
 ws:List Str
 ps:List Str
 bs:List Str
 gs:List (Str×Str)
 ts:List Str
def Fd(a:Sc)(t:Tr):Prop:=t.Ok a.ws a.bs/\t.dep<=4
def Rw.Ok(a:Sc)(n:Nat):Rw->Prop
 |.put x t=>x∈a.ps/\Fd a t
 |.unl t m=>Fd a t/\m<=n
 |.go m=>m<=n
 |.do_ g r d t=>(∀x,g=some x->x∈a.ps)/\(r,d)∈a.gs/\Fd a t
 |.wait b t=>a.own=false/\b∈a.bs/\Fd a t
 |.call b=>a.own=false/\b∈a.bs
 |.all b=>a.own=false/\b∈a.bs
 |.tell t=>a.own=false/\Fd a t
 |.take p=>a.own=true/\p∈a.ts
 |.give p=>a.own=true/\p∈a.ts
 |.pass p q=>a.own=true/\p∈a.ts/\q∈a.ts
 |.say t=>a.own=true/\Fd a t
theorem Rw.low(r:Rw):bB 0 r.d=true:=by
 cases r with
 |do_ g r d t=>cases g <;>simp only[Rw.d,bB,bo,Fu,t.low,Bool.and_true,Bool.true_and]
 |_=>simp only[Rw.d,bB,bo,Tr.low,Bool.and_true,Bool.true_and]
def FF(b:Sc)(a:List Rw):Prop:=∀r∈a,r.Ok b a.length
end W28
namespace DL
open PySem PySem.Spec L2
def G5{b:cE}{S:aA}{f:aW}{g:et}{Q:D->aA->Prop}(h:E f b S λx c=>∃k a,x=.ref k/\c[k]?=some (.lst a)/\E g b c λp S2=>∃ds,S2[k]?=some (.lst ds)/\(p.2.isM=true/\ds.length+p.1.length<=sizeLine)/\Q .non (S2.set k (.lst (ds++p.1)))):E (B_ f g) b S Q:=by
 obtain⟨x,c,d,k,a,rfl,h1,p,S2,e2,ds,h2,h3,q⟩:=h
 exact⟨_,_,by unfold B_;rw[d];simp only[Qbq,e2,h1,h2];rw[Qhq h3],q⟩
def t6{b:cE}{S:aA}{f g:aW}{Q:D->aA->Prop}(h:E f b S λd a=>∃k,d=.bl k/\if k=true then E g b a Q else Q (.bl false) a):E (uR f g) b S Q:=by
 obtain⟨d,a,c,k,rfl,q⟩:=h
 cases k with
 |true=>obtain⟨j,e,i,q⟩:=(q:E g b a Q);exact⟨j,e,by unfold uR;rw[c];exact i,q⟩
 |false=>exact⟨_,a,by unfold uR;rw[c];rfl,q⟩
def wQ{ds:List D}{y:D}{Q:List D×D->Prop}(h:ds.length<sizeLine)(q:Q (ds++ [y],.non)):Op (vk ds [y]) Q:=⟨_,by simp only[vk];rw[Qhq h],q⟩
end DL
namespace W28
open PySem PySem.Spec L2 DL
def mh:List Str:= ["given"]
end W28
namespace DL
open PySem PySem.Spec L2
def Jg{b a:cE}{d:D}(h:b.set 0 none=a.set 0 none):b.set 0 (some d)=a.set 0 (some d):=by
 have:=congrArg (λc:cE=>c.set 0 (some d)) h
 simpa using this
def FX{i:cE}{S:aA}{js:List (Option Nat)}{f:et}{e:aW}{Q:List D->aA->Prop}(F:D->D)(h:E f i S λp c=>p.2.stays c p.1/\p.1.length<=1000/\(∀d∈p.1,E e ((lO js i).set 0 (some d)) c λy S2=>y=F d/\S2=c)/\Q (p.1.map F) c):
  E (dm js (qF f) (bK 0) dS e) i S Q:=by
 refine pE (sN (h.mono λp c o=> ?_))
 obtain⟨k,t,s,q⟩:=o
 refine⟨λn a g b=>g=c/\b=(p.1.take n).map F/\a.set 0 none=(lO js i).set 0 none,⟨rfl,rfl,rfl⟩,λn a g b h=>by rw[h.1];exact k,λn d a g b j h=> ?_,λa g b h=> ?_⟩
 ·obtain⟨rfl,rfl,h3⟩:=h
  refine aL (pB ?_)
  rw[Qhq rfl,Jg h3]
  refine(s d (mQg j)).mono λy S2 l=> ?_
  obtain⟨r,m⟩:=l
  subst r m
  have u:=(gQs.mp j).1
  refine⟨?_,rfl,?_,by simp⟩
  ·rw[lQm,Qxq]
   exact aH (by omega)
  ·rw[QYq,j]
   simp
 ·obtain⟨rfl,rfl,_⟩:=h
  rw[QEq]
  exact q
end DL
namespace W28
open PySem PySem.Spec L2 DL
def uu(p:Str×Nat):D:=.tup [.str p.1,.int p.2]
def CQ(p:Str×Str):D:=.tup [.str p.1,.str p.2]
def sj(p:Str×List Rw):D:=.tup [.str p.1,.tup (p.2.map Rw.d)]
structure Rm where
 name:Str
 ah:Str
 ao:List (Str×Nat)
 aa:List (Str×Str)
 ae:List (Str×List Rw)
def Rm.d(r:Rm):D:=.tup [.str r.name,.str r.ah,.tup (r.ao.map uu),.tup (r.aa.map CQ),.tup (r.ae.map sj)]
structure HK(gs:List (Str×Str))(r:Rm):Prop where
 mn:r.ah="at once" \/r.ah="when free"
 tv:∀p∈r.ao,p.2<=9
 l1:r.ao.length<=6
 l2:r.aa.length<=6
 l3:r.ae.length<=6
 bv:∀p∈r.aa,p.2="row" \/p.2="turns"
 pr:∀p∈r.ae,FF ⟨false,r.ao.map (·.1)++mh,r.ao.map (·.1),r.aa.map (·.1),gs,[]⟩ p.2/\p.2.length<=12
def Aq(p:Str×List Rw):bB 0 (sj p)=true:=by
 simp only[sj,bB,bo,Bool.and_true,Bool.true_and]
 exact aP λr _=>r.low
def Rm.low(r:Rm):bB 0 r.d=true:=by
 simp only[Rm.d,bB,bo,Bool.and_true,Bool.true_and,QCq]
 exact⟨aP λ_ _=>rfl,aP λ_ _=>rfl,aP λp _=>Aq p⟩
end W28
namespace DL
open PySem PySem.Spec L2
end DL
namespace W28
open PySem PySem.Spec L2 DL
end W28
namespace DL
open PySem PySem.Spec L2
theorem FR{c:h_}{b:cG}{Q:Out->Prop}(I:Nat->cE->aA->Prop)(g:∀m a S,I m a S->E c a S λk f=>if k=true then∃e,m=e+1/\T b a f λo=>match o with|.nx d S2=>I e d S2|_=>False else Q (.nx a f)):
  ∀(n m:Nat) (a:cE) (S:aA),m<n->I m a S->T (Bt c b n) a S Q
 |0,_,_,_,h,_=>absurd h (Nat.not_lt_zero _)
 | n+1,m,a,S,h,hi=>by
   obtain⟨k,f,i,q⟩:=g m a S hi
   cases k with
   |false=>exact⟨_,by simp only[Bt];rw[i];rfl,q⟩
   | true=>
     obtain⟨e,rfl,o,e2,q⟩:=(q:∃e,m=e+1/\T b a f _)
     cases o with
     | nx d S2=>
       obtain⟨o,j,q⟩:=FR I g n e d S2 (by omega) q
       exact⟨o,by simp only[Bt];rw[i];simp only[Qbq,if_true];rw[e2];exact j,q⟩
     |_=>exact q.elim
end DL
namespace W28
open PySem PySem.Spec L2 DL
def eg(a:List Rm):List (Str×Str):=a.flatMap λr=>r.ae.map λp=>(r.name,p.1)
def lJ(p:List (Str×Nat)×List Rw):D:=.tup [.tup (p.1.map uu),.tup (p.2.map Rw.d)]
structure cC where
 aj:List Rm
 ai:List (Str×Nat)
 ak:List (Str×Nat)
 af:List (List (Str×Nat)×List Rw)
def cC.d(w:cC):D:=.tup [.tup (w.aj.map Rm.d),.tup (w.ai.map uu),.tup (w.ak.map uu),.tup (w.af.map lJ)]
structure F6(gs:List (Str×Str))(ak ai:List Str)(h:List (Str×Nat)×List Rw):Prop where
 tv:∀p∈h.1,p.2<=9
 l1:h.1.length<=6
 l2:h.2.length<=9
 l0:0<h.2.length
 pr:FF ⟨true,h.1.map (·.1)++ak,h.1.map (·.1)++ak,[],gs,ai⟩ h.2
structure iI(w:cC):Prop where
 nd:(w.aj.map (·.name)).Nodup
 l1:w.aj.length<=3
 l2:w.ai.length<=6
 l3:w.ak.length<=6
 l4:w.af.length<=4
 l0:0<w.af.length
 pv:∀p∈w.ai,p.2<=9
 sv:∀p∈w.ak,p.2<=9
 rm:∀r∈w.aj,HK (eg w.aj) r
 hd:∀h∈w.af,F6 (eg w.aj) (w.ak.map (·.1)) (w.ai.map (·.1)) h
def B1(p:List (Str×Nat)×List Rw):bB 0 (lJ p)=true:=by
 simp only[lJ,bB,bo,Bool.and_true,Bool.true_and,QCq]
 exact⟨aP λ_ _=>rfl,aP λr _=>r.low⟩
def cC.low(w:cC):bB 0 w.d=true:=by
 simp only[cC.d,bB,bo,Bool.and_true,Bool.true_and,QCq]
 exact⟨aP λr _=>r.low,aP λ_ _=>rfl,aP λ_ _=>rfl,aP λp _=>B1 p⟩
end W28
namespace DL
open PySem PySem.Spec L2
def ER{k:cE}{S:aA}{js:List (Option Nat)}{f:et}{g:j8}{i:aW}{Q:List D->aA->Prop}(P:cE->Prop)(F:D->D)(r:P (lO js k)) (h:E f k S λp e=>p.2.stays e p.1/\p.1.length<=1000∧
   (∀d∈p.1,∀a,P a->Tg g d a e λc S2=>S2=e/\P c/\E i c e λy m=>y=F d/\m=e)/\Q (p.1.map F) e):E (dm js (qF f) g dS i) k S Q:=by
 refine pE (sN (h.mono λp e u=> ?_))
 obtain⟨o,z,w,q⟩:=u
 refine⟨λn a j b=>j=e/\b=(p.1.take n).map F/\P a,⟨rfl,rfl,r⟩,λn a j b h=>by rw[h.1];exact o,λn d a j b l h=> ?_,λa j b h=> ?_⟩
 ·obtain⟨rfl,rfl,h3⟩:=h
  obtain⟨c,S2,v,rfl,h4,h5⟩:=w d (mQg l) a h3
  refine⟨c,S2,v,pB ?_⟩
  rw[Qhq rfl]
  refine h5.mono λy m s=> ?_
  obtain⟨t,x⟩:=s
  subst t x
  have A:=(gQs.mp l).1
  refine⟨?_,rfl,?_,h4⟩
  ·rw[lQm,Qxq]
   exact aH (by omega)
  ·rw[QYq,l]
   simp
 ·obtain⟨rfl,rfl,_⟩:=h
  rw[QEq]
  exact q
def mD{α:Type}{o:cE}{S:aA}{js:List (Option Nat)}{f:et}{g:j8}{k:aW}{Q:List D->aA->Prop}(P:cE->Prop)(enc G:α->D)(u:P (lO js o)) (h:E f o S λp i=>∃xs:List α,p.1=xs.map enc/\p.2.stays i p.1/\xs.length<=1000∧
   (∀x∈xs,∀a,P a->Tg g (enc x) a i λc S2=>S2=i/\P c/\E k c i λy r=>y=G x/\r=i)/\Q (xs.map G) i):E (dm js (qF f) g dS k) o S Q:=by
 refine pE (sN (h.mono λp i z=> ?_))
 obtain⟨xs,s,t,F,B,q⟩:=z
 refine⟨λn a l b=>l=i/\b=(xs.take n).map G/\P a,⟨rfl,rfl,u⟩,λn a l b h=>by rw[h.1];exact t,λn d a l b m h=> ?_,λa l b h=> ?_⟩
 ·obtain⟨rfl,rfl,h3⟩:=h
  have m:p.1[n]?=some d:=m
  rw[s,gQm] at m
  obtain⟨x,j,rfl⟩:=oQm.mp m
  obtain⟨c,S2,A,rfl,h4,h5⟩:=B x (mQg j) a h3
  refine⟨c,S2,A,pB ?_⟩
  rw[Qhq rfl]
  refine h5.mono λy r v=> ?_
  obtain⟨w,C⟩:=v
  subst w C
  have H:=(gQs.mp j).1
  refine⟨?_,rfl,?_,h4⟩
  ·rw[lQm,Qxq]
   exact aH (by omega)
  ·rw[QYq,j]
   simp
 ·obtain⟨rfl,rfl,_⟩:=h
  have e:p.1.length=xs.length:=by rw[s,lQm]
  show Q ((xs.take p.1.length).map G) _
  rw[e,QEq]
  exact q
def bE{S:aA}{d:D}{Q:Res->aA->Prop}(hd:∀k,d≠.ref k)(a:bB 0 d=true)(q:Q (.d d) S):Op (settle S d S) λp=>Q p.1 p.2:=fH p0 (QEq) hd (lC a) q
def Bj{S:aA}{ds:List D}{Q:Res->aA->Prop}(a:bo 0 ds=true)(q:Q (.l ds) S):Op (eC S ds S) λp=>Q p.1 p.2:=oQ p0 (QEq) (g6 a) q
end DL
namespace W28
open PySem PySem.Spec L2 DL
structure bH where
 room:Int
 deed:Int
 row:Int
 given:Int
 told:Int
structure dB where
 vals:List Int
 within:Int
 row:List Int
 ag:List Int
 aa:List (List (Int×Int))
structure aN where
 aj:List dB
 ai:List (Int×List Int)
 ak:List Int
 af:List (List Int×List bH)
def bS(l:List Int):D:=.tup (l.map D.int)
def bH.d(f:bH):D:=.tup [.int f.room,.int f.deed,.int f.row,.int f.given,.int f.told]
def pairD(p:Int×Int):D:=.tup [.int p.1,.int p.2]
def du(l:List (Int×Int)):D:=.tup (l.map pairD)
def dB.d(r:dB):D:=.tup [bS r.vals,.int r.within,bS r.row,bS r.ag,.tup (r.aa.map du)]
def xE(p:Int×List Int):D:=.tup [.int p.1,bS p.2]
def zV(h:List Int×List bH):D:=.tup [bS h.1,.tup (h.2.map bH.d)]
def aN.d(s:aN):D:=.tup [.tup (s.aj.map dB.d),.tup (s.ai.map xE),bS s.ak,.tup (s.af.map zV)]
def jr(l:List Int):bB 0 (bS l)=true:=by simp only[bS,bB];exact aP λ_ _=>rfl
def pJ(l:List (Int×Int)):bB 0 (du l)=true:=by simp only[du,bB];exact aP λ_ _=>rfl
def dB.low(r:dB):bB 0 r.d=true:=by
 simp only[dB.d,bB,bo,jr,Bool.and_true,Bool.true_and]
 exact aP λl _=>pJ l
def wK(p:Int×List Int):bB 0 (xE p)=true:=by simp only[xE,bB,bo,jr,Bool.and_true]
def wN(h:List Int×List bH):bB 0 (zV h)=true:=by
 simp only[zV,bB,bo,jr,Bool.and_true,Bool.true_and]
 exact aP λ_ _=>rfl
def aN.low(s:aN):bB 0 s.d=true:=by
 simp only[aN.d,bB,bo,jr,Bool.and_true,Bool.true_and,QCq]
 exact⟨aP λr _=>r.low,aP λp _=>wK p,aP λh _=>wN h⟩
def dI(ts:List (Str×Nat)):List Int:=ts.map λp=>(p.2:Int)
def cI(r:Rm):dB:=⟨dI r.ao,-1,[],[],r.aa.map λ_=> []⟩
def z3:bH:=⟨-1,-1,0,0,0⟩
def cR(w:cC):aN:=⟨w.aj.map cI,w.ai.map λp=>((p.2:Int),[]),dI w.ak,w.af.map λh=>(dI h.1,[z3])⟩
section
variable{S:aA}{Q:Res->aA->Prop}
def iG{ts:List (Str×Nat)}(l:ts.length<=1000)(h:Q (.d (bS (dI ts))) S):Fn eR [.tup (ts.map uu)] S Q:=by
 refine bD ?_
 unfold ka
 symm
 apply ER (λc=>∃a b,c= [a,b]) (λd=>match d with|.tup [_,v]=>v|d=>d) ⟨none,none,rfl⟩ ?_
 refine⟨trivial,by simpa using l,λd g c f=> ?_,?_⟩
 ·obtain⟨p,_,rfl⟩:=Qkq.mp g
  obtain⟨a,b,rfl⟩:=f
  refine dA rfl (au (aL (au (aL (aQ ?_)))))
  apply⟨rfl,⟨_,_,rfl⟩,?_⟩
  exact⟨rfl,rfl⟩
 ·have e:(ts.map uu).map (λd=>match d with|.tup [_,v]=>v|d=>d)=(dI ts).map D.int:=by
   simp only[dI,QPq]
   rfl
  rw[e]
  exact bE (d:=bS (dI ts)) (λk z=>(nomatch z)) (jr _) h
def qR{r:Rm}(a:r.ao.length<=6)(c:r.aa.length<=6)(h:Q (.d (cI r).d) S):Fn gq [r.d] S Q:=by
 refine bD ?_
 unfold jt
 symm
 apply dA rfl (au (aL (au (aL (au (aL (au (aL (au (aL (aQ ?_)))))))))))
 apply iG (by omega) ?_
 apply⟨by decide,?_⟩
 apply⟨by decide,?_⟩
 apply FX (λ_=>.tup []) ?_
 refine⟨trivial,by simp;omega,λd b=> ?_,?_⟩
 ·symm
  exact⟨by decide,rfl,rfl⟩
 ·symm
  refine⟨by show 5<=_;decide,?_⟩
  have e:D.tup ((r.aa.map CQ).map λ_=>D.tup [])=D.tup ((cI r).aa.map du):=by
   simp only[cI,QPq]
   rfl
  rw[e]
  exact bE (d:=(cI r).d) (λk z=>(nomatch z)) (dB.low _) h
def Bd{w:cC}(o:iI w)(h:Q (.d (cR w).d) S):Fn tN [w.d] S Q:=by
 refine bD ?_
 unfold xh
 symm
 apply dA rfl (au (aL (au (aL (au (aL (au (aL (aQ ?_)))))))))
 apply⟨by decide,?_⟩
 have n:=o.l1
 have q:=o.l2
 have m:=o.l3
 have l:=o.l4
 apply mD (α:=Rm) (λc=>∃a,c= [a]) Rm.d (λr=>(cI r).d) ⟨none,rfl⟩ ?_
 refine⟨w.aj,rfl,trivial,by omega,λr f c e=> ?_,?_⟩
 ·obtain⟨a,rfl⟩:=e
  apply aL ⟨rfl,⟨_,rfl⟩,?_⟩
  exact qR (o.rm r f).l1 (o.rm r f).l2 ⟨rfl,rfl⟩
 symm
 apply mD (α:=Str×Nat) (λc=>∃a b,c= [a,b]) uu (λp=>xE ((p.2:Int),[])) ⟨none,none,rfl⟩ ?_
 refine⟨w.ai,rfl,trivial,by omega,λr f c e=> ?_,?_⟩
 ·obtain⟨a,b,rfl⟩:=e
  refine dA rfl (au (aL (au (aL (aQ ?_)))))
  apply⟨rfl,⟨_,_,rfl⟩,?_⟩
  apply⟨by decide,?_⟩
  exact⟨by show 2<=_;decide,rfl,rfl⟩
 symm
 apply iG (by omega) ?_
 apply mD (α:=List (Str×Nat)×List Rw) (λc=>∃a b,c= [a,b,some z3.d]) lJ (λh=>zV (dI h.1,[z3])) ⟨none,none,rfl⟩ ?_
 refine⟨w.af,rfl,trivial,by omega,λr f c e=> ?_,?_⟩
 ·obtain⟨a,b,rfl⟩:=e
  refine dA rfl (au (aL (au (aL (aQ ?_)))))
  apply⟨rfl,⟨_,_,rfl⟩,?_⟩
  refine iG (by have:=(o.hd r f).l1;omega) ?_
  symm
  refine⟨by show 1<=_;decide,?_⟩
  symm
  exact⟨by show 2<=_;decide,rfl,rfl⟩
 symm
 refine⟨by show 4<=_;decide,?_⟩
 have i:w.aj.map (λr=>(cI r).d)=(cR w).aj.map dB.d:=by simp only[cR,QPq];rfl
 have g:w.ai.map (λp=>xE ((p.2:Int),[]))=(cR w).ai.map xE:=by simp only[cR,QPq];rfl
 have j:w.af.map (λh=>zV (dI h.1,[z3]))=(cR w).af.map zV:=by simp only[cR,QPq];rfl
 rw[i,g,j]
 exact bE (d:=(cR w).d) (λk z=>(nomatch z)) (aN.low _) h
end
end W28
namespace DL
open PySem PySem.Spec L2
section
variable{Γ:cE}{S:aA}
def nh{f:aW}{Q:D->aA->Prop}(h:E f Γ S λd a=>∃i,d=.int i/\Q (.int (-i)) a):E (p_ f) Γ S Q:=by
 obtain⟨d,a,b,i,rfl,q⟩:=h
 exact⟨_,a,by unfold p_;rw[b];rfl,q⟩
def bI{Q:Option Int->aA->Prop}(q:Q none S):E nP Γ S Q:=⟨_,_,rfl,q⟩
def bC{f:aW}{Q:Option Int->aA->Prop}(h:E f Γ S λd a=>∃i,d=.int i/\Q (some i) a):E (lV f) Γ S Q:=by
 obtain⟨d,a,b,i,rfl,q⟩:=h
 exact⟨_,a,by unfold lV;rw[b];rfl,q⟩
def iA{f:aW}{lo hi:DB}{Q:D->aA->Prop}(h:E f Γ S λd b=>E lo Γ b λl S2=>E hi Γ S2 λu a=>∃ds,d=.tup ds/\Q (.tup (eO ds l u)) a):E (oq f lo hi) Γ S Q:=by
 obtain⟨d,b,c,l,S2,e,u,a,g,ds,rfl,q⟩:=h
 exact⟨_,a,by unfold oq;rw[c];simp only[Qbq];rw[e];simp only[Qbq];rw[g];rfl,q⟩
def GS{i j:Nat}{f:fc}{Q:Out->Prop}(h:E f Γ S λds c=>∃a b,ds= [a,b]/\Q (.nx ((Γ.set i (some a)).set j (some b)) c)):T (wu i j f) Γ S Q:=by
 obtain⟨ds,c,d,a,b,rfl,q⟩:=h
 exact⟨_,by unfold wu;rw[d];rfl,q⟩
end
def Ak{α:Type}{xs:List α}{i:Nat}(h:i<=xs.length):eO xs none (some (i:Int))=xs.take i:=by
 unfold eO
 rw[HT.qx,HT.yr,Nat.min_eq_left h]
 simp
def fX{α:Type}{xs:List α}{i:Nat}(h:i<=xs.length):eO xs (some (i:Int)) none=xs.drop i:=by
 unfold eO
 rw[HT.qx,HT.yr,Nat.min_eq_left h]
 rw[List.take_of_length_le]
 simp
def vT{α:Type}{xs:List α}(h:0<xs.length):eO xs none (some (-1))=xs.dropLast:=by
 unfold eO
 rw[HT.qx]
 show(xs.drop 0).take (HT.cZ xs.length xs.length (some (-1))-0)=_
 rw[show HT.cZ xs.length xs.length (some (-1))=xs.length-1 by simp only[HT.cZ];rw[Qhq (by omega)];omega]
 simp[List.dropLast_eq_take]
def pW{α:Type}{xs:List α}{x:α}(h:xs.getLast? =some x):lW xs (-1)=some x:=by
 have c:0<xs.length:=by
  cases xs with
  |nil=>cases h
  |cons a b=>simp
 unfold lW yV
 rw[Quq (by omega),Qhq (by omega)]
 rw[List.getLast?_eq_getElem?] at h
 simp only[Qbq]
 rw[show((-1:Int)+(xs.length:Int)).toNat=xs.length-1 by omega]
 exact h
end DL
namespace W28
open PySem PySem.Spec L2 DL
section
variable{S:aA}{Q:Res->aA->Prop}
def bp{s:aN}{h:Nat}{vs:List Int}{fs:List bH}{f:bH}(a:s.af[h]?=some (vs,fs))(b:fs.getLast? =some f)(q:Q (.d f.d) S):Fn bJ [s.d,.int h] S Q:=by
 refine bD ?_
 unfold jy
 symm
 apply ar rfl ?_
 refine ar (d:=zV (vs,fs)) (aI (by rw[gQm,a];rfl)) ?_
 symm
 refine ar rfl ?_
 apply nh ?_
 refine⟨1,rfl,?_⟩
 refine ar (d:=f.d) (pW (by rw[QfQ,b];rfl)) ?_
 exact bE (λk z=>(nomatch z)) rfl q
def progOf(w:cC)(h:Nat)(f:bH):Option (List Rw):=
 if f.room= -1 then(w.af[h]?).map (·.2) else if 0<=f.room/\0<=f.deed then(w.aj[f.room.toNat]?).bind λr=>(r.ae[f.deed.toNat]?).map (·.2) else none
def jI{α:Type}{xs:List α}{i:Int}{x:α}(a:0<=i)(h:xs[i.toNat]?=some x):lW xs i=some x:=by
 obtain⟨n,rfl⟩:∃n:Nat,i=n:=⟨i.toNat,by omega⟩
 exact aI (by simpa using h)
def u7(a:List Rw):bB 0 (.tup (a.map Rw.d))=true:=by simp only[bB];exact aP λr _=>r.low
def dD{w:cC}{h:Nat}{f:bH}{pr:List Rw}(a:progOf w h f=some pr)(q:Q (.d (.tup (pr.map Rw.d))) S):Fn dg [w.d,.int h,f.d] S Q:=by
 refine bD ?_
 unfold ng
 apply bz (GS ?_)
 apply ar rfl ?_
 apply ar rfl ?_
 apply⟨_,_,rfl,?_⟩
 refine fZ ?_
 dsimp only
 unfold progOf at a
 by_cases c:f.room= -1
 ·rw[Qhq c] at a
  obtain⟨i,b,rfl⟩:=oQm.mp a
  rw[Qeq c,Qhq rfl]
  symm
  apply ar rfl ?_
  refine ar (d:=lJ i) (aI (by rw[gQm,b];rfl)) ?_
  symm
  refine ar rfl ?_
  exact bE (λk z=>(nomatch z)) (u7 _) q
 ·rw[Quq c] at a
  split at a
  ·rename_i e
   obtain⟨r,b,a⟩:=aq a
   obtain⟨g,j,rfl⟩:=oQm.mp a
   rw[Qdq c,Quq (by decide)]
   symm
   apply ar rfl ?_
   refine ar (d:=r.d) (jI e.1 (by rw[gQm,b];rfl)) ?_
   symm
   apply ar rfl ?_
   refine ar (d:=sj g) (jI e.2 (by rw[gQm,j];rfl)) ?_
   symm
   refine ar rfl ?_
   exact bE (λk z=>(nomatch z)) (u7 _) q
  ·cases a
def cP{xs:List D}{i:Nat}{d:D}(hi:i<xs.length)(m:xs.length<=900)(f:bo 0 xs=true)(g:bB 0 d=true)(q:Q (.d (.tup (xs.set i d))) S):Fn cB [.tup xs,.int i,d] S Q:=by
 refine bD ?_
 unfold kj
 symm
 apply iA ?_
 apply bI (bC ?_)
 apply⟨_,rfl,_,rfl,?_⟩
 refine⟨by show 1<=_;decide,?_⟩
 rw[Ak (by omega)]
 refine c9 (by simp only[Qxq,Qnq,QGq];exact nQl (aH (by omega))) ?_
 apply iA ?_
 apply bC ?_
 refine⟨_,rfl,bI ⟨_,rfl,?_⟩⟩
 rw[show((i:Int)+1)=((i+1:Nat):Int) by omega,fX (by omega)]
 refine c9 (by simp only[lQa,Qxq,List.length_drop,Qnq,QGq];exact nQl (aH (by omega))) ?_
 have e:xs.take i++ [d]++xs.drop (i+1)=xs.set i d:=by
  rw[List.set_eq_take_append_cons_drop,Qhq hi]
  simp
 rw[e]
 refine bE (λk z=>(nomatch z)) ?_ q
 simp only[bB]
 refine oA λz b=> ?_
 rcases QTq b with b|rfl
 ·have c:∀l:List D,bo 0 l=true->∀z∈l,bB 0 z=true:=by
   intro l
   induction l with
   |nil=>intro _ z b;cases b
   | cons a l j=>
     intro h z b
     simp only[bo,QCq] at h
     rcases Qsq.mp b with rfl|b
     · exact h.1
     · exact j h.2 z b
  exact c xs f z b
 ·exact g
end
section
variable{S:aA}{Q:Res->aA->Prop}
def map_set{α b:Type}(f:α->b)(l:List α)(i:Nat)(a:α):(l.set i a).map f=(l.map f).set i (f a):=by
 rw[List.map_set]
def aG(s:aN):∀k,s.d≠.ref k:=λk z=>(nomatch z)
def cp{s:aN}{i:Nat}{r:dB}(hi:i<s.aj.length)(a:s.aj.length<=900)(q:Q (.d ({s with aj:=s.aj.set i r}:aN).d) S):Fn b9 [s.d,.int i,r.d] S Q:=by
 refine bD ?_
 unfold kn
 symm
 apply ar rfl ?_
 apply cP (by simpa using hi) (by simpa using a) (aP λr _=>r.low) r.low ?_
 refine⟨by show 1<=_;decide,?_⟩
 apply iA ?_
 apply bC ?_
 refine⟨_,rfl,bI ⟨_,rfl,?_⟩⟩
 refine c9 (by show 4<=_;decide) ?_
 refine bE (d:=({s with aj:=s.aj.set i r}:aN).d) (aG _) (aN.low _) q|>λz=> ?_
 rw[←map_set]
 exact z
def ft{s:aN}{i:Nat}{p:Int×List Int}(hi:i<s.ai.length)(a:s.ai.length<=900)(q:Q (.d ({s with ai:=s.ai.set i p}:aN).d) S):Fn dP [s.d,.int i,xE p] S Q:=by
 refine bD ?_
 unfold kF
 symm
 apply ar rfl ?_
 apply ar rfl ?_
 apply cP (by simpa using hi) (by simpa using a) (aP λr _=>wK r) (wK p) ?_
 refine⟨by show 2<=_;decide,?_⟩
 apply iA ?_
 apply bC ?_
 refine⟨_,rfl,bI ⟨_,rfl,?_⟩⟩
 refine c9 (by show 4<=_;decide) ?_
 refine bE (d:=({s with ai:=s.ai.set i p}:aN).d) (aG _) (aN.low _) q|>λz=> ?_
 rw[←map_set]
 exact z
def fF{s:aN}{i:Nat}{vs:List Int}{fs:List bH}(hi:i<s.af.length)(a:s.af.length<=900)(q:Q (.d ({s with af:=s.af.set i (vs,fs)}:aN).d) S):Fn dN [s.d,.int i,bS vs,.tup (fs.map bH.d)] S Q:=by
 refine bD ?_
 unfold kg
 apply nB (Cs (iA ?_))
 apply bI (bC ?_)
 apply⟨_,rfl,_,rfl,?_⟩
 apply ar rfl ?_
 refine⟨by show 2<=_;decide,?_⟩
 symm
 apply cP (d:=zV (vs,fs)) (by simpa using hi) (by simpa using a) (aP λr _=>wN r) (wN (vs,fs)) ?_
 refine⟨by show 1<=_;decide,?_⟩
 refine c9 (by show 4<=_;decide) ?_
 refine bE (d:=({s with af:=s.af.set i (vs,fs)}:aN).d) (aG _) (aN.low _) q|>λz=> ?_
 rw[←map_set]
 exact z
def gf{s:aN}{h:Nat}{vs:List Int}{fs:List bH}{f:bH}(a:s.af[h]?=some (vs,fs))(b:0<fs.length)(g:fs.length<=900)(c:s.af.length<=900)(q:Q (.d ({s with af:=s.af.set h (vs,fs.dropLast++ [f])}:aN).d) S):Fn cJ [s.d,.int h,f.d] S Q:=by
 refine bD ?_
 unfold eN
 symm
 apply ar rfl ?_
 refine ar (d:=zV (vs,fs)) (aI (by rw[gQm,a];rfl)) ?_
 apply dA rfl (au (aL (au (aL (aQ ?_)))))
 apply iA ?_
 apply bI (bC (nh ?_))
 apply⟨1,rfl,_,rfl,_,rfl,?_⟩
 refine⟨by show 1<=_;decide,?_⟩
 rw[vT (by simpa using b)]
 refine c9 (by simp only[List.length_dropLast,lQm,Qnq,QGq];exact nQl (aH (by omega))) ?_
 symm
 have e:(fs.map bH.d).dropLast++ [f.d]=(fs.dropLast++ [f]).map bH.d:=by rw[Qzq,List.map_dropLast];rfl
 rw[e]
 refine fF (gQs.mp a).1 c ?_
 exact bE (aG _) (aN.low _) q
def m5{s:aN}{h:Nat}{vs:List Int}{fs:List bH}{f:bH}{n:Int}(c:s.af[h]?=some (vs,fs))(e:fs.getLast? =some f)(j:fs.length<=900)(g:s.af.length<=900)(q:Q (.d ({s with af:=s.af.set h (vs,fs.dropLast++ [{f with row:=n}])}:aN).d) S):Fn ir [s.d,.int h,.int n] S Q:=by
 refine bD ?_
 unfold tx
 symm
 apply bp c e ?_
 apply iA ?_
 apply bI (bC ?_)
 apply⟨_,rfl,_,rfl,?_⟩
 refine⟨by show 1<=_;decide,?_⟩
 refine c9 (by show 3<=_;decide) ?_
 apply iA ?_
 apply bC ?_
 refine⟨_,rfl,bI ⟨_,rfl,?_⟩⟩
 refine c9 (by show 5<=_;decide) ?_
 symm
 have i:0<fs.length:=by
  cases fs with
  |nil=>cases e
  |cons a b=>simp
 refine gf (f:={f with row:=n}) c i j g ?_
 exact bE (aG _) (aN.low _) q
def g5(r:dB)(h:Int):dB:=if r.within= -1 then{r with within:=h} else{r with row:=r.row++ [h]}
def c8(r:dB):dB:=match r.ag,r.row with
 |a::l,_=>{r with within:=a,ag:=l}
 | [],a::l=>{r with within:=a,row:=l}
 | [],[]=>{r with within:= -1}
def qd{s:aN}{i:Nat}{h:Int}{r:dB}(f:s.aj[i]?=some r)(b:s.aj.length<=900)(lr:r.row.length<=900)(q:Q (.d ({s with aj:=s.aj.set i (g5 r h)}:aN).d) S):Fn i8 [s.d,.int i,.int h] S Q:=by
 have a:=(gQs.mp f).1
 refine bD ?_
 unfold oU
 symm
 apply ar rfl ?_
 refine ar (d:=r.d) (aI (by rw[gQm,f];rfl)) ?_
 apply dA rfl (au (aL (au (aL (au (aL (au (aL (au (aL (aQ ?_)))))))))))
 refine fZ ?_
 dsimp only
 unfold g5 at q
 by_cases c:r.within= -1
 ·rw[Qhq c] at q
  rw[Qeq c,Qhq rfl]
  symm
  refine⟨by show 5<=_;decide,?_⟩
  symm
  refine cp (r:={r with within:=h}) a b ?_
  exact bE (aG _) (aN.low _) q
 ·rw[Quq c] at q
  rw[Qdq c,Quq (by decide)]
  symm
  refine⟨by show 1<=_;decide,?_⟩
  refine c9 (by simp only[lQm,Qnq,QGq];exact nQl (aH (by omega))) ?_
  symm
  refine⟨by show 5<=_;decide,?_⟩
  symm
  have e:D.tup (r.row.map D.int++ [D.int h])=bS (r.row++ [h]):=by simp[bS]
  rw[e]
  refine cp (r:={r with row:=r.row++ [h]}) a b ?_
  exact bE (aG _) (aN.low _) q
end
section
variable{S:aA}{Q:Res->aA->Prop}
def A0{α:Type}{a:α}{l:List α}:lW (a::l) 0=some a:=aI (j:=0) rfl
def tP{S:aA}{ds:List D}{Q:Bool->Prop}(q:Q (!ds.isEmpty)):Op (wW S (.tup ds)) Q:=⟨_,rfl,q⟩
def vL{s:aN}{i:Nat}{r:dB}(m:s.aj[i]?=some r)(k:s.aj.length<=900)(q:Q (.d ({s with aj:=s.aj.set i (c8 r)}:aN).d) S):Fn mC [s.d,.int i] S Q:=by
 have j:=(gQs.mp m).1
 refine bD ?_
 unfold w6
 symm
 apply ar rfl ?_
 refine ar (d:=r.d) (aI (by rw[gQm,m];rfl)) ?_
 refine dA rfl (au (aL (au (aL (au (aL (au (aL (au (aL (aQ ?_)))))))))))
 obtain⟨b,g,f,n,h⟩:=r
 symm
 refine tP ?_
 cases n with
 | cons a l=>
   apply aZ (λ_=> ?_) (λc=>by cases c)
   apply ar (d:=.int a) A0 ?_
   apply iA ?_
   apply bC ?_
   apply⟨_,rfl,bI ⟨_,rfl,?_⟩⟩
   refine⟨by show 5<=_;decide,?_⟩
   symm
   have e:D.tup (eO ((a::l).map D.int) (some 1) none)=bS l:=by
     rw[show(some (1:Int))=some ((1:Nat):Int) from rfl,fX (by simp)]
     rfl
   rw[e]
   refine cp (r:=⟨b,a,f,l,h⟩) j k ?_
   exact bE (aG _) (aN.low _) q
 | nil=>
   refine aZ (λc=>by cases c) (λ_=> ?_)
   apply bW ?_
   refine tP ?_
   cases f with
   | cons a l=>
     apply aZ (λ_=> ?_) (λc=>by cases c)
     apply ar (d:=.int a) A0 ?_
     apply iA ?_
     apply bC ?_
     apply⟨_,rfl,bI ⟨_,rfl,?_⟩⟩
     refine⟨by show 5<=_;decide,?_⟩
     symm
     have e:D.tup (eO ((a::l).map D.int) (some 1) none)=bS l:=by
       rw[show(some (1:Int))=some ((1:Nat):Int) from rfl,fX (by simp)]
       rfl
     rw[e]
     refine cp (r:=⟨b,a,l,[],h⟩) j k ?_
     exact bE (aG _) (aN.low _) q
   | nil=>
     refine aZ (λc=>by cases c) (λ_=> ?_)
     apply bW ?_
     refine⟨by show 5<=_;decide,?_⟩
     symm
     refine cp (r:=⟨b,-1,[],[],h⟩) j k ?_
     exact bE (aG _) (aN.low _) q
def dQ{α:Type}{enc:α->D}{nm:α->Str}{xs:List α}(he:∀a,∃r,enc a=.tup (.str (nm a)::r))(d:xs.length<=1000)(q:Q (.l ((xs.map nm).map D.str)) S):Fn cX [.tup (xs.map enc)] S Q:=by
 refine bD ?_
 unfold mV
 symm
 apply mD (α:=α) (λb=>∃a,b= [a]) enc (λa=>.str (nm a)) ⟨none,rfl⟩ ?_
 refine⟨xs,rfl,trivial,d,λr f b c=> ?_,?_⟩
 ·obtain⟨a,rfl⟩:=c
  refine aL ⟨rfl,⟨_,rfl⟩,?_⟩
  obtain⟨g,e⟩:=he r
  rw[e]
  symm
  exact ar A0 ⟨rfl,rfl⟩
 ·have e:xs.map (λa=>D.str (nm a))=(xs.map nm).map D.str:=by rw[QPq];rfl
  rw[e]
  exact Bj (aP λ_ _=>rfl) q
theorem iw:∀a:List Str,lF (a.map D.str)=some (a.map V.str)
 | []=>rfl
 |s::a=>by simp only[QDq,lF,rL,Qbq];rw[iw a];rfl
theorem oy{x:Str}:∀{ns:List Str},x∈ns->∃j,kL (.str x) (ns.map V.str)=some j/\ns[j]?=some x
 | [],h=>by cases h
 | n::ns,h=>by
   by_cases c:n=x
   · subst c
     exact⟨0,by simp[kL,lX],rfl⟩
   · obtain⟨j,a,b⟩:=oy (ns:=ns) ((Qsq.mp h).resolve_left (Ne.symm c))
     exact⟨j+1,by simp only[QDq,kL];rw[a];simp[lX,c],by simpa using b⟩
end
end W28
namespace DL
open PySem PySem.Spec L2
section
variable{Γ:cE}{S:aA}
def vt{T:String}{f:aW}{Q:D->aA->Prop}(h:E f Γ S λd a=>Op (Dq a T d) λk=>Q (.bl k) a):E (l_ T f) Γ S Q:=by
 obtain⟨d,a,b,k,c,q⟩:=h
 exact⟨_,a,by unfold l_;rw[b];simp only[Qbq];rw[c];rfl,q⟩
def qh{b:Bool}{Q:Bool->Prop}(q:Q b):Op (wW S (.bl b)) Q:=⟨_,rfl,q⟩
def GC{f g:aW}{Q:D->aA->Prop}(h:E f Γ S λx a=>E g Γ a λy S2=>∃k kvs z v,x=.ref k/\y=.str z/\S2[k]?=some (.dct kvs)/\jj kvs (.inr z)=some v/\Q v S2):E (GB f g) Γ S Q:=by
 obtain⟨x,a,b,y,S2,c,k,kvs,z,v,rfl,rfl,h1,h2,q⟩:=h
 exact⟨v,S2,by unfold GB;rw[b];simp only[Qbq];rw[c];simp only[Qbq,h1,k9,h2],q⟩
def jX{i j:Int}{Q:D->Prop}(q:Q (.bl (!decide (i=j)))):Op (gL true S (.int i) (.int j)) Q:=⟨_,by simp[gL,rL,xA],q⟩
def AQ{i j:Int}{Q:D->Prop}(q:Q (.int (if j<i then j else i))):Op (minD [.int i,.int j]) Q:=⟨_,rfl,q⟩
def DX{i j:Int}{Q:D->Prop}(q:Q (.int (if j>i then j else i))):Op (maxD [.int i,.int j]) Q:=⟨_,rfl,q⟩
end
end DL
namespace W28
open PySem PySem.Spec L2 DL
def Gd(o:Str)(a b:Int):Int:=
 if o="plus" then(if 9<a+b then 9 else a+b) else if o="minus" then(if 0>a-b then 0 else a-b) else if o="less" then(if a<b then 1 else 0)
 else if o="same" then(if a=b then 1 else 0) else(if a≠0/\b≠0 then 1 else 0)
def uv(th wt:Str->Int):Tr->Int
 |.num n=>n
 |.word x=>th x
 |.waits b=>if 0<wt b then 1 else 0
 |.no t=>if uv th wt t=0 then 1 else 0
 |.two o a b=>Gd o (uv th wt a) (uv th wt b)
def zG{o:Str}{a b:Int}(c:0<=a/\a<=9)(d:0<=b/\b<=9):0<=Gd o a b/\Gd o a b<=9:=by
 unfold Gd
 repeat' split
 all_goals omega
theorem jK{th wt:Str->Int}{ws bs:List Str}(h:∀x∈ws,0<=th x/\th x<=9):∀{t:Tr},t.Ok ws bs->0<=uv th wt t/\uv th wt t<=9
 |.num n,ho=>by have:n<=9:=ho;simp only[uv];omega
 |.word x,ho=>h x ho
 |.waits b,_=>by simp only[uv];split <;>omega
 |.no t,_=>by simp only[uv];split <;>omega
 |.two o a b,ho=>zG (jK h ho.2.1) (jK h ho.2.2)
section
variable{S:aA}{Q:Res->aA->Prop}
def cH{S:aA}{i:Int}{Q:Res->aA->Prop}(q:Q (.d (.int i)) S):Op (settle S (.int i) S) λp=>Q p.1 p.2:=bE (λk z=>(nomatch z)) rfl q
def nQ{o:Str}{a b:Int}(q:Q (.d (.int (Gd o a b))) S):Fn eT [.str o,.int a,.int b] S Q:=by
 refine bD ?_
 unfold gI
 unfold Gd at q
 symm
 refine gE ?_
 dsimp only
 by_cases f:o="plus"
 ·rw[Qhq f] at q
  rw[Qeq f,Qhq rfl]
  symm
  refine AQ ?_
  exact cH q
 rw[Quq f] at q
 rw[Qdq f,Quq (by decide)]
 apply bW ?_
 refine gE ?_
 dsimp only
 by_cases e:o="minus"
 ·rw[Qhq e] at q
  rw[Qeq e,Qhq rfl]
  symm
  refine DX ?_
  exact cH q
 rw[Quq e] at q
 rw[Qdq e,Quq (by decide)]
 apply bW ?_
 refine gE ?_
 dsimp only
 by_cases j:o="less"
 ·rw[Qhq j] at q
  rw[Qeq j,Qhq rfl]
  symm
  by_cases c:a<b
  ·rw[Qhq c] at q
   rw[Qeq c,Qhq rfl]
   symm
   exact cH q
  ·rw[Quq c] at q
   rw[Qdq c,Quq (by decide)]
   symm
   exact cH q
 rw[Quq j] at q
 rw[Qdq j,Quq (by decide)]
 apply bW ?_
 refine gE ?_
 dsimp only
 by_cases g:o="same"
 ·rw[Qhq g] at q
  rw[Qeq g,Qhq rfl]
  symm
  refine fZ ?_
  dsimp only
  by_cases c:a=b
  ·rw[Qhq c] at q
   rw[Qeq c,Qhq rfl]
   symm
   exact cH q
  ·rw[Quq c] at q
   rw[Qdq c,Quq (by decide)]
   symm
   exact cH q
 rw[Quq g] at q
 rw[Qdq g,Quq (by decide)]
 apply bW ?_
 refine jX ?_
 dsimp only
 by_cases i:a=0
 ·rw[Quq (λz=>z.1 i)] at q
  rw[Qeq i]
  show if (false=true) then _ else _
  rw[Quq (by decide)]
  show if (false=true) then _ else _
  rw[Quq (by decide)]
  symm
  exact cH q
 ·rw[Qdq i]
  show if (true=true) then _ else _
  rw[Qhq rfl]
  symm
  refine jX ?_
  dsimp only
  by_cases h:b=0
  ·rw[Quq (λz=>z.2 h)] at q
   rw[Qeq h]
   show if (false=true) then _ else _
   rw[Quq (by decide)]
   symm
   exact cH q
  ·rw[Qhq ⟨i,h⟩] at q
   rw[Qdq h]
   show if (true=true) then _ else _
   rw[Qhq rfl]
   symm
   exact cH q
end
def cO{a:cE}{S:aA}{T:String}{f:aW}{d:D}{b:Bool}{Q:Bool->aA->Prop}(h:E f a S λx c=>x=d/\c=S)(hd:Dq S T d=some b)(q:Q b S):E (i_ (l_ T f)) a S Q:=by
 refine Ib (vt (h.mono λx c g=> ?_))
 obtain⟨e,i⟩:=g
 subst e i
 exact⟨b,hd,qh q⟩
def DT{o:Str}(h:o∈ops):o≠"waits" /\o≠"not":=by
 simp only[ops,Qsq,QXq,or_false] at h
 rcases h with rfl|rfl|rfl|rfl|rfl <;>exact⟨by decide +kernel,by decide +kernel⟩
theorem eY{th wt:Str->Int}{ws bs:List Str}{i j:Nat}{kvs kws:List (Key×D)}{S:aA}(hi:S[i]?=some (.dct kvs))(f:S[j]?=some (.dct kws))(e:∀x∈ws,jj kvs (.inr x)=some (.int (th x)))(g:∀b∈bs,jj kws (.inr b)=some (.int (wt b))):
  ∀(n:Nat) (t:Tr) {Q:Res->aA->Prop},t.Ok ws bs->t.dep<=n->Q (.d (.int (uv th wt t))) S->Fn (eM n) [t.d,.ref i,.ref j] S Q
 |0,t,Q,_,hd,_=>by cases t <;>simp[Tr.dep] at hd
 | n+1,t,Q,ho,hd,q=>by
   refine bD ?_
   unfold mr
   cases t with
   | num v=>
     refine bz (fA (cO (d:=.int v) (bP rfl ⟨rfl,rfl⟩) rfl ?_))
     apply aZ (λ_=> ?_) (λc=>by cases c)
     exact cH q
   | word x=>
     refine bz (fA (cO (d:=.str x) (bP rfl ⟨rfl,rfl⟩) rfl ?_))
     refine aZ (λc=>by cases c) (λ_=>bW ?_)
     refine bz (fA (cO (d:=.str x) (bP rfl ⟨rfl,rfl⟩) rfl ?_))
     refine aZ (λ_=> ?_) (λc=>by cases c)
     apply nB (GC ?_)
     refine⟨_,_,_,_,rfl,rfl,hi,e x ho,?_⟩
     exact cH q
   | waits b=>
     refine bz (fA (cO (d:=.tup [.str "waits",.str b]) (bP rfl ⟨rfl,rfl⟩) rfl ?_))
     refine aZ (λc=>by cases c) (λ_=>bW ?_)
     refine bz (fA (cO (d:=.tup [.str "waits",.str b]) (bP rfl ⟨rfl,rfl⟩) rfl ?_))
     apply aZ (λc=>by cases c) (λ_=>bW ?_)
     apply ar rfl ?_
     refine gE ?_
     dsimp only
     rw[Qeq rfl,Qhq rfl]
     symm
     apply GC ?_
     refine ar rfl ?_
     apply⟨_,_,_,_,rfl,rfl,f,g b ho,?_⟩
     simp only[uv] at q
     by_cases c:0<wt b
     · rw[Qhq c] at q
       rw[Qeq c,Qhq rfl]
       symm
       exact cH q
     · rw[Quq c] at q
       rw[Qdq c,Quq (by decide)]
       symm
       exact cH q
   | no t=>
     have h:t.dep<=n:=by simp only[Tr.dep] at hd;omega
     refine bz (fA (cO (d:=.tup [.str "not",t.d]) (bP rfl ⟨rfl,rfl⟩) rfl ?_))
     refine aZ (λc=>by cases c) (λ_=>bW ?_)
     refine bz (fA (cO (d:=.tup [.str "not",t.d]) (bP rfl ⟨rfl,rfl⟩) rfl ?_))
     apply aZ (λc=>by cases c) (λ_=>bW ?_)
     apply ar rfl ?_
     refine gE ?_
     dsimp only
     rw[Qdq (show¬(("not":Str)="waits") by decide +kernel),Quq (by decide)]
     apply bW ?_
     apply ar rfl ?_
     apply eY hi f e g n t ho h ?_
     apply ar rfl ?_
     refine gE ?_
     dsimp only
     rw[Qeq rfl,Qhq rfl]
     symm
     refine fZ ?_
     dsimp only
     simp only[uv] at q
     by_cases c:uv th wt t=0
     · rw[Qhq c] at q
       rw[Qeq c,Qhq rfl]
       symm
       exact cH q
     · rw[Quq c] at q
       rw[Qdq c,Quq (by decide)]
       symm
       exact cH q
   | two o a b=>
     have l:a.dep<=n:=by simp only[Tr.dep] at hd;omega
     have k:b.dep<=n:=by simp only[Tr.dep] at hd;omega
     obtain⟨p,m⟩:=DT ho.1
     refine bz (fA (cO (d:=.tup [.str o,a.d,b.d]) (bP rfl ⟨rfl,rfl⟩) rfl ?_))
     refine aZ (λc=>by cases c) (λ_=>bW ?_)
     refine bz (fA (cO (d:=.tup [.str o,a.d,b.d]) (bP rfl ⟨rfl,rfl⟩) rfl ?_))
     apply aZ (λc=>by cases c) (λ_=>bW ?_)
     apply ar rfl ?_
     refine gE ?_
     dsimp only
     rw[Qdq p,Quq (by decide)]
     apply bW ?_
     apply ar rfl ?_
     apply eY hi f e g n a ho.2.1 l ?_
     apply ar rfl ?_
     refine gE ?_
     dsimp only
     rw[Qdq m,Quq (by decide)]
     apply bW ?_
     apply ar rfl ?_
     apply ar rfl ?_
     apply eY hi f e g n b ho.2.2 k ?_
     refine nQ ?_
     exact cH q
end W28
namespace DL
open PySem PySem.Spec L2
def rE{l:List (Key×D)}{k:Key}(h:k∈l.map (·.1)):∃d,jj l k=some d/\(k,d)∈l:=by
 unfold jj
 cases e:l.find? λg=>decide (g.1=k) with
 | none=>
   obtain⟨p,a,rfl⟩:=Qkq.mp h
   have:=List.find?_eq_none.mp e p a
   simp at this
 | some p=>
   have c:=List.find?_some e
   have f:=List.mem_of_find?_eq_some e
   have b:p.1=k:=by simpa using c
   exact⟨p.2,rfl,by rw[←b];exact f⟩
def vP{l:List (Key×D)}{k:Key}{v:D}{p:Key×D}(h:p∈putD l k v):p∈l\/p=(k,v):=by
 unfold putD at h
 split at h
 ·obtain⟨q,a,e⟩:=Qkq.mp h
  split at e
  ·rename_i c
   rw[←e,c]
   exact .inr rfl
  ·rw[←e]
   exact .inl a
 ·rcases mQa.mp h with h|h
  ·exact .inl h
  ·exact .inr (Qfq.mp h)
def jB{l:List (Key×D)}{k x:Key}{v:D}(h:x=k\/x∈l.map (·.1)):x∈(putD l k v).map (·.1):=by
 unfold putD
 split
 ·rename_i c
  have a:∀p∈l,(if p.1=k then(p.1,v) else p).1=p.1:=λp _=>by split <;>rfl
  have e:(l.map λp=>if p.1=k then(p.1,v) else p).map (·.1)=l.map (·.1):=by
   rw[QPq]
   exact List.map_congr_left a
  rw[e]
  rcases h with rfl|h
  ·obtain⟨p,b,d⟩:=List.any_eq_true.mp c
   exact Qkq.mpr ⟨p,b,by simpa using d⟩
  ·exact h
 ·rw[Qzq]
  rcases h with rfl|h
  ·exact Qoq _ (by simp)
  ·exact List.mem_append_left _ h
theorem kd:∀{more l:List (Key×D)} {p:Key×D},p∈bZ l more->p∈l\/p∈more
 | [],l,p,h=>.inl h
 | q::more,l,p,h=>by
   rcases kd (more:=more) (l:=putD l q.1 q.2) h with h|h
   · rcases vP h with h|rfl
     · exact .inl h
     · exact .inr (QBq ..)
   · exact .inr (Qpq _ h)
theorem eW:∀{more l:List (Key×D)} {x:Key},x∈l.map (·.1)\/x∈more.map (·.1)->x∈(bZ l more).map (·.1)
 | [],l,x,h=>h.elim id λz=>by cases z
 | q::more,l,x,h=>by
   refine eW (more:=more) (l:=putD l q.1 q.2) ?_
   rcases h with h|h
   · exact .inl (jB (.inr h))
   · rcases Qsq.mp h with rfl|h
     · exact .inl (jB (.inl rfl))
     · exact .inr h
theorem p9:∀a:List Str,uO (a.map D.str)=some (a.map Sum.inr)
 | []=>rfl
 |s::a=>by simp only[QDq,uO,k9,Qbq];rw[p9 a];rfl
section
variable{Γ:cE}{S:aA}
def Hu{Q:D->aA->Prop}(q:Q (.ref S.length) (S++ [.dct []])):E Ie Γ S Q:=⟨_,_,rfl,q⟩
def EG{f g:et}{Q:D->aA->Prop}(h:E f Γ S λp b=>E g Γ b λr S2=>∃a:List Str,p.1=a.map D.str/\(p.2.stays S2 p.1/\p.1.length=r.1.length)/\Q (.ref S2.length) (S2++ [.dct (bZ [] ((a.map Sum.inr).zip r.1))])):E (Ge f g) Γ S Q:=by
 obtain⟨p,b,c,r,S2,i,a,d,e,q⟩:=h
 refine⟨_,_,?_,q⟩
 unfold Ge
 rw[c]
 simp only[Qbq]
 rw[i]
 simp only[Qbq]
 rw[Qhq e,d,p9]
 rfl
def Hr{f g:aW}{Q:D->aA->Prop}(h:E f Γ S λx a=>E g Γ a λy S2=>∃k j b l m,x=.ref k/\y=.ref j/\k≠j/\a[k]?=some (.dct b)/\S2[k]?=some (.dct l)/\S2[j]?=some (.dct m)/\l.length+m.length<=sizeLine/\Q .non (S2.set k (.dct (bZ l m)))):E (CZ f g) Γ S Q:=by
 obtain⟨x,a,c,y,S2,d,k,j,b,l,m,rfl,rfl,hn,h0,h1,h2,h3,q⟩:=h
 exact⟨_,_,by unfold CZ;rw[c];simp only[Qbq];rw[d];simp only[Qbq];rw[Qhq hn];simp only[h0,h1,h2];rw[Qhq h3],q⟩
def I_{f g h:aW}{Q:Out->Prop}(w:E h Γ S λd b=>E f Γ b λx S2=>E g Γ S2 λy a=>∃k l z,x=.ref k/\y=.str z/\a[k]?=some (.dct l)/\l.length<sizeLine/\Q (.nx Γ (a.set k (.dct (putD l (.inr z) d))))):T (El f g h) Γ S Q:=by
 obtain⟨d,b,c,x,S2,e,y,a,i,k,l,z,rfl,rfl,h1,h2,q⟩:=w
 exact⟨_,by unfold El;rw[c];simp only[Qbq];rw[e];simp only[Qbq];rw[i];simp only[Qbq,h1,k9];rw[Qhq h2],q⟩
def Jz{α:Type}{n:Nat}{js:List (Option Nat)}{i:rN}{g:j8}{s u:aW}{Q:Out->Prop}(P:cE->Prop)(enc:α->D)(e:α->Str)(j:α->D)(G:P (lO js Γ)) (h:E i Γ S λp d=>∃xs:List α,p.1=xs.map enc/\p.2 d/\xs.length<=1000∧
   (∀x∈xs,∀b,P b->Tg g (enc x) b d λf S2=>S2=d/\P f/\E s f d λy B=>y=.str (e x)/\B=d/\E u f d λz A=>z=j x/\A=d)∧
   Q (.nx (Γ.set n (some (.ref d.length))) (d++ [.dct (bZ [] (xs.map λx=>(Sum.inr (e x),j x)))]))):T (Hv n (mQ js i g dS s u)) Γ S Q:=by
 obtain⟨⟨R,W⟩,d,J,xs,rfl,hW,hl,hs,q⟩:=h
 have N:∀(l:List (Key×D)) (k:Key) (v:D),(putD l k v).length<=l.length+1:=λl k v=>by
  unfold putD
  split <;>simp
 have F:∀(m:List α) (b:cE) (c:List (Key×D)),(∀y∈m,y∈xs)->P b->c.length+m.length<=1000->∃r,gG g dS s u W (m.map enc) b d c=some (r,d)/\r=bZ c (m.map λx=>(Sum.inr (e x),j x)):=by
  intro m
  induction m with
  |nil=>intro b c _ _ _;exact⟨c,by simp only[List.map_nil,gG];rw[Qhq hW],rfl⟩
  | cons a m L=>
    intro b c C I o
    obtain⟨f,S2,t,rfl,hp1,y,B,e3,rfl,rfl,z,A,e4,rfl,rfl⟩:=hs a (C a (QBq ..)) b I
    have w:=N c (Sum.inr (e a)) (j a)
    simp only[Qnq] at o
    obtain⟨r,H,M⟩:=L f (putD c (Sum.inr (e a)) (j a)) (λy K=>C y (Qpq _ K)) hp1 (by omega)
    refine⟨r,?_,M⟩
    simp only[QDq,gG]
    rw[Qhq hW,t]
    simp only[Qbq,dS,if_true]
    rw[e3]
    simp only[Qbq]
    rw[e4]
    simp only[Qbq,k9]
    rw[Qhq (aH (by omega))]
    exact H
 obtain⟨r,t,rfl⟩:=F xs _ [] (λ_ h=>h) G (by simpa using hl)
 exact⟨_,by unfold Hv mQ;rw[J];simp only[Qbq];rw[t];rfl,q⟩
end
def o9{a:cE}{S:aA}{f g:et}{Q:(List D×(aA->Prop))->aA->Prop}(h:E f a S λp b=>E g a b λr S2=>(p.2.stays S2 p.1/\p.1.length<=r.1.length)/\Q (qG p.1 r.1,λS=>p.2.stays S p.1/\r.2.stays S r.1) S2):E (vd f g) a S Q:=by
 obtain⟨p,b,d,r,S2,e,c,q⟩:=h
 exact⟨_,S2,by unfold vd;rw[d];simp only[Qbq];rw[e];simp only[Qbq];rw[Qhq c],q⟩
def jo(l:List (Key×D)):Prop:=∀p∈l,∃v:Int,p.2=.int v/\0<=v/\v<=9
def jo.merge{l m:List (Key×D)}(b:jo l)(a:jo m):jo (bZ l m):=λp c=>(kd c).elim (b p) (a p)
def jo.put{l:List (Key×D)}{k:Key}{v:Int}(h:jo l)(b:0<=v)(c:v<=9):jo (putD l k (.int v)):=λp a=>by
 rcases vP a with a|rfl
 ·exact h p a
 ·exact⟨v,rfl,b,c⟩
def numAt(l:List (Key×D))(x:Str):Int:=match jj l (.inr x) with|some (.int v)=>v|_=>0
def k8{l:List (Key×D)}(h:jo l){x:Str}(g:(Sum.inr x:Key)∈l.map (·.1)):jj l (.inr x)=some (.int (numAt l x))/\0<=numAt l x/\numAt l x<=9:=by
 obtain⟨d,b,c⟩:=rE g
 obtain⟨v,a,f,i⟩:=h _ c
 have a:d=.int v:=a
 subst a
 have e:numAt l x=v:=by unfold numAt;rw[b]
 rw[e]
 exact⟨b,f,i⟩
def Aj{d:List Str}{vs:List Int}(h:∀v∈vs,0<=v/\v<=9):jo ((d.map (Sum.inr:Str->Key)).zip (vs.map D.int)):=λp c=>by
 have a:p.2∈vs.map D.int:=(QeQ (show(p.1,p.2)∈_ from c)).2
 obtain⟨v,b,e⟩:=Qkq.mp a
 exact⟨v,e.symm,h v b⟩
def Co{a:List Str}{ds:List D}(h:a.length=ds.length):((a.map (Sum.inr:Str->Key)).zip ds).map (·.1)=a.map Sum.inr:=by
 rw[List.map_fst_zip]
 simpa using Nat.le_of_eq h
end DL
namespace W28
open PySem PySem.Spec L2 DL
def cV(ts:List (Str×Nat))(vs:List Int):List (Key×D):=bZ [] (((ts.map (·.1)).map Sum.inr).zip (vs.map D.int))
def xy(w:cC)(s:aN)(ts:List (Str×Nat))(vs:List Int):List (Key×D):=bZ (cV w.ak s.ak) (cV ts vs)
def pY(r:Rm)(b:dB)(a:Int):List (Key×D):=putD (cV r.ao b.vals) (.inr "given") (.int a)
def yd(r:Rm)(a:dB):List (Key×D):=bZ [] ((r.aa.zip a.aa).map λp=>(Sum.inr p.1.1,D.int (p.2.length:Nat)))
def fJ{ts:List (Str×Nat)}{vs:List Int}(h:∀v∈vs,0<=v/\v<=9):jo (cV ts vs):=jo.merge (λp a=>by cases a) (Aj h)
def fG{ts:List (Str×Nat)}{vs:List Int}(a:ts.length=vs.length){x:Str}(h:x∈ts.map (·.1)):(Sum.inr x:Key)∈(cV ts vs).map (·.1):=by
 refine eW (.inr ?_)
 rw[Co (by simpa using a)]
 exact Qkq.mpr ⟨x,h,rfl⟩
structure oB(S S':aA):Prop where
 len:S.length<=S'.length
 eq:∀j,j<S.length->S'[j]?=S[j]?
def oB.refl{S:aA}:oB S S:=⟨Qmq _,λ_ _=>rfl⟩
def oB.app{S a G:aA}(x:oB S a):oB S (a++G):=⟨by rw[lQa];have:=x.len;omega,λj b=>by rw[QHq (by have:=x.len;omega)];exact x.eq j b⟩
def oB.put{S a:aA}{r:Nat}{o:O}(x:oB S a)(c:S.length<=r):oB S (a.set r o):=⟨by simpa using x.len,λj b=>by rw[QKq (by omega)];exact x.eq j b⟩
def A9{S a:aA}{d:D}{Q:Res->aA->Prop}(x:oB S a)(hd:∀k,d≠.ref k)(c:bB 0 d=true)(q:Q (.d d) S):Op (settle S d a) λp=>Q p.1 p.2:=by
 refine fH ⟨x.len,λk o f e=>.inl (by rw[←x.eq k f];exact e)⟩ ?_ hd (lC c) q
 apply List.ext_getElem?
 intro j
 by_cases b:j<S.length
 ·rw[List.getElem?_take_of_lt b]
  exact x.eq j b
 ·rw[List.getElem?_eq_none (by rw[Qxq];omega),List.getElem?_eq_none (by omega)]
def fE:∀a:Str×Nat,∃r,uu a=.tup (.str a.1::r):=λa=>⟨_,rfl⟩
def yH:∀a:Str×Str,∃r,CQ a=.tup (.str a.1::r):=λa=>⟨_,rfl⟩
section
variable{S:aA}{Q:Res->aA->Prop}
theorem pq:∀{m l:List (Key×D)},(bZ l m).length<=l.length+m.length
 | [],l=>Qmq _
 | q::m,l=>by
   have b:(bZ (putD l q.1 q.2) m).length<=(putD l q.1 q.2).length+m.length:=pq
   have a:(putD l q.1 q.2).length<=l.length+1:=by unfold putD;split <;>simp
   show(bZ (putD l q.1 q.2) m).length<=_
   simp only[Qnq]
   omega
def pj{ts:List (Str×Nat)}{vs:List Int}:(cV ts vs).length<=ts.length:=by
 refine QAq pq ?_
 simp only[QGq,List.length_zip,lQm]
 omega
def t_{w:cC}{s:aN}{h:Nat}{ts:List (Str×Nat)}{pr:List Rw}{vs:List Int}{fs:List bH}{f:bH}{t:Tr}(u:w.af[h]?=some (ts,pr))(g:s.af[h]?=some (vs,fs))(C:fs.getLast? =some f)(H:f.room= -1)
  (p:w.ak.length=s.ak.length) (r:ts.length=vs.length) (M:w.ak.length<=100) (J:ts.length<=100) (y:∀v∈s.ak,0<=v/\v<=9) (B:∀v∈vs,0<=v/\v<=9)
  (A:t.Ok (ts.map (·.1)++w.ak.map (·.1)) []) (hd:t.dep<=6) (q:Q (.d (.int (uv (numAt (xy w s ts vs)) (λ_=>0) t))) S):Fn cK [w.d,s.d,.int h,t.d] S Q:=by
 have c:jo (xy w s ts vs):=jo.merge (fJ y) (fJ B)
 refine bD ?_
 unfold jD
 symm
 apply bp g C ?_
 apply ar (d:=.int f.room) rfl ?_
 refine fZ ?_
 dsimp only
 rw[Qeq H,Qhq rfl]
 symm
 apply EG ?_
 apply ar rfl ?_
 apply dQ (enc:=uu) (nm:=(·.1)) fE (by omega) ?_
 refine ar rfl ?_
 refine cD (ds:=s.ak.map D.int) ?_
 refine⟨_,rfl,⟨trivial,by simp only[lQm];exact p⟩,?_⟩
 dsimp only
 rw[show bZ [] (((w.ak.map (·.1)).map (Sum.inr:Str->Key)).zip (s.ak.map D.int))=cV w.ak s.ak from rfl]
 apply bz (CC (Hr ?_))
 apply EG ?_
 apply ar rfl ?_
 refine ar (d:=lJ (ts,pr)) (aI (by rw[gQm,u];rfl)) ?_
 symm
 apply ar rfl ?_
 apply dQ (enc:=uu) (nm:=(·.1)) fE (by omega) ?_
 apply ar rfl ?_
 refine ar (d:=zV (vs,fs)) (aI (by rw[gQm,g];rfl)) ?_
 symm
 refine ar rfl ?_
 refine cD (ds:=vs.map D.int) ?_
 refine⟨_,rfl,⟨trivial,by simp only[lQm];exact r⟩,?_⟩
 dsimp only
 rw[show bZ [] (((ts.map (·.1)).map (Sum.inr:Str->Key)).zip (vs.map D.int))=cV ts vs from rfl]
 have e:(S++ [O.dct (cV w.ak s.ak)])[S.length]?=some (.dct (cV w.ak s.ak)):=bN
 have o:(S++ [O.dct (cV w.ak s.ak)]).length=S.length+1:=by simp
 have F:oB S (S++ [O.dct (cV w.ak s.ak)]):=oB.refl.app
 show∃k j G l m,D.ref S.length=.ref k/\D.ref (S++ [O.dct (cV w.ak s.ak)]).length=.ref j/\k≠j/\(S++ [O.dct (cV w.ak s.ak)])[k]?=some (.dct G)/\(S++ [O.dct (cV w.ak s.ak)]++ [O.dct (cV ts vs)])[k]?=some (.dct l)/\(S++ [O.dct (cV w.ak s.ak)]++ [O.dct (cV ts vs)])[j]?=some (.dct m)/\_
 refine⟨_,_,_,_,_,rfl,rfl,by omega,e,dr e,bN,?_,?_⟩
 ·have K:=pj (ts:=w.ak) (vs:=s.ak)
  have L:=pj (ts:=ts) (vs:=vs)
  exact nQl (aH (by omega))
 have n:((S++ [O.dct (cV w.ak s.ak)]++ [O.dct (cV ts vs)]).set S.length (.dct (bZ (cV w.ak s.ak) (cV ts vs))))[S.length]?=some (.dct (xy w s ts vs)):=gH (dr e)
 have i:oB S ((S++ [O.dct (cV w.ak s.ak)]++ [O.dct (cV ts vs)]).set S.length (.dct (bZ (cV w.ak s.ak) (cV ts vs)))):=F.app.put (Qmq _)
 generalize ((S++ [O.dct (cV w.ak s.ak)]++ [O.dct (cV ts vs)]).set S.length (.dct (bZ (cV w.ak s.ak) (cV ts vs))))=S2 at n i⊢
 symm
 apply Hu ?_
 refine eY (th:=numAt (xy w s ts vs)) (wt:=λ_=>0) (ws:=ts.map (·.1)++w.ak.map (·.1)) (bs:= []) (dr n) bN (λx a=> ?_) (λb I=>by cases I) 6 t A hd ?_
 ·refine(k8 c ?_).1
  refine eW ?_
  rcases mQa.mp a with a|a
  ·exact .inr (fG r a)
  ·exact .inl (fG p a)
 ·exact A9 i.app (λk z=>(nomatch z)) rfl q
end
section
variable{S:aA}{Q:Res->aA->Prop}
theorem vE:∀(bs:List (Str×Str)) (ls:List (List (Int×Int))),qG ((bs.map (·.1)).map D.str) (ls.map du)=(bs.zip ls).map λp=>D.tup [.str p.1.1,du p.2]
 | [],_=>rfl
 |_::_,[]=>rfl
 | b::bs,l::ls=>by
   have:=vE bs ls
   simp only[qG,QDq,List.zipWith_cons_cons,List.zip_cons_cons] at this⊢
   rw[this]
def rY(r:Rm)(a:dB)(x:Str):Int:=numAt (yd r a) x
def Bv{r:Rm}{a:dB}(l:r.aa.length=a.aa.length){x:Str}(h:x∈r.aa.map (·.1)):jj (yd r a) (.inr x)=some (.int (rY r a x)):=by
 have k:(Sum.inr x:Key)∈(yd r a).map (·.1):=by
  refine eW (.inr ?_)
  rw[QPq]
  obtain⟨b,j,rfl⟩:=Qkq.mp h
  obtain⟨i,f,e⟩:=QbQ j
  refine Qkq.mpr ⟨(b,a.aa[i]'(by omega)),?_,rfl⟩
  rw[←e]
  have:(r.aa.zip a.aa)[i]?=some (r.aa[i],a.aa[i]'(by omega)):=by
   rw[List.getElem?_zip_eq_some]
   exact⟨gQe f,gQe (by omega)⟩
  exact mQg this
 obtain⟨d,g,c⟩:=rE k
 have f:∃v:Int,d=.int v:=by
  rcases kd c with c|c
  ·cases c
  ·obtain⟨p,_,e⟩:=Qkq.mp c
   exact⟨_,(congrArg (·.2) e).symm⟩
 obtain⟨v,rfl⟩:=f
 unfold rY DL.numAt
 rw[g]
def qT{w:cC}{s:aN}{h i:Nat}{vs:List Int}{fs:List bH}{f:bH}{r:Rm}{c:dB}{t:Tr}(B:s.af[h]?=some (vs,fs))(G:fs.getLast? =some f)(I:f.room=i)(n:w.aj[i]?=some r)(j:s.aj[i]?=some c)
  (A:r.ao.length=c.vals.length) (J:r.aa.length=c.aa.length) (N:r.ao.length<=100) (L:r.aa.length<=100) (C:∀v∈c.vals,0<=v/\v<=9) (u:0<=f.given/\f.given<=9)
  (F:t.Ok (r.ao.map (·.1)++mh) (r.aa.map (·.1))) (hd:t.dep<=6) (q:Q (.d (.int (uv (numAt (pY r c f.given)) (rY r c) t))) S):Fn cK [w.d,s.d,.int h,t.d] S Q:=by
 have l:jo (pY r c f.given):=(fJ C).put u.1 u.2
 refine bD ?_
 unfold jD
 symm
 apply bp B G ?_
 apply ar (d:=.int f.room) rfl ?_
 refine fZ ?_
 dsimp only
 rw[Qdq (show¬f.room= -1 by omega),Quq (by decide),I]
 apply bW ?_
 apply EG ?_
 apply ar rfl ?_
 refine ar (d:=r.d) (aI (by rw[gQm,n];rfl)) ?_
 symm
 apply ar rfl ?_
 apply dQ (enc:=uu) (nm:=(·.1)) fE (by omega) ?_
 apply ar rfl ?_
 refine ar (d:=c.d) (aI (by rw[gQm,j];rfl)) ?_
 symm
 refine ar rfl ?_
 refine cD (ds:=c.vals.map D.int) ?_
 refine⟨_,rfl,⟨trivial,by simp only[lQm];exact A⟩,?_⟩
 dsimp only
 rw[show bZ [] (((r.ao.map (·.1)).map (Sum.inr:Str->Key)).zip (c.vals.map D.int))=cV r.ao c.vals from rfl]
 have H:oB S (S++ [O.dct (cV r.ao c.vals)]):=oB.refl.app
 apply bz (I_ ?_)
 apply ar (d:=.int f.given) rfl ?_
 refine⟨_,_,_,rfl,rfl,bN,aH (by have:=pj (ts:=r.ao) (vs:=c.vals);omega),?_⟩
 have y:((S++ [O.dct (cV r.ao c.vals)]).set S.length (.dct (putD (cV r.ao c.vals) (.inr "given") (.int f.given))))[S.length]?=some (.dct (pY r c f.given)):=gH bN
 have o:oB S ((S++ [O.dct (cV r.ao c.vals)]).set S.length (.dct (putD (cV r.ao c.vals) (.inr "given") (.int f.given)))):=H.put (Qmq _)
 generalize ((S++ [O.dct (cV r.ao c.vals)]).set S.length (.dct (putD (cV r.ao c.vals) (.inr "given") (.int f.given))))=S2 at y o⊢
 apply bz (Jz (α:=(Str×Str)×List (Int×Int)) (λe=>∃a b,e= [a,b]) (λp=>D.tup [.str p.1.1,du p.2]) (λp=>p.1.1) (λp=>.int (p.2.length:Nat)) ⟨none,none,rfl⟩ (o9 ?_))
 apply ar rfl ?_
 refine ar (d:=r.d) (aI (by rw[gQm,n];rfl)) ?_
 symm
 apply ar rfl ?_
 apply dQ (enc:=CQ) (nm:=(·.1)) yH (by omega) ?_
 apply ar rfl ?_
 refine ar (d:=c.d) (aI (by rw[gQm,j];rfl)) ?_
 symm
 refine ar rfl ?_
 refine cD (ds:=c.aa.map du) ?_
 refine⟨⟨trivial,by simp only[lQm];omega⟩,r.aa.zip c.aa,vE _ _,⟨trivial,trivial⟩,by rw[List.length_zip];omega,λp M e m=> ?_,?_⟩
 ·obtain⟨a,b,rfl⟩:=m
  refine dA rfl (au (aL (au (aL (aQ ?_)))))
  apply⟨rfl,⟨_,_,rfl⟩,?_⟩
  apply⟨rfl,rfl,?_⟩
  refine cD (ds:=p.2.map pairD) ?_
  exact⟨by simp,rfl⟩
 symm
 refine eY (th:=numAt (pY r c f.given)) (wt:=rY r c) (ws:=r.ao.map (·.1)++mh) (bs:=r.aa.map (·.1)) (kws:=yd r c) (dr y) bN (λx g=> ?_) (λb K=>Bv J K) 6 t F hd ?_
 ·refine(k8 l ?_).1
  refine jB ?_
  rcases mQa.mp g with g|g
  ·exact .inr (fG A g)
  ·left
   rw[Qfq.mp g]
 ·exact A9 o.app (λk z=>(nomatch z)) rfl q
end
end W28
namespace DL
open PySem PySem.Spec L2
def xk{b:cE}{S:aA}{a:Bool}{f:aW}{g:et}{Q:D->aA->Prop}(h:E f b S λx c=>E g b c λp S2=>∃v vs,rL x=some v/\lF p.1=some vs/\Q (.bl (if a then !BO v vs else BO v vs)) S2):E (Ad a f g) b S Q:=by
 obtain⟨x,c,d,p,S2,j,v,vs,e,i,q⟩:=h
 exact⟨_,S2,by unfold Ad;rw[d];simp only[Qbq];rw[j];simp only[Qbq];rw[e,i];rfl,q⟩
def Dv{x:Str}{b:List Str}:BO (.str x) (b.map V.str)=decide (x∈b):=by
 induction b with
 |nil=>rfl
 | cons a b e=>
   show(lX (.str a) (.str x)||BO (.str x) (b.map V.str))=_
   rw[e]
   simp only[lX,Qsq]
   by_cases c:a=x
   · subst c;simp
   · have d:¬x=a:=λz=>c z.symm
     simp[c,d]
end DL
namespace W28
open PySem PySem.Spec L2 DL
section
variable{S:aA}{Q:Res->aA->Prop}
def da(ns:List Str)(vs:List Int)(x:Str)(v:Int):List Int:=vs.set ((kL (.str x) (ns.map V.str)).getD 0) v
def lH{α:Type}{enc:α->D}{nm:α->Str}{xs:List α}{x:Str}(he:∀a,∃r,enc a=.tup (.str (nm a)::r))(f:xs.length<=1000)(h:x∈xs.map nm)(q:((kL (.str x) ((xs.map nm).map V.str)).getD 0)<xs.length->Q (.d (.int ((kL (.str x) ((xs.map nm).map V.str)).getD 0:Nat))) S):Fn cf [.tup (xs.map enc),.str x] S Q:=by
 refine bD ?_
 unfold mN
 obtain⟨j,e,l⟩:=oy h
 have i:j<xs.length:=by have:=(gQs.mp l).1;simpa using this
 rw[e] at q
 refine nB ?_
 have c:E (kN (eG cX (ax (av 0) aw))) ([D.tup (xs.map enc),D.str x].map some++List.replicate (2- [D.tup (xs.map enc),D.str x].length) none) S λp b=>p=((xs.map nm).map D.str,.fr)/\b=S:=by
  symm
  exact dQ he f ⟨rfl,rfl⟩
 obtain⟨p,b,g,rfl,rfl⟩:=c
 refine⟨.int j,b,?_,bE (λk z=>(nomatch z)) rfl (q i)⟩
 unfold zm
 rw[g]
 simp only[Qbq]
 rw[Qhq (show Tag.fr.isL=true from rfl)]
 show((av 1 _ b).bind _)=_
 rw[show av 1 ([D.tup (xs.map enc),D.str x].map some++List.replicate (2- [D.tup (xs.map enc),D.str x].length) none) b=some (.str x,b) from rfl]
 simp only[Qbq]
 rw[Qhq (show Tag.stays b _ .fr from trivial)]
 show(rL (.str x)).bind _=_
 simp only[rL,Qbq]
 rw[iw]
 simp only[Qbq]
 rw[e]
 rfl
def Ay{w:cC}{s:aN}{h i:Nat}{vs:List Int}{fs:List bH}{f:bH}{r:Rm}{a:dB}{x:Str}{v:Int}(c:s.af[h]?=some (vs,fs))(j:fs.getLast? =some f)(l:f.room=i)(g:w.aj[i]?=some r)(b:s.aj[i]?=some a)
  (n:r.ao.length=a.vals.length) (p:r.ao.length<=100) (m:s.aj.length<=100) (k:x∈r.ao.map (·.1))
  (q:Q (.d ({s with aj:=s.aj.set i {a with vals:=da (r.ao.map (·.1)) a.vals x v}}:aN).d) S):Fn dF [w.d,s.d,.int h,.str x,.int v] S Q:=by
 refine bD ?_
 unfold iy
 symm
 apply bp c j ?_
 apply ar (d:=.int f.room) rfl ?_
 refine jX ?_
 dsimp only
 rw[Qdq (show¬f.room= -1 by omega),l]
 show if (true=true) then _ else _
 rw[Qhq rfl]
 symm
 apply ar rfl ?_
 refine ar (d:=r.d) (aI (by rw[gQm,g];rfl)) ?_
 symm
 apply ar rfl ?_
 apply lH (enc:=uu) (nm:=(·.1)) fE (by omega) k λo=> ?_
 apply ar rfl ?_
 refine ar (d:=a.d) (aI (by rw[gQm,b];rfl)) ?_
 symm
 apply ar rfl ?_
 refine cP (xs:=a.vals.map D.int) (by rw[lQm];omega) (by rw[lQm];omega) (aP λ_ _=>rfl) rfl ?_
 symm
 refine⟨by show 1<=_;decide,?_⟩
 apply iA ?_
 apply ar rfl ?_
 refine ar (d:=a.d) (aI (by rw[gQm,b];rfl)) ?_
 apply bC ?_
 refine⟨_,rfl,bI ⟨_,rfl,?_⟩⟩
 refine c9 (by show 5<=_;decide) ?_
 symm
 have e:({a with vals:=da (r.ao.map (·.1)) a.vals x v}:dB).d=.tup ([.tup ((a.vals.map D.int).set ((kL (.str x) ((r.ao.map (·.1)).map V.str)).getD 0) (.int v))]++eO [bS a.vals,.int a.within,bS a.row,bS a.ag,.tup (a.aa.map du)] (some 1) none):=by
  show D.tup [bS (da _ _ _ _),_,_,_,_]=_
  unfold da bS
  rw[map_set]
  rfl
 rw[←e]
 refine cp (gQs.mp b).1 (by omega) ?_
 exact bE (aG _) (aN.low _) q
end
section
variable{S:aA}{Q:Res->aA->Prop}
def pR(w:cC)(s:aN)(h:Nat)(ts:List (Str×Nat))(vs:List Int)(fs:List bH)(x:Str)(v:Int):aN:=
 if x∈w.ak.map (·.1) then{s with ak:=da (w.ak.map (·.1)) s.ak x v} else{s with af:=s.af.set h (da (ts.map (·.1)) vs x v,fs)}
def CV{w:cC}{s:aN}{h:Nat}{ts:List (Str×Nat)}{pr:List Rw}{vs:List Int}{fs:List bH}{f:bH}{x:Str}{v:Int}(g:w.af[h]?=some (ts,pr))(a:s.af[h]?=some (vs,fs))(i:fs.getLast? =some f)(k:f.room= -1)
  (r:w.ak.length=s.ak.length) (y:ts.length=vs.length) (u:w.ak.length<=100) (o:ts.length<=100) (t:s.af.length<=100) (j:x∈ts.map (·.1)++w.ak.map (·.1))
  (q:Q (.d (pR w s h ts vs fs x v).d) S):Fn dF [w.d,s.d,.int h,.str x,.int v] S Q:=by
 refine bD ?_
 unfold iy
 symm
 apply bp a i ?_
 apply ar (d:=.int f.room) rfl ?_
 refine jX ?_
 dsimp only
 rw[Qeq k]
 refine aZ (λc=>by cases c) (λ_=>bW ?_)
 apply bz (fA (gK (xk ?_)))
 apply ar rfl ?_
 apply dQ (enc:=uu) (nm:=(·.1)) fE (by omega) ?_
 refine⟨_,_,rfl,iw _,?_⟩
 unfold pR at q
 show if BO (.str x) ((w.ak.map (·.1)).map V.str)=true then _ else _
 rw[Dv]
 by_cases c:x∈w.ak.map (·.1)
 ·rw[Qhq c] at q
  rw[Qeq c,Qhq rfl]
  symm
  apply ar rfl ?_
  apply ar rfl ?_
  apply lH (enc:=uu) (nm:=(·.1)) fE (by omega) c λm=> ?_
  refine cP (xs:=s.ak.map D.int) (by rw[lQm];omega) (by rw[lQm];omega) (aP λ_ _=>rfl) rfl ?_
  symm
  apply ar rfl ?_
  apply ar rfl ?_
  apply ar rfl ?_
  refine⟨by show 4<=_;decide,?_⟩
  rw[←map_set]
  exact bE (d:=({s with ak:=da (w.ak.map (·.1)) s.ak x v}:aN).d) (aG _) (aN.low _) q
 ·rw[Quq c] at q
  rw[Qdq c,Quq (by decide)]
  refine bW ?_
  have b:x∈ts.map (·.1):=(mQa.mp j).resolve_right c
  symm
  apply ar rfl ?_
  refine ar (d:=zV (vs,fs)) (aI (by rw[gQm,a];rfl)) ?_
  apply dA rfl (au (aL (au (aL (aQ ?_)))))
  apply ar rfl ?_
  refine ar (d:=lJ (ts,pr)) (aI (by rw[gQm,g];rfl)) ?_
  symm
  apply ar rfl ?_
  apply lH (enc:=uu) (nm:=(·.1)) fE (by omega) b λm=> ?_
  refine cP (xs:=vs.map D.int) (by rw[lQm];omega) (by rw[lQm];omega) (aP λ_ _=>rfl) rfl ?_
  symm
  rw[←map_set]
  rw[show D.tup ((vs.set ((kL (.str x) ((ts.map (·.1)).map V.str)).getD 0) v).map D.int)=bS (da (ts.map (·.1)) vs x v) from rfl]
  generalize da (ts.map (·.1)) vs x v=nv at q⊢
  have l:h<s.af.length:=(gQs.mp a).1
  have n:s.af.length<=900:=by omega
  have e:Op (settle S ({s with af:=s.af.set h (nv,fs)}:aN).d S) λp=>Q p.1 p.2:=bE (aG _) (aN.low _) q
  exact fF l n e
end
section
variable{S:aA}{Q:Res->aA->Prop}
def cv(ns:List Str)(x:Str):Nat:=(kL (.str x) (ns.map V.str)).getD 0
def jl{ns:List Str}{x:Str}(h:x∈ns):cv ns x<ns.length/\ns[cv ns x]?=some x:=by
 obtain⟨j,b,a⟩:=oy h
 unfold cv
 rw[b]
 exact⟨(gQs.mp a).1,a⟩
def gZ{α:Type}{enc:α->D}{nm:α->Str}{xs:List α}{x:Str}(he:∀a,∃r,enc a=.tup (.str (nm a)::r))(b:xs.length<=1000)(c:x∈xs.map nm)(q:Q (.d (.int (cv (xs.map nm) x:Nat))) S):Fn cf [.tup (xs.map enc),.str x] S Q:=lH he b c λ_=>q
def ki{w:cC}{s:aN}{h i:Nat}{vs:List Int}{fs:List bH}{f:bH}{r:Rm}{x:Str}(b:s.af[h]?=some (vs,fs))(a:fs.getLast? =some f)(g:f.room=i)(c:w.aj[i]?=some r)(j:r.aa.length<=100)(e:x∈r.aa.map (·.1))
  (q:Q (.d (.tup [.int i,.int (cv (r.aa.map (·.1)) x:Nat)])) S):Fn hU [w.d,s.d,.int h,.str x] S Q:=by
 refine bD ?_
 unfold oZ
 symm
 apply bp b a ?_
 refine ar (d:=.int f.room) rfl ?_
 rw[g]
 symm
 apply ar rfl ?_
 refine ar (d:=r.d) (aI (by rw[gQm,c];rfl)) ?_
 symm
 apply ar rfl ?_
 apply gZ (enc:=CQ) (nm:=(·.1)) yH (by omega) e ?_
 refine⟨by show 2<=_;decide,?_⟩
 exact bE (λk z=>(nomatch z)) rfl q
def iu{s:aN}{i b:Nat}{a:dB}{l:List (Int×Int)}(c:s.aj[i]?=some a)(n:b<a.aa.length)(m:a.aa.length<=100)(k:s.aj.length<=100)
  (q:Q (.d ({s with aj:=s.aj.set i {a with aa:=a.aa.set b l}}:aN).d) S):Fn dG [s.d,.int i,.int b,du l] S Q:=by
 refine bD ?_
 unfold kI
 symm
 apply ar rfl ?_
 refine ar (d:=a.d) (aI (by rw[gQm,c];rfl)) ?_
 symm
 apply iA ?_
 apply bI (bC ?_)
 apply⟨_,rfl,_,rfl,?_⟩
 apply ar rfl ?_
 refine cP (xs:=a.aa.map du) (by rw[lQm];omega) (by rw[lQm];omega) (aP λl _=>pJ l) (pJ l) ?_
 symm
 refine⟨by show 1<=_;decide,?_⟩
 refine c9 (by show 5<=_;decide) ?_
 symm
 rw[←map_set]
 generalize h:a.aa.set b l=nb at q⊢
 have e:({a with aa:=nb}:dB).d=.tup (eO [bS a.vals,.int a.within,bS a.row,bS a.ag,.tup (a.aa.map du)] none (some 4)++ [.tup (nb.map du)]):=rfl
 rw[←e]
 have j:i<s.aj.length:=(gQs.mp c).1
 have g:s.aj.length<=900:=by omega
 have f:Op (settle S ({s with aj:=s.aj.set i {a with aa:=nb}}:aN).d S) λp=>Q p.1 p.2:=bE (aG _) (aN.low _) q
 exact cp j g f
def hJ(p:Int×List Int)(h:Int):Int×List Int:=if 0<p.1 then(p.1-1,p.2) else(p.1,p.2++ [h])
def eU(p:Int×List Int):Int×List Int:=match p.2 with
 |_::l=>(p.1,l)
 | []=>(if 9<p.1+1 then 9 else p.1+1,[])
def uX{w:cC}{s:aN}{h:Int}{x:Str}{p:Int×List Int}(i:x∈w.ai.map (·.1))(b:s.ai[cv (w.ai.map (·.1)) x]?=some p)(m:w.ai.length<=100)(k:s.ai.length<=100)(l:p.2.length<=900)
  (q:Q (.d ({s with ai:=s.ai.set (cv (w.ai.map (·.1)) x) (hJ p h)}:aN).d) S):Fn pS [w.d,s.d,.int h,.str x] S Q:=by
 refine bD ?_
 unfold xg
 symm
 apply ar rfl ?_
 refine gZ (enc:=uu) (nm:=(·.1)) fE (by omega) i ?_
 generalize cv (w.ai.map (·.1)) x=j at b q⊢
 have g:j<s.ai.length:=(gQs.mp b).1
 have f:s.ai.length<=900:=by omega
 symm
 apply ar rfl ?_
 refine ar (d:=xE p) (aI (by rw[gQm,b];rfl)) ?_
 refine dA rfl (au (aL (au (aL (aQ ?_)))))
 have a:Op (settle S ({s with ai:=s.ai.set j (hJ p h)}:aN).d S) λp=>Q p.1 p.2:=bE (aG _) (aN.low _) q
 unfold hJ at a
 symm
 by_cases c:0<p.1
 ·rw[Qhq c] at a
  rw[Qeq c,Qhq rfl]
  symm
  refine⟨by show 2<=_;decide,?_⟩
  symm
  exact ft (p:=(p.1-1,p.2)) g f a
 ·rw[Quq c] at a
  rw[Qdq c,Quq (by decide)]
  apply bW ?_
  refine⟨by show 1<=_;decide,?_⟩
  refine c9 (by simp only[lQm,Qnq,QGq];exact nQl (aH (by omega))) ?_
  symm
  refine⟨by show 2<=_;decide,?_⟩
  symm
  have e:D.tup [.int p.1,.tup (p.2.map D.int++ [.int h])]=xE (p.1,p.2++ [h]):=by simp[xE,bS]
  rw[e]
  exact ft g f a
end
section
variable{S:aA}{Q:Res->aA->Prop}
def jP{w:cC}{s:aN}{x:Str}{p:Int×List Int}(k:x∈w.ai.map (·.1))(b:s.ai[cv (w.ai.map (·.1)) x]?=some p)(n:w.ai.length<=100)(m:s.ai.length<=100)
  (q:Q (.d ({s with ai:=s.ai.set (cv (w.ai.map (·.1)) x) (eU p)}:aN).d) S):Fn eZ [w.d,s.d,.str x] S Q:=by
 refine bD ?_
 unfold jn
 symm
 apply ar rfl ?_
 refine gZ (enc:=uu) (nm:=(·.1)) fE (by omega) k ?_
 generalize cv (w.ai.map (·.1)) x=j at b q⊢
 have i:j<s.ai.length:=(gQs.mp b).1
 have h:s.ai.length<=900:=by omega
 symm
 apply ar rfl ?_
 refine ar (d:=xE p) (aI (by rw[gQm,b];rfl)) ?_
 refine dA rfl (au (aL (au (aL (aQ ?_)))))
 have g:Op (settle S ({s with ai:=s.ai.set j (eU p)}:aN).d S) λp=>Q p.1 p.2:=bE (aG _) (aN.low _) q
 obtain⟨v,f⟩:=p
 symm
 refine tP ?_
 cases f with
 | cons a l=>
   apply aZ (λ_=> ?_) (λc=>by cases c)
   apply iA ?_
   apply bC ?_
   apply⟨_,rfl,bI ⟨_,rfl,?_⟩⟩
   refine⟨by show 2<=_;decide,?_⟩
   symm
   have e:D.tup (eO ((a::l).map D.int) (some 1) none)=bS l:=by
     rw[show(some (1:Int))=some ((1:Nat):Int) from rfl,fX (by simp)]
     rfl
   rw[e]
   exact ft (p:=(v,l)) i h g
 | nil=>
   apply aZ (λc=>by cases c) (λ_=>bW ?_)
   apply AQ ?_
   refine⟨by show 2<=_;decide,?_⟩
   symm
   exact ft (p:=(if 9<v+1 then 9 else v+1,[])) i h g
def zZ{b sd hd a:D}{s:aN}(q:Q (.d s.d) S):Fn oD [b,s.d,hd,a] S Q:=by
 refine bD ?_
 unfold tM
 symm
 exact bE (aG _) (aN.low _) q
def Cc{a:D}{s:aN}{h n:Nat}{vs:List Int}{fs:List bH}{f:bH}(e:s.af[h]?=some (vs,fs))(g:fs.getLast? =some f)(i:fs.length<=900)(c:s.af.length<=900)(q:Q (.d ({s with af:=s.af.set h (vs,fs.dropLast++ [{f with row:=n}])}:aN).d) S):Fn ua [a,s.d,.int h,(Rw.go n).d] S Q:=by
 refine bD ?_
 unfold xM
 symm
 apply ar (d:=.int n) rfl ?_
 have b:Op (settle S ({s with af:=s.af.set h (vs,fs.dropLast++ [{f with row:=n}])}:aN).d S) λp=>Q p.1 p.2:=bE (aG _) (aN.low _) q
 exact m5 e g i c b
end
section
variable{S:aA}{Q:Res->aA->Prop}
def xN{w:cC}{s:aN}{h:Int}{x:Str}{p:Int×List Int}(f:x∈w.ai.map (·.1))(g:s.ai[cv (w.ai.map (·.1)) x]?=some p)(e:w.ai.length<=100)(a:s.ai.length<=100)(c:p.2.length<=900)
  (q:Q (.d ({s with ai:=s.ai.set (cv (w.ai.map (·.1)) x) (hJ p h)}:aN).d) S):Fn lU [w.d,s.d,.int h,(Rw.take x).d] S Q:=by
 refine bD ?_
 unfold o_
 symm
 apply ar (d:=.str x) rfl ?_
 have b:Op (settle S ({s with ai:=s.ai.set (cv (w.ai.map (·.1)) x) (hJ p h)}:aN).d S) λp=>Q p.1 p.2:=bE (aG _) (aN.low _) q
 exact uX f g e a c b
def wM{w:cC}{s:aN}{hd:D}{x:Str}{p:Int×List Int}(e:x∈w.ai.map (·.1))(f:s.ai[cv (w.ai.map (·.1)) x]?=some p)(c:w.ai.length<=100)(a:s.ai.length<=100)
  (q:Q (.d ({s with ai:=s.ai.set (cv (w.ai.map (·.1)) x) (eU p)}:aN).d) S):Fn lP [w.d,s.d,hd,(Rw.give x).d] S Q:=by
 refine bD ?_
 unfold oS
 symm
 apply ar (d:=.str x) rfl ?_
 have b:Op (settle S ({s with ai:=s.ai.set (cv (w.ai.map (·.1)) x) (eU p)}:aN).d S) λp=>Q p.1 p.2:=bE (aG _) (aN.low _) q
 exact jP e f c a b
end
section
variable{S:aA}{Q:Res->aA->Prop}
def wb(w:cC)(s:aN)(h:Nat)(t:Tr)(v:Int):Prop:=∀(S:aA) (Q:Res->aA->Prop),Q (.d (.int v)) S->Fn cK [w.d,s.d,.int h,t.d] S Q
def Puts(w:cC)(s:aN)(h:Nat)(x:Str)(v:Int)(a:aN):Prop:=∀(S:aA) (Q:Res->aA->Prop),Q (.d a.d) S->Fn dF [w.d,s.d,.int h,.str x,.int v] S Q
def xQ{w:cC}{s:aN}{h:Int}{x y:Str}{p a:Int×List Int}(g:x∈w.ai.map (·.1))(j:y∈w.ai.map (·.1))(k:s.ai[cv (w.ai.map (·.1)) x]?=some p)(e:w.ai.length<=100)(c:s.ai.length<=100)(i:a.2.length<=900)
  (b:(s.ai.set (cv (w.ai.map (·.1)) x) (eU p))[cv (w.ai.map (·.1)) y]?=some a)
  (q:Q (.d ({s with ai:=(s.ai.set (cv (w.ai.map (·.1)) x) (eU p)).set (cv (w.ai.map (·.1)) y) (hJ a h)}:aN).d) S):Fn lK [w.d,s.d,.int h,(Rw.pass x y).d] S Q:=by
 refine bD ?_
 unfold pU
 symm
 apply ar (d:=.str x) rfl ?_
 apply jP g k e c ?_
 apply ar (d:=.str y) rfl ?_
 have f:Op (settle S ({s with ai:=(s.ai.set (cv (w.ai.map (·.1)) x) (eU p)).set (cv (w.ai.map (·.1)) y) (hJ a h)}:aN).d S) λp=>Q p.1 p.2:=bE (aG _) (aN.low _) q
 exact uX (s:={s with ai:=s.ai.set (cv (w.ai.map (·.1)) x) (eU p)}) j b e (by simpa using c) i f
def Ab{w:cC}{s a:aN}{h:Nat}{x:Str}{t:Tr}{v:Int}(c:wb w s h t v)(b:Puts w s h x v a)(q:Q (.d a.d) S):Fn oM [w.d,s.d,.int h,(Rw.put x t).d] S Q:=by
 refine bD ?_
 unfold sQ
 symm
 apply ar (d:=.str x) rfl ?_
 apply ar (d:=t.d) rfl ?_
 apply c _ _ ?_
 refine b _ _ ?_
 exact bE (aG _) (aN.low _) q
def tV{w:cC}{s:aN}{h n:Nat}{t:Tr}{v:Int}{vs:List Int}{fs:List bH}{f:bH}(i:wb w s h t v)(e:s.af[h]?=some (vs,fs))(j:fs.getLast? =some f)(g:fs.length<=900)(b:s.af.length<=900)
  (q:Q (.d (if v=0 then({s with af:=s.af.set h (vs,fs.dropLast++ [{f with row:=n}])}:aN) else s).d) S):Fn il [w.d,s.d,.int h,(Rw.unl t n).d] S Q:=by
 refine bD ?_
 unfold kq
 symm
 apply ar (d:=t.d) rfl ?_
 apply i _ _ ?_
 refine fZ ?_
 dsimp only
 by_cases c:v=0
 ·rw[Qhq c] at q
  rw[Qeq c,Qhq rfl]
  symm
  apply ar (d:=.int n) rfl ?_
  have a:Op (settle S ({s with af:=s.af.set h (vs,fs.dropLast++ [{f with row:=n}])}:aN).d S) λp=>Q p.1 p.2:=bE (aG _) (aN.low _) q
  exact m5 e j g b a
 ·rw[Quq c] at q
  rw[Qdq c,Quq (by decide)]
  apply bW ?_
  exact bE (aG _) (aN.low _) q
end
section
variable{S:aA}{Q:Res->aA->Prop}
def xo{w:cC}{s:aN}{h:Nat}{t:Tr}{v:Int}{vs:List Int}{fs:List bH}{f:bH}(l:wb w s h t v)(c:s.af[h]?=some (vs,fs))(e:fs.getLast? =some f)(k:fs.length<=900)(j:s.af.length<=900)
  (q:Q (.d ({s with af:=s.af.set h (vs,fs.dropLast++ [{f with told:=v}])}:aN).d) S):Fn lj [w.d,s.d,.int h,(Rw.tell t).d] S Q:=by
 refine bD ?_
 unfold oT
 symm
 apply ar (d:=t.d) rfl ?_
 apply l _ _ ?_
 apply iA ?_
 refine bp c e ?_
 apply bI (bC ?_)
 apply⟨_,rfl,_,rfl,?_⟩
 refine⟨by show 1<=_;decide,?_⟩
 refine c9 (by show 5<=_;decide) ?_
 symm
 have i:0<fs.length:=by
  cases fs with
  |nil=>cases e
  |cons a b=>simp
 have g:Op (settle S ({s with af:=s.af.set h (vs,fs.dropLast++ [{f with told:=v}])}:aN).d S) λp=>Q p.1 p.2:=bE (aG _) (aN.low _) q
 exact gf (f:={f with told:=v}) c i k j g
def zX{w:cC}{s:aN}{h i:Nat}{vs:List Int}{fs:List bH}{f:bH}{r:Rm}{a:dB}{x:Str}(m:s.af[h]?=some (vs,fs))(o:fs.getLast? =some f)(t:f.room=i)(n:w.aj[i]?=some r)(c:s.aj[i]?=some a)(j:r.aa.length<=100)(v:r.aa.length=a.aa.length)(u:s.aj.length<=100)(g:x∈r.aa.map (·.1))
  (q:Q (.d ({s with aj:=s.aj.set i {a with aa:=a.aa.set (cv (r.aa.map (·.1)) x) []}}:aN).d) S):Fn oH [w.d,s.d,.int h,(Rw.all x).d] S Q:=by
 have e:=(jl g).1
 rw[lQm] at e
 refine bD ?_
 unfold sA
 symm
 apply ar (d:=.str x) rfl ?_
 refine ki m o t n j g ?_
 refine dA rfl (au (aL (au (aL (aQ ?_)))))
 generalize cv (r.aa.map (·.1)) x=b at e q⊢
 symm
 apply⟨by decide,?_⟩
 have k:Op (settle S ({s with aj:=s.aj.set i {a with aa:=a.aa.set b []}}:aN).d S) λp=>Q p.1 p.2:=bE (aG _) (aN.low _) q
 exact iu (l:= []) c (by omega) (by omega) u k
end
section
variable{S:aA}{Q:Res->aA->Prop}
def F2:∀a:Rm,∃r,a.d=.tup (.str a.name::r):=λa=>⟨_,rfl⟩
def AV:∀a:Str×List Rw,∃r,sj a=.tup (.str a.1::r):=λa=>⟨_,rfl⟩
def AA{w:cC}{s:aN}{h:Nat}{g:Option Str}{a c:Str}{t:Tr}{v:Int}{vs:List Int}{fs:List bH}{r:Rm}{f:dB}(x:wb w s h t v)(l:s.af[h]?=some (vs,fs))(k:a∈w.aj.map (·.name))(m:w.aj[cv (w.aj.map (·.name)) a]?=some r)(b:s.aj[cv (w.aj.map (·.name)) a]?=some f)(j:c∈r.ae.map (·.1))
  (F:w.aj.length<=100) (z:r.ae.length<=100) (C:s.aj.length<=100) (n:f.row.length<=900) (B:fs.length<=900) (A:s.af.length<=100)
  (q:Q (.d ({s with af:=s.af.set h (vs,fs++ [⟨(cv (w.aj.map (·.name)) a:Nat),(cv (r.ae.map (·.1)) c:Nat),0,v,0⟩]),aj:=s.aj.set (cv (w.aj.map (·.name)) a) (g5 f h)}:aN).d) S):Fn t7 [w.d,s.d,.int h,(Rw.do_ g a c t).d] S Q:=by
 refine bD ?_
 unfold xv
 symm
 apply ar rfl ?_
 apply ar (d:=.str a) rfl ?_
 refine gZ (enc:=Rm.d) (nm:=(·.name)) F2 (by omega) k ?_
 generalize cv (w.aj.map (·.name)) a=i at m b q⊢
 symm
 apply ar rfl ?_
 refine ar (d:=r.d) (aI (by rw[gQm,m];rfl)) ?_
 symm
 apply ar rfl ?_
 apply ar (d:=.str c) rfl ?_
 refine gZ (enc:=sj) (nm:=(·.1)) AV (by omega) j ?_
 generalize cv (r.ae.map (·.1)) c=dd at q⊢
 symm
 apply ar (d:=t.d) rfl ?_
 apply x _ _ ?_
 refine⟨by show 5<=_;decide,?_⟩
 symm
 apply ar rfl ?_
 refine ar (d:=zV (vs,fs)) (aI (by rw[gQm,l];rfl)) ?_
 apply dA rfl (au (aL (au (aL (aQ ?_)))))
 refine⟨by show 1<=_;decide,?_⟩
 refine c9 (by simp only[lQm,Qnq,QGq];exact nQl (aH (by omega))) ?_
 symm
 have e:fs.map bH.d++ [D.tup [.int i,.int dd,.int 0,.int v,.int 0]]=(fs++ [(⟨i,dd,0,v,0⟩:bH)]).map bH.d:=by rw[Qzq];rfl
 rw[e]
 generalize u:fs++ [(⟨i,dd,0,v,0⟩:bH)]=nf at q⊢
 have y:h<s.af.length:=(gQs.mp l).1
 apply fF (vs:=vs) (fs:=nf) y (by omega) ?_
 have o:Op (settle S ({s with af:=s.af.set h (vs,nf),aj:=s.aj.set i (g5 f h)}:aN).d S) λp=>Q p.1 p.2:=bE (aG _) (aN.low _) q
 exact qd (s:={s with af:=s.af.set h (vs,nf)}) b (by show s.aj.length<=900;omega) n o
end
section
variable{S:aA}{Q:Res->aA->Prop}
def oO(free:Bool)(a:dB)(b:Nat)(h:Int):dB:=match a.aa[b]? with
 |some (p::l)=>if free then{a with aa:=a.aa.set b l} else{a with aa:=a.aa.set b l,within:=p.2,ag:=a.ag++ [h]}
 |_=>a
def xB{w:cC}{s:aN}{h i:Nat}{vs:List Int}{fs:List bH}{f:bH}{r:Rm}{a:dB}{x:Str}(B:s.af[h]?=some (vs,fs))(G:fs.getLast? =some f)(I:f.room=i)(u:w.aj[i]?=some r)(m:s.aj[i]?=some a)(A:r.aa.length<=100)(M:r.aa.length=a.aa.length)(K:s.aj.length<=100)(L:a.ag.length<=900)(y:x∈r.aa.map (·.1))
  (q:Q (.d ({s with aj:=s.aj.set i (oO (decide (r.ah="when free")) a (cv (r.aa.map (·.1)) x) h)}:aN).d) S):Fn k0 [w.d,s.d,.int h,(Rw.call x).d] S Q:=by
 have v:=(jl y).1
 rw[lQm] at v
 have t:i<s.aj.length:=(gQs.mp m).1
 refine bD ?_
 unfold p7
 symm
 apply ar (d:=.str x) rfl ?_
 refine ki B G I u A y ?_
 refine dA rfl (au (aL (au (aL (aQ ?_)))))
 generalize cv (r.aa.map (·.1)) x=b at v q⊢
 have z:b<a.aa.length:=by omega
 obtain⟨n,k⟩:∃l,a.aa[b]?=some l:=⟨_,gQe z⟩
 have g:Op (settle S ({s with aj:=s.aj.set i (oO (decide (r.ah="when free")) a b h)}:aN).d S) λp=>Q p.1 p.2:=bE (aG _) (aN.low _) q
 unfold oO at g
 rw[k] at g
 symm
 apply ar rfl ?_
 refine ar (d:=a.d) (aI (by rw[gQm,m];rfl)) ?_
 symm
 apply ar rfl ?_
 refine ar (d:=du n) (aI (by rw[gQm,k];rfl)) ?_
 symm
 refine tP ?_
 cases n with
 | nil=>
   apply aZ (λ_=> ?_) (λc=>by cases c)
   have e:s.aj.set i a=s.aj:=by
     apply List.ext_getElem?
     intro j
     rw[List.getElem?_set]
     split
     · rename_i c
       subst c
       rw[m]
       first|done|simp[t]
     · rfl
   have C:({s with aj:=s.aj.set i a}:aN)=s:=by rw[e]
   have o:Op (settle S ({s with aj:=s.aj.set i a}:aN).d S) λp=>Q p.1 p.2:=g
   rw[C] at o
   exact o
 | cons p l=>
   apply aZ (λc=>by cases c) (λ_=>bW ?_)
   apply iA ?_
   apply bC ?_
   apply⟨_,rfl,bI ⟨_,rfl,?_⟩⟩
   have e:D.tup (eO ((p::l).map pairD) (some 1) none)=du l:=by
     rw[show(some (1:Int))=some ((1:Nat):Int) from rfl,fX (by simp)]
     rfl
   rw[e]
   refine iu m z (by omega) K ?_
   dsimp only at g
   generalize F:a.aa.set b l=nb at g⊢
   symm
   apply ar rfl ?_
   refine ar (d:=r.d) (aI (by rw[gQm,u];rfl)) ?_
   symm
   apply ar (d:=.str r.ah) rfl ?_
   refine gE ?_
   dsimp only
   by_cases c:r.ah="when free"
   · rw[Qeq c] at g⊢
     rw[Qhq rfl] at g
     rw[Qhq rfl]
     symm
     exact g
   · rw[Qdq c] at g⊢
     rw[Quq (by decide)] at g
     rw[Quq (by decide)]
     apply bW ?_
     refine ar rfl ?_
     have H:((s.aj.set i {a with aa:=nb}).map dB.d)[i]?=some ({a with aa:=nb}:dB).d:=by rw[gQm,Qyq t];rfl
     symm
     refine ar (d:=({a with aa:=nb}:dB).d) (aI H) ?_
     apply dA rfl (au (aL (au (aL (au (aL (au (aL (au (aL (aQ ?_)))))))))))
     apply ar (d:=pairD p) A0 ?_
     apply ar (d:=.int p.2) rfl ?_
     refine⟨by show 1<=_;decide,?_⟩
     refine c9 (by simp only[lQm,Qnq,QGq];exact nQl (aH (by omega))) ?_
     symm
     refine⟨by show 5<=_;decide,?_⟩
     symm
     have J:D.tup [bS a.vals,.int p.2,bS a.row,.tup (a.ag.map D.int++ [.int h]),.tup (nb.map du)]=({a with aa:=nb,within:=p.2,ag:=a.ag++ [(h:Int)]}:dB).d:=by simp[dB.d,bS]
     rw[J]
     have o:Op (settle S ({s with aj:=(s.aj.set i {a with aa:=nb}).set i {a with aa:=nb,within:=p.2,ag:=a.ag++ [(h:Int)]}}:aN).d S) λp=>Q p.1 p.2:=by rw[List.set_set];exact g
     exact cp (s:={s with aj:=s.aj.set i {a with aa:=nb}}) (by simpa using t) (by simp;omega) o
end
end W28
namespace DL
open PySem PySem.Spec L2
def ou{α:Type}{v:cE}{S:aA}{js:List (Option Nat)}{i:rN}{g:j8}{t:h_}{o:aW}{Q:List D->aA->Prop}(P:cE->Prop)(enc G:α->D)(c:α->Bool)(F:P (lO js v)) (h:E i v S λp f=>∃xs:List α,p.1=xs.map enc/\p.2 f/\xs.length<=1000∧
   (∀x∈xs,∀a,P a->Tg g (enc x) a f λb S2=>S2=f/\P b/\E t b f λk z=>z=f/\k=c x/\(c x=true->E o b f λy w=>y=G x/\w=f))/\Q ((xs.filter c).map G) f):E (dm js i g t o) v S Q:=by
 refine pE (h.mono λp f K=> ?_)
 obtain⟨xs,A,C,U,M,q⟩:=K
 refine⟨λn a r j=>r=f/\j=((xs.take n).filter c).map G/\P a,⟨rfl,rfl,F⟩,λn a r j h=>by rw[h.1];exact C,λn d a r j s h=> ?_,λa r j h=> ?_⟩
 ·obtain⟨rfl,rfl,h3⟩:=h
  have s:p.1[n]?=some d:=s
  rw[A,gQm] at s
  obtain⟨x,m,rfl⟩:=oQm.mp s
  obtain⟨b,S2,L,rfl,h4,h5⟩:=M x (mQg m) a h3
  refine⟨b,S2,L,?_⟩
  refine h5.mono λk z u=> ?_
  obtain⟨J,R,N⟩:=u
  subst J R
  have W:=(gQs.mp m).1
  have B:((xs.take (n+1)).filter c).map G=((xs.take n).filter c).map G++if c x=true then [G x] else []:=by
   rw[QYq,m]
   cases l:c x <;>simp[l]
  by_cases l:c x=true
  ·rw[Qhq l]
   refine(N l).mono λy w u=> ?_
   obtain⟨I,H⟩:=u
   subst I H
   refine⟨?_,rfl,?_,h4⟩
   ·rw[lQm]
    have:=List.length_filter_le c (xs.take n)
    rw[Qxq] at this
    exact aH (by omega)
   ·rw[B,Qhq l]
  ·rw[Quq l]
   refine⟨rfl,?_,h4⟩
   rw[B,Quq l,List.append_nil]
 ·obtain⟨rfl,rfl,_⟩:=h
  have e:p.1.length=xs.length:=by rw[A,lQm]
  show Q (((xs.take p.1.length).filter c).map G) _
  rw[e,QEq]
  exact q
end DL
namespace W28
open PySem PySem.Spec L2 DL
section
variable{S:aA}{Q:Res->aA->Prop}
def zQ(l:List (Int×Int))(t h:Int):List (Int×Int):=l.take (l.filter λp=>decide (p.1<=t)).length++ [(t,h)]++l.drop (l.filter λp=>decide (p.1<=t)).length
def wq{w:cC}{s:aN}{h i:Nat}{vs:List Int}{fs:List bH}{f:bH}{r:Rm}{m:dB}{x y:Str}{t:Tr}{v:Int}{g:List (Int×Int)}(P:s.af[h]?=some (vs,fs))(W:fs.getLast? =some f)(X:f.room=i)(L:w.aj[i]?=some r)(u:s.aj[i]?=some m)(N:r.aa.length<=100)(l2:r.aa.length=m.aa.length)(Y:s.aj.length<=100)(M:x∈r.aa.map (·.1))
  (C:r.aa[cv (r.aa.map (·.1)) x]?=some (x,y)) (k:m.aa[cv (r.aa.map (·.1)) x]?=some g) (b4:g.length<=900) (J:wb w s h t v)
  (q:Q (.d ({s with aj:=s.aj.set i (c8 {m with aa:=m.aa.set (cv (r.aa.map (·.1)) x) (zQ g (if y="turns" then v else 0) h)})}:aN).d) S):Fn kZ [w.d,s.d,.int h,(Rw.wait x t).d] S Q:=by
 have H:=(jl M).1
 rw[lQm] at H
 have U:i<s.aj.length:=(gQs.mp u).1
 refine bD ?_
 unfold qB
 symm
 apply ar (d:=.str x) rfl ?_
 refine ki P W X L N M ?_
 refine dA rfl (au (aL (au (aL (aQ ?_)))))
 generalize cv (r.aa.map (·.1)) x=b at H q C k⊢
 have hb:b<m.aa.length:=by omega
 symm
 apply ar rfl ?_
 refine ar (d:=r.d) (aI (by rw[gQm,L];rfl)) ?_
 symm
 apply ar rfl ?_
 refine ar (d:=CQ (x,y)) (aI (by rw[gQm,C];rfl)) ?_
 symm
 apply ar (d:=.str y) rfl ?_
 refine gE ?_
 dsimp only
 have A:∀j:Int,j=(if y="turns" then v else 0)->T (aD (bq 7 (bj sG (bj sG (bj sG (bj sG (av 1) (cF (.int 0))) (av 4)) (cF (.int 4))) (av 5)))
   (aD (bq 8 (iZ (kN (dm [none,none,some 6] (qF (bF (av 7))) (iP (nG 2 (aE (bK 0) (aE (bK 1) c7)))) (aO (bj IT (av 0) (av 2))) (av 0)))))
   (aD (bq 9 (az dG (ax (av 1) (ax (av 4) (ax (av 5) (ax (bj bX (bj bX (oq (av 7) nP (lV (av 8))) (aV (ax (aV (ax (av 6) (ax (av 2) aw))) aw))) (oq (av 7) (lV (av 8)) nP)) aw))))))
   (cc (az mC (ax (av 9) (ax (av 4) aw)))))))
   [some w.d,some s.d,some (.int h),some (Rw.wait x t).d,some (.int i),some (.int b),some (.int j),none,none,none] S (λo=>match o with
   |.nx _ z=>Op (settle S .non z) λp=>Q p.1 p.2|.rt d z=>Op (settle S d z) λp=>Q p.1 p.2|.rl l z=>Op (eC S l z) λp=>Q p.1 p.2|_=>False):=by
  intro j G
  rw[←G] at q
  symm
  apply ar rfl ?_
  refine ar (d:=m.d) (aI (by rw[gQm,u];rfl)) ?_
  symm
  apply ar rfl ?_
  refine ar (d:=du g) (aI (by rw[gQm,k];rfl)) ?_
  symm
  apply ou (α:=Int×Int) (λB=>∃a b,B= [a,b,some (.int j)]) pairD (λp=>.int p.1) (λp=>decide (p.1<=j)) ⟨none,none,rfl⟩ ?_
  refine cD (ds:=g.map pairD) ?_
  refine⟨g,rfl,trivial,by omega,λp H B I=> ?_,?_⟩
  ·obtain⟨a,b,rfl⟩:=I
   refine dA rfl (au (aL (au (aL (aQ ?_)))))
   apply⟨rfl,⟨_,_,rfl⟩,?_⟩
   apply⟨rfl,rfl,λ_=> ?_⟩
   exact⟨rfl,rfl⟩
  have R:((g.filter λp=>decide (p.1<=j)).map λp=>D.int p.1).length=(g.filter λp=>decide (p.1<=j)).length:=lQm ..
  have F:=List.length_filter_le (λp=>decide (p.1<=j)) g
  unfold zQ at q
  symm
  rw[R]
  generalize (g.filter λp=>decide (p.1<=j)).length=n at q F⊢
  apply iA ?_
  apply bI (bC ?_)
  refine⟨_,rfl,g.map pairD,rfl,?_⟩
  rw[Ak (by rw[lQm];exact F)]
  symm
  refine⟨by show 2<=_;decide,?_⟩
  symm
  refine⟨by show 1<=_;decide,?_⟩
  refine c9 (by simp only[lQm,Qxq,Qnq,QGq];exact nQl (aH (by omega))) ?_
  apply iA ?_
  apply bC ?_
  refine⟨_,rfl,bI ⟨g.map pairD,rfl,?_⟩⟩
  rw[fX (by rw[lQm];exact F)]
  refine c9 (by simp only[lQa,lQm,Qxq,List.length_drop,Qnq,QGq];exact nQl (aH (by omega))) ?_
  symm
  have e:D.tup ((g.map pairD).take n++ [D.tup [.int j,.int h]]++(g.map pairD).drop n)=du (g.take n++ [(j,(h:Int))]++g.drop n):=by
   simp only[du,Qzq,List.map_take,List.map_drop]
   rfl
  rw[e]
  generalize g.take n++ [(j,(h:Int))]++g.drop n=nl at q⊢
  apply iu u hb (by omega) Y ?_
  have K:Op (settle S ({s with aj:=s.aj.set i (c8 {m with aa:=m.aa.set b nl})}:aN).d S) λp=>Q p.1 p.2:=bE (aG _) (aN.low _) q
  generalize Z:({m with aa:=m.aa.set b nl}:dB)=nr at K⊢
  have q3:Op (settle S ({s with aj:=(s.aj.set i nr).set i (c8 nr)}:aN).d S) λp=>Q p.1 p.2:=by rw[List.set_set];exact K
  exact vL (s:={s with aj:=s.aj.set i nr}) (Qyq U) (by simp;omega) q3
 by_cases c:y="turns"
 ·rw[Qeq c,Qhq rfl]
  symm
  apply ar (d:=t.d) rfl ?_
  refine J _ _ ?_
  exact A v (by rw[Qhq c])
 ·rw[Qdq c,Quq (by decide)]
  refine bW ?_
  exact A 0 (by rw[Quq c])
end
end W28
namespace DL
open PySem PySem.Spec L2
section
variable{Γ:cE}{S:aA}
def Jx{a:List (Str×Str)}{g:aW}{Q:D->aA->Prop}(h:E g Γ S λy b=>∃x nm,y=.str x/\a.lookup x=some nm/\Q (.fn nm) b):E (Iw a g) Γ S Q:=by
 obtain⟨y,b,c,x,nm,rfl,e2,q⟩:=h
 exact⟨_,b,by unfold Iw;rw[c];simp only[Qbq];rw[e2];rfl,q⟩
def Cz{i:Nat}{T:List (Str×cY)}{g:fc}{x:Str}{F:cY}{Q:D->aA->Prop}(c:Γ[i]?=some (some (.fn x)))(d:T.lookup x=some F)(h:E (az F g) Γ S Q):E (qw i T g) Γ S Q:=by
 obtain⟨y,b,a,q⟩:=h
 exact⟨_,b,by unfold qw;rw[c];show(T.lookup x).bind _=_;rw[d];exact a,q⟩
def EW{f:aW}{Q:D->aA->Prop}(h:E f Γ S λd a=>∃k,d=.bl k/\Q (.bl (!k)) a):E (C7 f) Γ S Q:=by
 obtain⟨d,a,b,k,rfl,q⟩:=h
 exact⟨_,a,by unfold C7;rw[b];rfl,q⟩
def As{a:Bool}{x:D}{Q:D->Prop}(q:Q (.bl (if a then !isNone x else isNone x))):Op (vy a S x .non) Q:=⟨_,rfl,q⟩
end
def sg{α:Type}{xs:List α}{a b:α}:lW (xs++ [a,b]) (-2)=some a:=by
 unfold lW yV
 rw[Quq (by omega),Qhq (by simp;omega)]
 simp only[Qbq]
 rw[show((-2:Int)+((xs++ [a,b]).length:Int)).toNat=xs.length by simp;omega]
 simp
end DL
namespace W28
open PySem PySem.Spec L2 DL
section
variable{S:aA}{Q:Res->aA->Prop}
def KE:Rw->cY
 |.put _ _=>oM
 |.unl _ _=>il
 |.go _=>ua
 |.do_ _ _ _ _=>t7
 |.wait _ _=>kZ
 |.call _=>k0
 |.all _=>oH
 |.tell _=>lj
 |.take _=>lU
 |.give _=>lP
 |.pass _ _=>lK
 |.say _=>oD
def Rw.kind:Rw->Str
 |.put _ _=>"put"
 |.unl _ _=>"unless"
 |.go _=>"go"
 |.do_ _ _ _ _=>"do"
 |.wait _ _=>"wait"
 |.call _=>"call"
 |.all _=>"all"
 |.tell _=>"tell"
 |.take _=>"take"
 |.give _=>"give"
 |.pass _ _=>"pass"
 |.say _=>"say"
def Rw.d_kind(r:Rw):∃l,r.d=.tup (.str r.kind::l):=by cases r <;>exact⟨_,rfl⟩
def Dm(r:Rw):∃nm,jH.lookup r.kind=some nm/\qm.lookup nm=some (KE r):=by
 cases r
 ·exact⟨"by_put",rfl,rfl⟩
 ·exact⟨"by_unless",rfl,rfl⟩
 ·exact⟨"by_go",rfl,rfl⟩
 ·exact⟨"by_do",rfl,rfl⟩
 ·exact⟨"by_wait",rfl,rfl⟩
 ·exact⟨"by_call",rfl,rfl⟩
 ·exact⟨"by_all",rfl,rfl⟩
 ·exact⟨"by_tell",rfl,rfl⟩
 ·exact⟨"by_take",rfl,rfl⟩
 ·exact⟨"by_give",rfl,rfl⟩
 ·exact⟨"by_pass",rfl,rfl⟩
 ·exact⟨"by_say",rfl,rfl⟩
def EH(w:cC)(s:aN)(h:Nat)(r:Rw)(a:aN):Prop:=∀(S:aA) (Q:Res->aA->Prop),Q (.d a.d) S->Fn (KE r) [w.d,s.d,.int h,r.d] S Q
def uV{w:cC}{s b:aN}{h:Nat}{r:Rw}(hd:EH w s h r b)(q:Q (.d b.d) S):Fn hZ [w.d,s.d,.int h,r.d] S Q:=by
 obtain⟨c,e,f⟩:=Dm r
 obtain⟨l,a⟩:=r.d_kind
 refine bD ?_
 unfold rD
 apply bz (B8 (Jx ?_))
 rw[a]
 refine ar (d:=.str r.kind) A0 ?_
 rw[←a]
 refine⟨_,c,rfl,e,?_⟩
 apply nB (Cz (x:=c) rfl f ?_)
 refine hd _ _ ?_
 exact bE (aG _) (aN.low _) q
def ny{w:cC}{s p:aN}{h i:Nat}{vs:List Int}{e:List bH}{b f:bH}{l:dB}{pr:List Rw}{g:Option Str}{u v:Str}{t:Tr}(r:s.af[h]?=some (vs,e++ [b,f]))(A:f.room=i)(n:s.aj[i]?=some l)(C:s.aj.length<=900)(y:s.af.length<=900)
  (z:progOf w h b=some pr) (F:1<=b.row) (k:pr[(b.row-1).toNat]?=some (.do_ g u v t))
  (j:∀a:aN,a={s with aj:=s.aj.set i (c8 l),af:=s.af.set h (vs,e++ [b])}->match g with|none=>p=a|some x=>Puts w a h x f.told p)
  (q:Q (.d p.d) S):Fn gS [w.d,s.d,.int h] S Q:=by
 have B:h<s.af.length:=(gQs.mp r).1
 refine bD ?_
 unfold mM
 symm
 apply ar rfl ?_
 refine ar (d:=zV (vs,e++ [b,f])) (aI (by rw[gQm,r];rfl)) ?_
 refine dA rfl (au (aL (au (aL (aQ ?_)))))
 have m:(e++ [b,f]).map bH.d=e.map bH.d++ [b.d,f.d]:=by simp
 dsimp only
 rw[m]
 symm
 apply nh ?_
 refine⟨1,rfl,?_⟩
 refine ar (d:=f.d) (pW (by simp)) ?_
 refine dA rfl (au (aL (au (aL (au (aL (au (aL (au (aL (aQ ?_)))))))))))
 rw[A]
 symm
 apply vL n C ?_
 apply iA ?_
 apply bI (bC (nh ?_))
 refine⟨1,rfl,_,rfl,_,rfl,?_⟩
 rw[vT (by simp)]
 have o:D.tup ((e.map bH.d++ [b.d,f.d]).dropLast)=.tup ((e++ [b]).map bH.d):=by
  rw[show e.map bH.d++ [b.d,f.d]=(e.map bH.d++ [b.d])++ [f.d] by simp,List.dropLast_concat]
  simp
 rw[o]
 symm
 refine fF (s:={s with aj:=s.aj.set i (c8 l)}) B y ?_
 have j:=j _ rfl
 dsimp only at j⊢
 generalize ({s with aj:=s.aj.set i (c8 l),af:=s.af.set h (vs,e++ [b])}:aN)=a at j⊢
 symm
 apply nh ?_
 refine⟨2,rfl,?_⟩
 apply ar (d:=b.d) sg ?_
 apply dD z ?_
 apply nh ?_
 refine⟨2,rfl,?_⟩
 apply ar (d:=b.d) sg ?_
 apply ar (d:=.int b.row) rfl ?_
 refine ar (d:=(Rw.do_ g u v t).d) (jI (by omega) (by rw[gQm,k];rfl)) ?_
 symm
 apply ar (d:=Fu g) rfl ?_
 refine As ?_
 cases g with
 | none=>
   dsimp only at j
   subst j
   apply aZ (λ_=> ?_) (λc=>by cases c)
   exact bE (aG _) (aN.low _) q
 | some x=>
   apply aZ (λc=>by cases c) (λ_=>bW ?_)
   apply ar (d:=.str x) rfl ?_
   refine j _ _ ?_
   exact bE (aG _) (aN.low _) q
end
section
variable{S:aA}{Q:Res->aA->Prop}
def JW(h:Nat):Option Int->D
 |none=>.non
 |some v=>.tup [.int h,.int v]
def Dg(h:Nat)(e:Option Int):bB 0 (JW h e)=true:=by cases e <;>rfl
def EN(s:aN)(h:Nat)(e:Option Int):D:=.tup [s.d,JW h e]
def oE(s:aN)(h:Nat)(e:Option Int):bB 0 (EN s h e)=true:=by
 simp only[EN,bB,bo,Dg,aN.low,Bool.and_true]
def u0(w:cC)(s:aN)(h:Nat)(a:aN)(e:Option Int):Prop:=∀(S:aA) (Q:Res->aA->Prop),Q (.d (EN a h e)) S->Fn kS [w.d,s.d,.int h] S Q
def zW{w:cC}{s:aN}{h i:Nat}{vs:List Int}{fs:List bH}{f:bH}{a:dB}(e:s.af[h]?=some (vs,fs))(j:fs.getLast? =some f)(l:f.room=i)(b:s.aj[i]?=some a)(g:a.within≠h)(m:s.aj.length<=900)(c:a.row.length<=900):
  u0 w s h {s with aj:=s.aj.set i (g5 a h)} none:=by
 intro S Q q
 refine bD ?_
 unfold ju
 symm
 apply bp e j ?_
 apply ar (d:=.int f.room) rfl ?_
 refine jX ?_
 dsimp only
 rw[Qdq (show¬f.room= -1 by omega),l]
 show if (true=true) then _ else _
 rw[Qhq rfl]
 symm
 apply ar rfl ?_
 refine ar (d:=a.d) (aI (by rw[gQm,b];rfl)) ?_
 symm
 apply ar (d:=.int a.within) rfl ?_
 refine jX ?_
 dsimp only
 rw[Qdq g]
 show if (true=true) then _ else _
 rw[Qhq rfl]
 symm
 apply qd b m c ?_
 refine⟨by show 2<=_;decide,?_⟩
 exact bE (d:=EN _ h none) (λk z=>(nomatch z)) (oE _ _ _) q
def Here(s:aN)(h:Nat)(f:bH):Prop:=f.room= -1\/∃(i:Nat) (a:dB),f.room=i/\s.aj[i]?=some a/\a.within=h
def rQ{w:cC}{s:aN}{h:Nat}{f:bH}{a b c d:Option D}{Q:Bool->aA->Prop}(k:Here s h f)(q:Q false S):E (vj (aO (bj (gL true) (av 4) (cF (.int (-1))))) (aO (bj (gL true) (bj sG (bj sG (bj sG (av 1) (cF (.int 0))) (av 4)) (cF (.int 1))) (av 2)))) [some w.d,some s.d,some (.int h),some f.d,some (.int f.room),a,b,c] S Q:=by
 rcases k with g|⟨i,j,g,e,l⟩
 ·symm
  refine jX ?_
  dsimp only
  rw[Qeq g]
  show if (false=true) then _ else _
  rw[Quq (by decide)]
  exact q
 ·symm
  refine jX ?_
  dsimp only
  rw[Qdq (show¬f.room= -1 by omega),g]
  show if (true=true) then _ else _
  rw[Qhq rfl]
  symm
  apply ar rfl ?_
  refine ar (d:=j.d) (aI (by rw[gQm,e];rfl)) ?_
  symm
  apply ar (d:=.int j.within) rfl ?_
  refine jX ?_
  dsimp only
  rw[Qeq l]
  exact q
def vn{w:cC}{s b:aN}{h:Nat}{vs:List Int}{fs:List bH}{f:bH}{pr:List Rw}(e:s.af[h]?=some (vs,fs))(i:fs.getLast? =some f)(j:Here s h f)(g:progOf w h f=some pr)(a:f.row=pr.length)
  (he:∀(S:aA) (Q:Res->aA->Prop),Q (.d b.d) S->Fn gS [w.d,s.d,.int h] S Q):u0 w s h b none:=by
 intro S Q q
 refine bD ?_
 unfold ju
 symm
 apply bp e i ?_
 refine ar (d:=.int f.room) rfl ?_
 refine bz (fA (rQ (d:=none) j ?_))
 apply aZ (λc=>by cases c) (λ_=>bW ?_)
 apply dD g ?_
 apply ar (d:=.int f.row) rfl ?_
 refine fZ ?_
 dsimp only
 rw[lQm,Qeq a,Qhq rfl]
 symm
 apply he _ _ ?_
 refine⟨by show 2<=_;decide,?_⟩
 exact bE (d:=EN _ h none) (λk z=>(nomatch z)) (oE _ _ _) q
def FL(w:cC)(s:aN)(h:Nat)(r:Rw)(e:Option Int):Prop:=match r with
 |.say t=>∃v,e=some v/\wb w s h t v
 |_=>e=none
def vp{w:cC}{s n:aN}{h:Nat}{vs:List Int}{fs:List bH}{f:bH}{pr:List Rw}{r:Rw}{e:Option Int}(j:s.af[h]?=some (vs,fs))(m:fs.getLast? =some f)(B:Here s h f)(y:progOf w h f=some pr)(x:0<=f.row)(b:pr[f.row.toNat]?=some r)(C:fs.length<=900)(u:s.af.length<=900)
  (a:FL w s h r e) (hd:EH w {s with af:=s.af.set h (vs,fs.dropLast++ [{f with row:=f.row+1}])} h r n):u0 w s h n e:=by
 intro S Q q
 have A:=(gQs.mp b).1
 refine bD ?_
 unfold ju
 symm
 apply bp j m ?_
 refine ar (d:=.int f.room) rfl ?_
 refine bz (fA (rQ (d:=none) B ?_))
 apply aZ (λc=>by cases c) (λ_=>bW ?_)
 apply dD y ?_
 apply ar (d:=.int f.row) rfl ?_
 refine fZ ?_
 dsimp only
 rw[lQm,Qdq (show¬f.row=(pr.length:Int) by omega),Quq (by decide)]
 apply bW ?_
 refine ar (d:=.int f.row) rfl ?_
 refine ar (d:=r.d) (jI x (by rw[gQm,b];rfl)) ?_
 symm
 obtain⟨l,F⟩:=r.d_kind
 have i:T (cc (aV (ax (az hZ (ax (av 0) (ax (az ir (ax (av 1) (ax (av 2) (ax (bj bX (bj sG (av 3) (cF (.int 2))) (cF (.int 1))) aw)))) (ax (av 2) (ax (av 6) aw))))) (ax (av 7) aw))))
   [some w.d,some s.d,some (.int h),some f.d,some (.int f.room),some (.tup (pr.map Rw.d)),some r.d,some (JW h e)] S (λo=>match o with
   |.nx _ g=>Op (settle S .non g) λp=>Q p.1 p.2|.rt d g=>Op (settle S d g) λp=>Q p.1 p.2|.rl l g=>Op (eC S l g) λp=>Q p.1 p.2|_=>False):=by
  symm
  apply ar (d:=.int f.row) rfl ?_
  apply m5 j m C u ?_
  apply uV hd ?_
  refine⟨by show 2<=_;decide,?_⟩
  exact bE (d:=EN _ h e) (λk z=>(nomatch z)) (oE _ _ _) q
 cases r with
 | say t=>
   obtain⟨v,rfl,hv⟩:=a
   apply ar (d:=.str "say") rfl ?_
   refine gE ?_
   dsimp only
   rw[Qeq rfl,Qhq rfl]
   symm
   apply ar (d:=t.d) rfl ?_
   apply hv _ _ ?_
   refine⟨by show 2<=_;decide,?_⟩
   exact i
 | _=>
   have a:e=none:=a
   subst a
   apply ar rfl ?_
   refine gE ?_
   dsimp only
   refine aZ (λc=>absurd (QZq c) (by decide +kernel)) (λ_=>bW ?_)
   exact i
end
end W28
namespace DL
open PySem PySem.Spec L2
section
variable{Γ:cE}{S:aA}
def Bz{f:aW}{g:et}{Q:D->aA->Prop}(h:E f Γ S λx b=>∃k a,x=.ref k/\b[k]?=some (.lst a)/\E g Γ b λp S2=>∃ds,S2[k]?=some (.lst ds)/\(p.2.isL=false/\ds.length+p.1.length<=sizeLine)/\Q .non (S2.set k (.lst (ds++p.1)))):E (rT f g) Γ S Q:=by
 obtain⟨x,b,c,k,a,rfl,h1,p,S2,e2,ds,h2,h3,q⟩:=h
 exact⟨_,_,by unfold rT;rw[c];simp only[Qbq,e2,h1,h2];rw[Qhq h3],q⟩
end
def xR{S a:aA}{k:Nat}{ds:List D}{Q:Res×aA->Prop}(b:lR S a)(e:S.length<=k)(c:a[k]?=some (.lst ds))(d:bo S.length ds=true)(q:Q (.l ds,a.take S.length)):Op (settle S (.ref k) a) Q:=by
 refine⟨_,?_,q⟩
 unfold settle
 rw[Qhq b]
 show(if k<S.length then _ else _)=_
 rw[Quq (by omega),c]
 show(if bo S.length ds=true then _ else _)=_
 rw[Qhq d]
def tJ{n:Nat}(h:n<=100000):n<=sizeLine:=QAq h (by decide)
theorem dM:∀a:List Int,lF (a.map D.int)=some (a.map V.int)
 | []=>rfl
 |s::a=>by simp only[QDq,lF,rL,Qbq];rw[dM a];rfl
def jJ{x:Int}{b:List Int}:BO (.int x) (b.map V.int)=decide (x∈b):=by
 induction b with
 |nil=>rfl
 | cons a b e=>
   show(lX (.int a) (.int x)||BO (.int x) (b.map V.int))=_
   rw[e]
   simp only[lX,Qsq]
   by_cases c:a=x
   · subst c;simp
   · have d:¬x=a:=λz=>c z.symm
     simp[c,d]
end DL
namespace W28
open PySem PySem.Spec L2 DL
section
variable{S:aA}{Q:Res->aA->Prop}
def vU{S a:aA}(x:oB S a):a.take S.length=S:=by
 apply List.ext_getElem?
 intro j
 by_cases b:j<S.length
 ·rw[List.getElem?_take_of_lt b]
  exact x.eq j b
 ·rw[List.getElem?_eq_none (by rw[Qxq];omega),List.getElem?_eq_none (by omega)]
def FU{S a:aA}{ds:List D}{Q:Res->aA->Prop}(x:oB S a)(b:bo 0 ds=true)(q:Q (.l ds) S):Op (eC S ds a) λp=>Q p.1 p.2:=
 oQ ⟨x.len,λk o c e=>.inl (by rw[←x.eq k c];exact e)⟩ (vU x) (g6 b) q
def Es{S a:aA}{k:Nat}{ds:List D}{Q:Res->aA->Prop}(x:oB S a)(b:S.length<=k)(c:a[k]?=some (.lst ds))(d:bo 0 ds=true)(q:Q (.l ds) S):Op (settle S (.ref k) a) λp=>Q p.1 p.2:=
 xR ⟨x.len,λk o b e=>.inl (by rw[←x.eq k b];exact e)⟩ b c (g6 d) (by rw[vU x];exact q)
def nu{l:List (Int×Int)}(f:l.length<=1000)(q:Q (.l ((l.map (·.2)).map D.int)) S):Fn gR [du l] S Q:=by
 refine bD ?_
 unfold mH
 symm
 apply mD (α:=Int×Int) (λc=>∃a b,c= [a,b]) pairD (λp=>.int p.2) ⟨none,none,rfl⟩ ?_
 refine cD (ds:=l.map pairD) ?_
 refine⟨l,rfl,trivial,f,λp g c d=> ?_,?_⟩
 ·obtain⟨a,b,rfl⟩:=d
  refine dA rfl (au (aL (au (aL (aQ ?_)))))
  apply⟨rfl,⟨_,_,rfl⟩,?_⟩
  exact⟨rfl,rfl⟩
 ·have e:l.map (λp=>D.int p.2)=(l.map (·.2)).map D.int:=by rw[QPq];rfl
  rw[e]
  exact Bj (aP λ_ _=>rfl) q
def fV(r:dB):List Int:=r.row++r.ag++r.aa.flatMap λl=>l.map (·.2)
def held(s:aN):List Int:=s.ai.flatMap (·.2)++s.aj.flatMap fV
theorem kT{α c:Type}{f:α->List c}{n:Nat}:∀{l:List α},(∀a∈l,(f a).length<=n)->(l.flatMap f).length<=n*l.length
 | [],_=>by simp
 | a::l,h=>by
   have e:=h a (QBq ..)
   have g:=kT (f:=f) (l:=l) λb d=>h b (Qpq _ d)
   rw[QSq,lQa,Qnq,Nat.mul_add]
   omega
def fM{α b:Type}{f:α->List b}{l:List α}{n:Nat}{a:α}(h:l[n]?=some a):(l.take (n+1)).flatMap f=(l.take n).flatMap f++f a:=by
 rw[QYq,h]
 simp
def m6{s:aN}{n:Nat}(P:n<=100)(b1:s.ai.length<=100)(b2:s.aj.length<=20)(N:∀p∈s.ai,p.2.length<=n)(J:∀r∈s.aj,r.row.length<=n/\r.ag.length<=n/\r.aa.length<=10/\∀l∈r.aa,l.length<=n)
  (q:Q (.l ((held s).map D.int)) S):Fn dh [s.d] S Q:=by
 have Z:∀o:List D,oB S (S++ [.lst o]):=λo=>oB.refl.app
 have G:∀r∈s.aj,∀j:Nat,((r.aa.take j).flatMap λl=>l.map (·.2)).length<=1000:=λr G j=>by
  obtain⟨_,_,R,U⟩:=J r G
  have H:=kT (f:=λl:List (Int×Int)=>l.map (·.2)) (n:=n) (l:=r.aa.take j) λl v=>by rw[lQm];exact U l (List.mem_of_mem_take v)
  have C:(r.aa.take j).length<=10:=by rw[Qxq];omega
  have Y:n*(r.aa.take j).length<=100*10:=Nat.mul_le_mul P C
  omega
 have K:∀r∈s.aj,(fV r).length<=1200:=λr h=>by
  have I:=G r h r.aa.length
  obtain⟨h2,R,_⟩:=J r h
  rw[QEq] at I
  simp only[fV,lQa]
  omega
 have x:∀j:Nat,((s.ai.take j).flatMap (·.2)).length<=10000:=λj=>by
  have H:=kT (f:=λp:Int×List Int=>p.2) (n:=n) (l:=s.ai.take j) λl v=>N l (List.mem_of_mem_take v)
  have C:(s.ai.take j).length<=100:=by rw[Qxq];omega
  have Y:n*(s.ai.take j).length<=100*100:=Nat.mul_le_mul P C
  omega
 have L:∀j:Nat,((s.aj.take j).flatMap fV).length<=24000:=λj=>by
  have H:=kT (f:=fV) (n:=1200) (l:=s.aj.take j) λl v=>K l (List.mem_of_mem_take v)
  have C:(s.aj.take j).length<=20:=by rw[Qxq];omega
  omega
 refine bD ?_
 unfold fU
 symm
 refine⟨by decide,?_⟩
 apply bz (iJ (sN ?_))
 refine ar rfl ?_
 refine cD (ds:=s.ai.map xE) ?_
 refine⟨λj k u=>(∃a b c d e f g,k= [some s.d,some (.ref S.length),a,b,c,d,e,f,g])/\u=S++ [.lst (((s.ai.take j).flatMap (·.2)).map D.int)],⟨⟨_,_,_,_,_,_,_,rfl⟩,rfl⟩,λ_ _ _ _=>trivial,?_,?_⟩
 ·rintro j d k u t ⟨⟨a,b,c,F,e,f,g,rfl⟩,rfl⟩
  have t:(s.ai.map xE)[j]?=some d:=t
  rw[gQm] at t
  obtain⟨p,M,rfl⟩:=oQm.mp t
  refine dA rfl (au (aL (au (aL (aQ ?_)))))
  apply CC (Bz ?_)
  apply⟨_,_,rfl,bN,?_⟩
  refine cD (ds:=p.2.map D.int) ?_
  refine⟨_,bN,⟨rfl,?_⟩,⟨_,_,_,_,_,_,_,rfl⟩,?_⟩
  ·have:=x j
   have:=N p (mQg M)
   simp only[lQm]
   exact tJ (by omega)
  ·rw[fM M,Qzq]
   simp
 rintro k u ⟨⟨a,b,c,F,e,f,g,rfl⟩,rfl⟩
 have v:(s.ai.map xE).length=s.ai.length:=lQm ..
 rw[v,QEq]
 apply bz (iJ (sN ?_))
 refine ar rfl ?_
 refine cD (ds:=s.aj.map dB.d) ?_
 refine⟨λj k u=>(∃a b c d e f g,k= [some s.d,some (.ref S.length),a,b,c,d,e,f,g])/\u=S++ [.lst ((s.ai.flatMap (·.2)++(s.aj.take j).flatMap fV).map D.int)],⟨⟨_,_,_,_,_,_,_,rfl⟩,by simp⟩,λ_ _ _ _=>trivial,?_,?_⟩
 ·rintro j d k u t ⟨⟨a,b,c,F,e,f,g,rfl⟩,rfl⟩
  have t:(s.aj.map dB.d)[j]?=some d:=t
  rw[gQm] at t
  obtain⟨r,A,rfl⟩:=oQm.mp t
  have w:=mQg A
  obtain⟨h2,R,U,H⟩:=J r w
  have y:(s.ai.flatMap (·.2)++(s.aj.take j).flatMap fV).length<=34000:=by
   have:=x s.ai.length
   rw[QEq] at this
   have:=L j
   rw[lQa]
   omega
  generalize z:s.ai.flatMap (·.2)++(s.aj.take j).flatMap fV=o at y⊢
  refine dA rfl (au (aL (au (aL (au (aL (au (aL (au (aL (aQ ?_)))))))))))
  apply bz (CC (Bz ?_))
  apply⟨_,_,rfl,bN,?_⟩
  refine c9 (i:=r.row.map D.int) (j:=r.ag.map D.int) (by simp only[lQm];exact tJ (by omega)) ?_
  refine cD ?_
  refine⟨_,bN,⟨rfl,?_⟩,?_⟩
  ·simp only[lQa,lQm]
   exact tJ (by omega)
  dsimp only
  have X:(S++ [O.lst (o.map D.int)]).set S.length (.lst (o.map D.int++(r.row.map D.int++r.ag.map D.int)))=S++ [.lst ((o++(r.row++r.ag)).map D.int)]:=by simp
  rw[X]
  apply iJ (sN ?_)
  refine⟨λj k u=>(∃a b c d e f g,k= [some s.d,some (.ref S.length),a,b,c,d,e,f,g])/\u=S++ [.lst ((o++(r.row++r.ag)++(r.aa.take j).flatMap λl=>l.map (·.2)).map D.int)],⟨⟨_,_,_,_,_,_,_,rfl⟩,by simp⟩,λ_ _ _ _=>trivial,?_,?_⟩
  ·rintro m d k u t ⟨⟨a,b,c,F,e,f,g,rfl⟩,rfl⟩
   have t:(r.aa.map du)[m]?=some d:=t
   rw[gQm] at t
   obtain⟨l,B,rfl⟩:=oQm.mp t
   have W:=H l (mQg B)
   refine aL ?_
   apply CC (G5 ?_)
   apply⟨_,_,rfl,bN,?_⟩
   apply nu (by omega) ?_
   refine⟨_,bN,⟨rfl,?_⟩,⟨_,_,_,_,_,_,_,rfl⟩,?_⟩
   ·have:=G r w m
    simp only[lQa,lQm]
    exact tJ (by omega)
   ·rw[fM B,←Qvq,Qzq]
    simp
  ·rintro k u ⟨I,rfl⟩
   refine⟨I,?_⟩
   have v:(r.aa.map du).length=r.aa.length:=lQm ..
   rw[v,QEq,fM A]
   subst z
   simp only[fV,Qvq]
 ·rintro k u ⟨⟨a,b,c,F,e,f,g,rfl⟩,rfl⟩
  have v:(s.aj.map dB.d).length=s.aj.length:=lQm ..
  rw[v,QEq]
  symm
  exact Es (Z _) (Qmq _) bN (aP λ_ _=>rfl) q
end
section
variable{S:aA}{Q:Res->aA->Prop}
def qy(s:aN)(h:Nat):Option bH:=(s.af[h]?).bind λp=>p.2.getLast?
def pk(w:cC)(s:aN)(h:Nat):Bool:=match qy s h with
 |some f=>decide (f.room= -1)&&decide (f.row=(((progOf w h f).getD []).length:Int))
 |none=>false
def mP{w:cC}{s:aN}{h:Nat}{vs:List Int}{fs:List bH}{f:bH}{pr:List Rw}(b:s.af[h]?=some (vs,fs))(a:fs.getLast? =some f)(e:progOf w h f=some pr)(q:Q (.d (.bl (pk w s h))) S):Fn eh [w.d,s.d,.int h] S Q:=by
 have g:pk w s h=(decide (f.room= -1)&&decide (f.row=(pr.length:Int))):=by
  unfold pk qy
  rw[b]
  show(match fs.getLast? with|some f=>_|none=>_)=_
  rw[a]
  simp only[e,Option.getD_some]
 rw[g] at q
 refine bD ?_
 unfold fR
 symm
 apply bp b a ?_
 apply t6 ?_
 apply ar (d:=.int f.room) rfl ?_
 refine fZ ?_
 refine⟨_,rfl,?_⟩
 by_cases c:f.room= -1
 ·rw[Qeq c] at q⊢
  rw[Qhq rfl]
  symm
  apply ar (d:=.int f.row) rfl ?_
  apply dD e ?_
  refine fZ ?_
  rw[lQm]
  exact bE (λk z=>(nomatch z)) rfl q
 ·rw[Qdq c] at q⊢
  rw[Quq (by decide)]
  exact bE (λk z=>(nomatch z)) rfl q
def m4(w:cC)(s:aN):List Nat:=(List.range s.af.length).filter λh=> !decide ((h:Int)∈held s)&& !pk w s h
def aY(h:Nat):D:=.int h
def Gb(w:cC)(s:aN):Prop:=∀(S:aA) (Q:Res->aA->Prop),Q (.l ((m4 w s).map aY)) S->Fn jE [w.d,s.d] S Q
def uz{w:cC}{s:aN}(m:∀(S:aA) (Q:Res->aA->Prop),Q (.l ((held s).map D.int)) S->Fn dh [s.d] S Q)(j:∀h<s.af.length,∃vs fs f pr,s.af[h]?=some (vs,fs)/\fs.getLast? =some f/\progOf w h f=some pr)(p:s.af.length<=100):Gb w s:=by
 intro S Q q
 refine bD ?_
 unfold mU
 symm
 apply m _ _ ?_
 apply ou (α:=Nat) (λb=>∃a,b= [a,some w.d,some s.d,some (.ref S.length)]) (λ(i:Nat)=>D.int (0+(i:Int))) aY (λh=> !decide ((h:Int)∈held s)&& !pk w s h) ⟨none,rfl⟩ ?_
 apply ar rfl ?_
 refine⟨_,rfl,?_,?_⟩
 ·simp only[lQm]
  omega
 refine⟨List.range s.af.length,?_,trivial,by simp;omega,λh n b e=> ?_,?_⟩
 ·simp only[i3,lQm]
  rfl
 ·obtain⟨a,rfl⟩:=e
  obtain⟨vs,fs,f,pr,g,o,k⟩:=j h (List.mem_range.mp n)
  refine aL ⟨rfl,⟨_,rfl⟩,?_⟩
  rw[Int.zero_add]
  apply EF (gK (xk ?_))
  refine eI (ds:=(held s).map D.int) bN ?_
  refine⟨_,_,rfl,dM _,?_⟩
  rw[jJ]
  by_cases c:(h:Int)∈held s
  ·rw[Qeq c]
   refine aZ (λc=>by cases c) (λ_=> ?_)
   exact⟨rfl,rfl,λc=>by cases c⟩
  ·rw[Qdq c]
   apply aZ (λ_=> ?_) (λc=>by cases c)
   refine mP g o k ?_
   dsimp only
   refine qh ?_
   apply⟨rfl,rfl,λ_=> ?_⟩
   exact⟨rfl,rfl⟩
 ·refine FU (oB.refl.app) (aP λ_ _=>rfl) q
def iz{w:cC}{s b:aN}{h:Nat}{e:Option Int}(i:Gb w s)(f:h∈m4 w s)(a:u0 w s h b e)(q:Q (.d (EN b h e)) S):Fn gX [w.d,s.d,.int h] S Q:=by
 refine bD ?_
 unfold qA
 apply bz (fA (gK (xk ?_)))
 refine i _ _ ?_
 dsimp only
 have g:(m4 w s).map aY=((m4 w s).map λh:Nat=>(h:Int)).map D.int:=by rw[QPq];rfl
 refine⟨_,_,rfl,by rw[g];exact dM _,?_⟩
 rw[jJ,Qeq (Qkq.mpr ⟨h,f,rfl⟩)]
 apply aZ (λc=>by cases c) (λ_=>bW ?_)
 refine a _ _ ?_
 exact bE (λk z=>(nomatch z)) (oE _ _ _) q
end
structure g_(n:Nat)(r:Rm)(rs:dB):Prop where
 lv:r.ao.length=rs.vals.length
 lb:r.aa.length=rs.aa.length
 vv:∀v∈rs.vals,0<=v/\v<=9
 br:rs.row.length<=n
 bl:rs.ag.length<=n
 bb:∀l∈rs.aa,l.length<=n
structure AL(w:cC)(h:Nat)(f:bH):Prop where
 pr:∃pr,progOf w h f=some pr/\0<=f.row/\f.row<=pr.length
 gv:0<=f.given/\f.given<=9
 tv:0<=f.told/\f.told<=9
def JO(w:cC)(h:Nat)(f:bH):Prop:=∃a g b c t,progOf w h f=some a/\1<=f.row/\a[(f.row-1).toNat]?=some (.do_ g b c t)
def gY:List bH->Prop
 | []=>False
 |f0::tl=>f0.room= -1/\∀f∈tl,f.room≠-1
structure g9(w:cC)(n h:Nat)(ts:List (Str×Nat))(vs:List Int)(fs:List bH):Prop where
 lv:ts.length=vs.length
 vv:∀v∈vs,0<=v/\v<=9
 lf:fs.length<=n
 fr:∀f∈fs,AL w h f
 hd:gY fs
 ch:∀f∈fs.dropLast,JO w h f
structure bT(w:cC)(n:Nat)(s:aN):Prop where
 lr:w.aj.length=s.aj.length
 rm:∀(i:Nat) (r:Rm) (rs:dB),w.aj[i]?=some r->s.aj[i]?=some rs->g_ n r rs
 lp:w.ai.length=s.ai.length
 ps:∀p∈s.ai,p.2.length<=n
 ls:w.ak.length=s.ak.length
 sv:∀v∈s.ak,0<=v/\v<=9
 lh:w.af.length=s.af.length
 hd:∀(h:Nat) (ts:List (Str×Nat)) (pr:List Rw) (vs:List Int) (fs:List bH),w.af[h]?=some (ts,pr)->s.af[h]?=some (vs,fs)->g9 w n h ts vs fs
def g_.mono{n m:Nat}{r:Rm}{a:dB}(h:g_ n r a)(l:n<=m):g_ m r a:=⟨h.lv,h.lb,h.vv,QAq h.br l,QAq h.bl l,λx b=>QAq (h.bb x b) l⟩
def g9.mono{w:cC}{n m h:Nat}{ts:List (Str×Nat)}{vs:List Int}{fs:List bH}(x:g9 w n h ts vs fs)(l:n<=m):g9 w m h ts vs fs:=⟨x.lv,x.vv,QAq x.lf l,x.fr,x.hd,x.ch⟩
def bT.mono{w:cC}{n m:Nat}{s:aN}(x:bT w n s)(l:n<=m):bT w m s:=⟨x.lr,λi r f a b=>(x.rm i r f a b).mono l,x.lp,λp j=>QAq (x.ps p j) l,x.ls,x.sv,x.lh,λh c d e g a b=>(x.hd h c d e g a b).mono l⟩
def get_set{α:Type}{l:List α}{i j:Nat}{a b:α}(h:(l.set i a)[j]?=some b):(j=i/\b=a)\/(j≠i/\l[j]?=some b):=by
 rw[List.getElem?_set] at h
 split at h
 ·rename_i c
  split at h
  ·cases h;exact .inl ⟨c.symm,rfl⟩
  ·cases h
 ·rename_i c
  exact .inr ⟨λz=>c z.symm,h⟩
def bT.room{w:cC}{n i:Nat}{s:aN}{r:Rm}{d:dB}(x:bT w n s)(f:w.aj[i]?=some r)(g:g_ n r d):bT w n {s with aj:=s.aj.set i d} where
 lr:=by simpa using x.lr
 rm:=λj e a b c=>by
  rcases get_set c with⟨rfl,rfl⟩|⟨_,c⟩
  ·rw[f] at b;cases b;exact g
  ·exact x.rm j e a b c
 lp:=x.lp
 ps:=x.ps
 ls:=x.ls
 sv:=x.sv
 lh:=x.lh
 hd:=x.hd
def bT.pass{w:cC}{n i:Nat}{s:aN}{p:Int×List Int}(x:bT w n s)(b:p.2.length<=n):bT w n {s with ai:=s.ai.set i p} where
 lr:=x.lr
 rm:=x.rm
 lp:=by simpa using x.lp
 ps:=λq a=>by
  rcases QTq a with a|rfl
  ·exact x.ps q a
  ·exact b
 ls:=x.ls
 sv:=x.sv
 lh:=x.lh
 hd:=x.hd
def bT.share{w:cC}{n:Nat}{s:aN}{vs:List Int}(x:bT w n s)(a:vs.length=s.ak.length)(b:∀v∈vs,0<=v/\v<=9):bT w n {s with ak:=vs}:=⟨x.lr,x.rm,x.lp,x.ps,by rw[x.ls,←a],b,x.lh,x.hd⟩
def bT.hand{w:cC}{n h:Nat}{s:aN}{ts:List (Str×Nat)}{pr:List Rw}{vs:List Int}{fs:List bH}(x:bT w n s)(i:w.af[h]?=some (ts,pr))(k:g9 w n h ts vs fs):bT w n {s with af:=s.af.set h (vs,fs)} where
 lr:=x.lr
 rm:=x.rm
 lp:=x.lp
 ps:=x.ps
 ls:=x.ls
 sv:=x.sv
 lh:=by simpa using x.lh
 hd:=λj d b f c a g=>by
  rcases get_set g with⟨rfl,e⟩|⟨_,g⟩
  ·rw[i] at a;cases a;cases e;exact k
  ·exact x.hd j d b f c a g
def kE{α:Type}{l:List α}{a:α}(h:l.getLast? =some a):l=l.dropLast++ [a]:=by
 cases l with
 |nil=>cases h
 | cons x y=>
   have b:x::y≠[]:=by simp
   rw[List.getLast?_eq_some_getLast b] at h
   cases h
   exact(List.dropLast_concat_getLast b).symm
def gY.last{fs:List bH}{f f':bH}:∀{b:List bH},gY (b++ [f])->f'.room=f.room->gY (b++ [f'])
 | [],h,e=>⟨by rw[e];exact h.1,λ_ z=>by cases z⟩
 | a::l,h,e=>⟨h.1,λx c=>by
   rcases mQa.mp c with c|c
   · exact h.2 x (mQa.mpr (.inl c))
   · rw[Qfq.mp c,e];exact h.2 f (mQa.mpr (.inr (Qfq.mpr rfl)))⟩
def gY.push{f':bH}:∀{fs:List bH},gY fs->f'.room≠-1->gY (fs++ [f'])
 | [],h,_=>h.elim
 | a::l,h,e=>⟨h.1,λx b=>by
   rcases mQa.mp b with b|b
   · exact h.2 x b
   · rw[Qfq.mp b];exact e⟩
def gY.pop{c f:bH}:∀{d:List bH},gY (d++ [c,f])->gY (d++ [c])
 | [],h=>⟨h.1,λ_ z=>by cases z⟩
 | a::l,h=>⟨h.1,λx b=>h.2 x (by
   rcases mQa.mp b with b|b
   · exact mQa.mpr (.inl b)
   · exact mQa.mpr (.inr (by rw[Qfq.mp b];simp)))⟩
def gY.two{f:bH}:∀{b:List bH},gY (b++ [f])->f.room≠-1->∃d c,b=d++ [c]
 | [],h,e=>absurd h.1 e
 |a::l,h,e=>⟨(a::l).dropLast,(a::l).getLast (by simp),(List.dropLast_concat_getLast (by simp)).symm⟩
section
variable{w:cC}{n h:Nat}{ts:List (Str×Nat)}{vs:List Int}{fs:List bH}{f f' f2:bH}
def g9.setLast(x:g9 w n h ts vs fs)(d:fs.getLast? =some f)(e:f'.room=f.room)(i:AL w h f'):g9 w n h ts vs (fs.dropLast++ [f']):=by
 have c:=kE d
 have b:=x.hd
 rw[c] at b
 refine⟨x.lv,x.vv,?_,λg a=> ?_,gY.last (fs:=fs) b e,λg a=> ?_⟩
 ·have:=congrArg List.length c
  have:=x.lf
  simp only[lQa,Qnq,QGq] at *
  omega
 ·rcases mQa.mp a with a|a
  ·exact x.fr g (List.dropLast_subset _ a)
  ·rw[Qfq.mp a];exact i
 ·rw[List.dropLast_concat] at a
  exact x.ch g a
def g9.push(x:g9 w n h ts vs fs)(b:fs.getLast? =some f)(d:JO w h f)(e:f'.room≠-1)(i:AL w h f'):g9 w (n+1) h ts vs (fs++ [f']):=by
 refine⟨x.lv,x.vv,?_,λg a=> ?_,x.hd.push e,λg a=> ?_⟩
 ·have:=x.lf
  simp only[lQa,Qnq,QGq]
  omega
 ·rcases mQa.mp a with a|a
  ·exact x.fr g a
  ·rw[Qfq.mp a];exact i
 ·rw[List.dropLast_concat,kE b] at a
  rcases mQa.mp a with a|a
  ·exact x.ch g a
  ·rw[Qfq.mp a];exact d
def g9.pop{b:List bH}(x:g9 w n h ts vs (b++ [f2,f])):g9 w n h ts vs (b++ [f2])/\JO w h f2:=by
 have e:(b++ [f2,f]).dropLast=b++ [f2]:=by rw[show b++ [f2,f]=(b++ [f2])++ [f] by simp,List.dropLast_concat]
 have c:=x.ch
 rw[e] at c
 refine⟨⟨x.lv,x.vv,?_,λg a=>x.fr g ?_,x.hd.pop,λg a=>c g ?_⟩,c f2 (by simp)⟩
 ·have:=x.lf
  simp only[lQa,Qnq,QGq] at *
  omega
 ·rcases mQa.mp a with a|a
  ·exact mQa.mpr (.inl a)
  ·exact mQa.mpr (.inr (by rw[Qfq.mp a];simp))
 ·rw[List.dropLast_concat] at a
  exact mQa.mpr (.inl a)
def g9.vals{a:List Int}(x:g9 w n h ts vs fs)(b:a.length=vs.length)(c:∀v∈a,0<=v/\v<=9):g9 w n h ts a fs:=⟨by rw[x.lv,b],c,x.lf,x.fr,x.hd,x.ch⟩
def g9.last(x:g9 w n h ts vs fs):∃f,fs.getLast? =some f/\AL w h f:=by
 have:=x.hd
 cases fs with
 |nil=>exact this.elim
 | cons a l=>
   refine⟨_,List.getLast?_eq_some_getLast (by simp),x.fr _ (List.getLast_mem (by simp))⟩
end
def iB{w:cC}{h:Nat}{f:bH}{pr:List Rw}(a:progOf w h f=some pr):(f.room= -1/\∃ts,w.af[h]?=some (ts,pr))\/∃(i j:Nat) (r:Rm) (g:Str),f.room=i/\f.deed=j/\w.aj[i]?=some r/\r.ae[j]?=some (g,pr):=by
 unfold progOf at a
 split at a
 ·rename_i c
  obtain⟨⟨ts,b⟩,d,e⟩:=oQm.mp a
  cases e
  exact .inl ⟨c,ts,d⟩
 ·split at a
  ·rename_i c
   obtain⟨r,d,e⟩:=aq a
   obtain⟨⟨g,b⟩,k,l⟩:=oQm.mp e
   cases l
   exact .inr ⟨f.room.toNat,f.deed.toNat,r,g,by omega,by omega,d,k⟩
  ·cases a
def zT{w:cC}{h i j:Nat}{f:bH}{r:Rm}{e:Str}{pr:List Rw}(c:f.room=i)(d:f.deed=j)(a:w.aj[i]?=some r)(b:r.ae[j]?=some (e,pr)):progOf w h f=some pr:=by
 unfold progOf
 rw[Quq (by omega),Qhq ⟨by omega,by omega⟩,c,d]
 show(w.aj[i]?).bind _=_
 rw[a]
 show(r.ae[j]?).map _=_
 rw[b]
 rfl
def zq(w:cC)(h:Nat)(f:bH):Option Sc:=if f.room= -1 then(w.af[h]?).map λp=>⟨true,p.1.map (·.1)++w.ak.map (·.1),p.1.map (·.1)++w.ak.map (·.1),[],eg w.aj,w.ai.map (·.1)⟩
 else(w.aj[f.room.toNat]?).map λr=>⟨false,r.ao.map (·.1)++mh,r.ao.map (·.1),r.aa.map (·.1),eg w.aj,[]⟩
def Cd{w:cC}{h:Nat}{f:bH}{pr:List Rw}(o:iI w)(g:progOf w h f=some pr):∃b,zq w h f=some b/\FF b pr:=by
 unfold zq
 rcases iB g with⟨c,k,a⟩|⟨i,j,r,m,a,l,d,e⟩
 ·rw[Qhq c,a]
  exact⟨_,rfl,(o.hd _ (mQg a)).pr⟩
 ·rw[Quq (by omega),a]
  refine⟨_,by rw[show((i:Int)).toNat=i by omega,d];rfl,((o.rm _ (mQg d)).pr _ (mQg e)).1⟩
def zv{w:cC}(o:iI w):bT w 1 (cR w) where
 lr:=by simp[cR]
 rm:=λi r s c d=>by
  simp only[cR,gQm,c,Option.map_some,Option.some.injEq] at d
  subst d
  have g:=o.rm r (mQg c)
  refine⟨by simp[cI,dI],by simp[cI],λv b=> ?_,by simp[cI],by simp[cI],λl j=> ?_⟩
  ·simp only[cI,dI,Qkq] at b
   obtain⟨p,a,rfl⟩:=b
   have:=g.tv p a
   omega
  ·simp only[cI,Qkq] at j
   obtain⟨p,a,rfl⟩:=j
   simp
 lp:=by simp[cR]
 ps:=λp a=>by
  simp only[cR,Qkq] at a
  obtain⟨p,a,rfl⟩:=a
  simp
 ls:=by simp[cR,dI]
 sv:=λv b=>by
  simp only[cR,dI,Qkq] at b
  obtain⟨p,a,rfl⟩:=b
  have:=o.sv p a
  omega
 lh:=by simp[cR]
 hd:=λh m k n q c d=>by
  simp only[cR,gQm,c,Option.map_some,Option.some.injEq] at d
  cases d
  have g:=o.hd _ (mQg c)
  refine⟨by simp[dI],λv b=> ?_,by simp,λf e=> ?_,⟨rfl,λ_ z=>by cases z⟩,λf e=>by cases e⟩
  ·simp only[dI,Qkq] at b
   obtain⟨p,a,rfl⟩:=b
   have:=g.tv p a
   omega
  ·rw[Qfq.mp e]
   refine⟨⟨k,?_,by decide,?_⟩,by decide,by decide⟩
   ·unfold progOf
    rw[Qhq (show z3.room= -1 from rfl),c]
    rfl
   ·show(0:Int)<=_
    omega
def zE(s:aN)(h:Nat):List Int×List bH:=(s.af[h]?).getD ([],[])
def Ij(w:cC)(h:Nat):List (Str×Nat)×List Rw:=(w.af[h]?).getD ([],[])
def fN(s:aN)(h:Nat):bH:=((zE s h).2.getLast?).getD z3
def Bh(w:cC)(i:Nat):Rm:=(w.aj[i]?).getD ⟨"","",[],[],[]⟩
def r_(s:aN)(i:Nat):dB:=(s.aj[i]?).getD ⟨[],0,[],[],[]⟩
def Ep(s:aN)(k:Nat):Int×List Int:=(s.ai[k]?).getD (0,[])
def y8(s:aN)(h:Nat)(f:bH):aN:={s with af:=s.af.set h ((zE s h).1,(zE s h).2.dropLast++ [f])}
def mT(s:aN)(i:Nat)(r:dB):aN:={s with aj:=s.aj.set i r}
def vK(s:aN)(k:Nat)(p:Int×List Int):aN:={s with ai:=s.ai.set k p}
def de(w:cC)(s:aN)(h:Nat)(t:Tr):Int:=
 if (fN s h).room= -1 then uv (numAt (xy w s (Ij w h).1 (zE s h).1)) (λ_=>0) t
 else uv (numAt (pY (Bh w (fN s h).room.toNat) (r_ s (fN s h).room.toNat) (fN s h).given)) (rY (Bh w (fN s h).room.toNat) (r_ s (fN s h).room.toNat)) t
def sD(w:cC)(s:aN)(h:Nat)(x:Str)(v:Int):aN:=
 if (fN s h).room= -1 then pR w s h (Ij w h).1 (zE s h).1 (zE s h).2 x v
 else mT s (fN s h).room.toNat {r_ s (fN s h).room.toNat with vals:=da ((Bh w (fN s h).room.toNat).ao.map (·.1)) (r_ s (fN s h).room.toNat).vals x v}
def D2(r:Rm)(a:dB)(b:Str)(v:Int)(h:Nat):dB:=
 c8 {a with aa:=a.aa.set (cv (r.aa.map (·.1)) b) (zQ ((a.aa[cv (r.aa.map (·.1)) b]?).getD []) (if ((r.aa[cv (r.aa.map (·.1)) b]?).getD ("","")).2="turns" then v else 0) h)}
def jZ(w:cC)(s:aN)(h:Nat):Rw->aN
 |.put x t=>sD w s h x (de w s h t)
 |.unl t n=>if de w s h t=0 then y8 s h {fN s h with row:=n} else s
 |.go n=>y8 s h {fN s h with row:=n}
 |.do_ _ a c t=>mT {s with af:=s.af.set h ((zE s h).1,(zE s h).2++ [⟨(cv (w.aj.map (·.name)) a:Nat),(cv ((Bh w (cv (w.aj.map (·.name)) a)).ae.map (·.1)) c:Nat),0,de w s h t,0⟩])} (cv (w.aj.map (·.name)) a) (g5 (r_ s (cv (w.aj.map (·.name)) a)) h)
 |.wait b t=>mT s (fN s h).room.toNat (D2 (Bh w (fN s h).room.toNat) (r_ s (fN s h).room.toNat) b (de w s h t) h)
 |.call b=>mT s (fN s h).room.toNat (oO (decide ((Bh w (fN s h).room.toNat).ah="when free")) (r_ s (fN s h).room.toNat) (cv ((Bh w (fN s h).room.toNat).aa.map (·.1)) b) h)
 |.all b=>mT s (fN s h).room.toNat {r_ s (fN s h).room.toNat with aa:=(r_ s (fN s h).room.toNat).aa.set (cv ((Bh w (fN s h).room.toNat).aa.map (·.1)) b) []}
 |.tell t=>y8 s h {fN s h with told:=de w s h t}
 |.take p=>vK s (cv (w.ai.map (·.1)) p) (hJ (Ep s (cv (w.ai.map (·.1)) p)) h)
 |.give p=>vK s (cv (w.ai.map (·.1)) p) (eU (Ep s (cv (w.ai.map (·.1)) p)))
 |.pass p q=>vK (vK s (cv (w.ai.map (·.1)) p) (eU (Ep s (cv (w.ai.map (·.1)) p)))) (cv (w.ai.map (·.1)) q) (hJ (Ep (vK s (cv (w.ai.map (·.1)) p) (eU (Ep s (cv (w.ai.map (·.1)) p)))) (cv (w.ai.map (·.1)) q)) h)
 |.say _=>s
def uj(s:aN)(h:Nat):aN:=mT {s with af:=s.af.set h ((zE s h).1,(zE s h).2.dropLast)} (fN s h).room.toNat (c8 (r_ s (fN s h).room.toNat))
def DJ(w:cC)(s:aN)(h:Nat):Option Rw:=(progOf w h (fN s h)).bind λa=>a[((fN s h).row-1).toNat]?
def xC(w:cC)(s:aN)(h:Nat):aN:=match DJ w (uj s h) h with
 |some (.do_ (some x) _ _ _)=>sD w (uj s h) h x (fN s h).told
 |_=>uj s h
def iL(s:aN)(h:Nat):aN:=y8 s h {fN s h with row:=(fN s h).row+1}
def FS(w:cC)(s:aN)(h:Nat):Rw->Option Int
 |.say t=>some (de w s h t)
 |_=>none
def dj(w:cC)(s:aN)(h:Nat):aN×Option Int:=
 if (fN s h).room≠-1/\(r_ s (fN s h).room.toNat).within≠h then(mT s (fN s h).room.toNat (g5 (r_ s (fN s h).room.toNat) h),none)
 else match progOf w h (fN s h) with
  |none=>(s,none)
  | some a=>if (fN s h).row=a.length then(xC w s h,none) else match a[(fN s h).row.toNat]? with
    |none=>(s,none)
    |some r=>(jZ w (iL s h) h r,FS w s h r)
section
variable{w:cC}{h:Nat}{s:aN}{vs:List Int}{fs:List bH}{f:bH}
def i4(a:s.af[h]?=some (vs,fs)):zE s h=(vs,fs):=by unfold zE;rw[a];rfl
def ef(a:s.af[h]?=some (vs,fs))(b:fs.getLast? =some f):fN s h=f:=by unfold fN;rw[i4 a];show(fs.getLast?).getD _=f;rw[b];rfl
def AU{p:List (Str×Nat)×List Rw}(a:w.af[h]?=some p):Ij w h=p:=by unfold Ij;rw[a];rfl
def kC{i:Nat}{r:Rm}(a:w.aj[i]?=some r):Bh w i=r:=by unfold Bh;rw[a];rfl
def eK{i:Nat}{r:dB}(a:s.aj[i]?=some r):r_ s i=r:=by unfold r_;rw[a];rfl
def tZ{i:Nat}{p:Int×List Int}(a:s.ai[i]?=some p):Ep s i=p:=by unfold Ep;rw[a];rfl
def fq{g:bH}(a:s.af[h]?=some (vs,fs)):y8 s h g={s with af:=s.af.set h (vs,fs.dropLast++ [g])}:=by unfold y8;rw[i4 a]
end
section
variable{w:cC}{n h:Nat}{s:aN}{vs:List Int}{fs:List bH}{f:bH}{sc:Sc}
def bT.whand(x:bT w n s)(a:s.af[h]?=some (vs,fs)):∃ts pr,w.af[h]?=some (ts,pr)/\g9 w n h ts vs fs:=by
 have b:h<w.af.length:=by rw[x.lh];exact(gQs.mp a).1
 exact⟨_,_,gQe b,x.hd h _ _ vs fs (gQe b) a⟩
def bT.wroom{i:Nat}{r:Rm}(x:bT w n s)(a:w.aj[i]?=some r):∃c,s.aj[i]?=some c/\g_ n r c:=by
 have b:i<s.aj.length:=by rw[←x.lr];exact(gQs.mp a).1
 exact⟨_,gQe b,x.rm i r _ a (gQe b)⟩
def jd{t:Sc}(a:zq w h f=some t):(f.room= -1/\∃ts pr,w.af[h]?=some (ts,pr)/\t=⟨true,ts.map (·.1)++w.ak.map (·.1),ts.map (·.1)++w.ak.map (·.1),[],eg w.aj,w.ai.map (·.1)⟩)∨
  (f.room≠-1/\∃r,w.aj[f.room.toNat]?=some r/\t=⟨false,r.ao.map (·.1)++mh,r.ao.map (·.1),r.aa.map (·.1),eg w.aj,[]⟩):=by
 unfold zq at a
 split at a
 ·rename_i c
  obtain⟨⟨ts,pr⟩,b,d⟩:=oQm.mp a
  exact .inl ⟨c,ts,pr,b,d.symm⟩
 ·rename_i c
  obtain⟨r,b,d⟩:=oQm.mp a
  exact .inr ⟨c,r,b,d.symm⟩
def mJ(x:AL w h f)(c:f.room≠-1):f.room=(f.room.toNat:Int):=by
 obtain⟨e,b,_⟩:=x.pr
 rcases iB b with⟨a,_⟩|⟨i,_,_,_,d,_⟩
 ·exact absurd a c
 ·omega
def jL{t:Tr}(o:iI w)(x:bT w n s)(d:s.af[h]?=some (vs,fs))(k:fs.getLast? =some f)(A:zq w h f=some sc)(e:Fd sc t):(0<=de w s h t/\de w s h t<=9)/\wb w s h t (de w s h t):=by
 obtain⟨v,K,p,j⟩:=x.whand d
 have H:=o.hd _ (mQg p)
 have u:=j.fr f (QcQ k)
 have M:=o.l3
 have F:=H.l1
 have C:=x.ls
 rcases jd A with⟨c,I,G,g,rfl⟩|⟨c,r,hr,rfl⟩
 ·rw[p] at g
  cases g
  have b:jo (xy w s v vs):=jo.merge (fJ x.sv) (fJ j.vv)
  have z:de w s h t=uv (numAt (xy w s v vs)) (λ_=>0) t:=by unfold de;rw[ef d k,Qhq c,AU p,i4 d]
  rw[z]
  refine⟨?_,λS Q q=>t_ p d k c C j.lv (by omega) (by dsimp only at F;omega) x.sv j.vv e.1 (by have:=e.2;omega) q⟩
  refine jK (ws:=v.map (·.1)++w.ak.map (·.1)) (bs:= []) (λy a=> ?_) e.1
  refine(k8 b (eW ?_)).2
  rcases mQa.mp a with a|a
  ·exact .inr (fG j.lv a)
  ·exact .inl (fG C a)
 ·obtain⟨B,m,l⟩:=x.wroom hr
  have i:=o.rm r (mQg hr)
  have L:=i.l1
  have J:=i.l2
  have b:jo (pY r B f.given):=(fJ l.vv).put u.gv.1 u.gv.2
  have z:de w s h t=uv (numAt (pY r B f.given)) (rY r B) t:=by unfold de;rw[ef d k,Quq c,kC hr,eK m]
  rw[z]
  refine⟨?_,λS Q q=>qT d k (mJ u c) hr m l.lv l.lb (by omega) (by omega) l.vv u.gv e.1 (by have:=e.2;omega) q⟩
  refine jK (ws:=r.ao.map (·.1)++mh) (bs:=r.aa.map (·.1)) (λy a=> ?_) e.1
  refine(k8 b (jB ?_)).2
  rcases mQa.mp a with a|a
  ·exact .inr (fG l.lv a)
  ·left
   rw[Qfq.mp a]
def ko{ns:List Str}{y:Str}{v:Int}{a:List Int}(c:∀v∈a,0<=v/\v<=9)(d:0<=v/\v<=9):(da ns a y v).length=a.length/\∀u∈da ns a y v,0<=u/\u<=9:=by
 unfold da
 refine⟨by simp,λz b=> ?_⟩
 rcases QTq b with b|rfl
 ·exact c z b
 ·exact d
def xS{y:Str}{v:Int}(o:iI w)(x:bT w n s)(b:s.af[h]?=some (vs,fs))(g:fs.getLast? =some f)(t:zq w h f=some sc)(B:y∈sc.ps)(u:0<=v/\v<=9):Puts w s h y v (sD w s h y v)/\bT w n (sD w s h y v):=by
 obtain⟨A,L,e,l⟩:=x.whand b
 have H:=o.hd _ (mQg e)
 have G:=l.fr f (QcQ g)
 have R:=o.l1
 have P:=o.l3
 have C:=H.l1
 have J:=o.l4
 have M:=x.lr
 have K:=x.lh
 rcases jd t with⟨c,I,F,d,rfl⟩|⟨c,r,hr,rfl⟩
 ·rw[e] at d
  cases d
  have p:sD w s h y v=pR w s h A vs fs y v:=by unfold sD;rw[ef b g,Qhq c,AU e,i4 b]
  rw[p]
  refine⟨λS Q q=>CV e b g c x.ls l.lv (by omega) (by dsimp only at C;omega) (by omega) B q,?_⟩
  unfold pR
  split
  ·obtain⟨k,i⟩:=ko (ns:=w.ak.map (·.1)) (y:=y) x.sv u
   exact x.share k i
  ·obtain⟨k,i⟩:=ko (ns:=A.map (·.1)) (y:=y) l.vv u
   exact x.hand e (l.vals k i)
 ·obtain⟨z,j,a⟩:=x.wroom hr
  have m:=o.rm r (mQg hr)
  have N:=m.l1
  have p:sD w s h y v={s with aj:=s.aj.set f.room.toNat {z with vals:=da (r.ao.map (·.1)) z.vals y v}}:=by unfold sD;rw[ef b g,Quq c,kC hr,eK j];rfl
  rw[p]
  refine⟨λS Q q=>Ay b g (mJ G c) hr j a.lv (by omega) (by omega) B q,?_⟩
  obtain⟨k,i⟩:=ko (ns:=r.ao.map (·.1)) (y:=y) a.vv u
  exact x.room hr ⟨by rw[a.lv,←k],a.lb,i,a.br,a.bl,a.bb⟩
def bT.goes{m:Int}{pr:List Rw}(x:bT w n s)(e:s.af[h]?=some (vs,fs))(a:fs.getLast? =some f)(k:progOf w h f=some pr)(g:0<=m)(j:m<=pr.length):bT w n {s with af:=s.af.set h (vs,fs.dropLast++ [{f with row:=m}])}:=by
 obtain⟨l,d,i,c⟩:=x.whand e
 have b:=c.fr f (QcQ a)
 exact x.hand i (c.setLast a rfl ⟨⟨pr,k,g,j⟩,b.gv,b.tv⟩)
def bT.tells{v:Int}(x:bT w n s)(e:s.af[h]?=some (vs,fs))(a:fs.getLast? =some f)(i:0<=v/\v<=9):bT w n {s with af:=s.af.set h (vs,fs.dropLast++ [{f with told:=v}])}:=by
 obtain⟨j,d,g,c⟩:=x.whand e
 have b:=c.fr f (QcQ a)
 exact x.hand g (c.setLast a rfl ⟨b.pr,b.gv,i⟩)
def g_.come{r:Rm}{b:dB}{k:Int}(x:g_ n r b):g_ (n+1) r (g5 b k):=by
 unfold g5
 have:=x.br
 split
 ·exact⟨x.lv,x.lb,x.vv,by show b.row.length<=_;omega,Nat.le_succ_of_le x.bl,λl a=>Nat.le_succ_of_le (x.bb l a)⟩
 ·exact⟨x.lv,x.lb,x.vv,by simp;omega,Nat.le_succ_of_le x.bl,λl a=>Nat.le_succ_of_le (x.bb l a)⟩
def g_.leave{r:Rm}{c:dB}(x:g_ n r c):g_ n r (c8 c):=by
 obtain⟨e,b,d,j,k⟩:=c
 have g:=x.br
 have i:=x.bl
 unfold c8
 dsimp only at g i⊢
 cases j with
 |cons a l=>exact⟨x.lv,x.lb,x.vv,x.br,by simp at i;show l.length<=n;omega,x.bb⟩
 | nil=>
   cases d with
   |cons a l=>exact⟨x.lv,x.lb,x.vv,by simp at g;show l.length<=n;omega,x.bl,x.bb⟩
   |nil=>exact⟨x.lv,x.lb,x.vv,x.br,x.bl,x.bb⟩
def g_.line{r:Rm}{a:dB}{b:Nat}{l:List (Int×Int)}(x:g_ n r a)(d:l.length<=n):g_ n r {a with aa:=a.aa.set b l}:=⟨x.lv,by simp;exact x.lb,x.vv,x.br,x.bl,λk c=>by
 rcases QTq c with c|rfl
 ·exact x.bb k c
 ·exact d⟩
def g_.call{r:Rm}{a:dB}{b:Nat}{k:Int}{c:Bool}(x:g_ n r a):g_ (n+1) r (oO c a b k):=by
 unfold oO
 split
 ·rename_i p l e
  have d:=x.bb _ (mQg e)
  have y:=(x.mono (Nat.le_succ n)).line (b:=b) (l:=l) (by simp at d;omega)
  have z:=x.bl
  split
  ·exact y
  ·exact⟨y.lv,y.lb,y.vv,y.br,by simp;omega,y.bb⟩
 ·exact x.mono (Nat.le_succ n)
def AI{l:List (Int×Int)}{a b:Int}:(zQ l a b).length=l.length+1:=by
 unfold zQ
 have:=List.length_filter_le (λp:Int×Int=>decide (p.1<=a)) l
 simp only[lQa,Qxq,List.length_drop,Qnq,QGq]
 omega
def Dr{a j:Str}(o:iI w)(d:(a,j)∈eg w.aj):a∈w.aj.map (·.name)/\∃r,w.aj[cv (w.aj.map (·.name)) a]?=some r/\j∈r.ae.map (·.1):=by
 unfold eg at d
 obtain⟨r,b,k⟩:=QOq.mp d
 obtain⟨p,q,e⟩:=Qkq.mp k
 cases e
 have g:r.name∈w.aj.map (·.name):=Qkq.mpr ⟨r,b,rfl⟩
 refine⟨g,r,?_,Qkq.mpr ⟨p,q,rfl⟩⟩
 obtain⟨t,l⟩:=jl g
 obtain⟨i,c,e⟩:=QbQ b
 have m:(w.aj.map (·.name))[i]?=some r.name:=by rw[gQm,gQe c,e];rfl
 rw[jz o.nd l m,gQe c,e]
def yy{r:Rw}{pr:List Rw}(o:iI w)(x:bT w n s)(hn:n<=100)(A:s.af[h]?=some (vs,fs))(G:fs.getLast? =some f)(hp:progOf w h f=some pr)(h1:1<=f.row)(X:pr[(f.row-1).toNat]?=some r):EH w s h r (jZ w s h r)/\bT w (n+1) (jZ w s h r):=by
 have e1:=i4 A
 have e2:=ef A G
 obtain⟨sc,C,c0⟩:=Cd o hp
 have b:=c0 r (mQg X)
 obtain⟨ts,a2,hw,hi⟩:=x.whand A
 have fi:=hi.fr f (QcQ G)
 have b1:=o.l1
 have b2:=o.l2
 have b3:=o.l3
 have b4:=o.l4
 have lr:=x.lr
 have lp:=x.lp
 have lh:=x.lh
 have lf:=hi.lf
 have P:=x.mono (Nat.le_succ n)
 have F:sc.own=false->∃(i:Nat) (r:Rm) (J:dB),f.room=i/\w.aj[i]?=some r/\s.aj[i]?=some J/\g_ n r J/\HK (eg w.aj) r/\sc.bs=r.aa.map (·.1):=λho=>by
  rcases jd C with⟨c,a7,a2,a3,rfl⟩|⟨c,r,H,rfl⟩
  ·cases ho
  ·obtain⟨J,j,L⟩:=x.wroom H
   exact⟨_,r,J,mJ fi c,H,j,L,o.rm r (mQg H),rfl⟩
 have K:sc.own=true->sc.ts=w.ai.map (·.1):=λho=>by
  rcases jd C with⟨c,a7,a2,a3,rfl⟩|⟨c,r,H,rfl⟩
  ·rfl
  ·cases ho
 have k:∀y,y∈w.ai.map (·.1)->∀ps:List (Int×List Int),w.ai.length=ps.length->∃p,ps[cv (w.ai.map (·.1)) y]?=some p:=λy u ps hl=>by
  have:=(jl u).1
  rw[lQm] at this
  exact⟨_,gQe (by omega)⟩
 have M:∀p:Int×List Int,p.2.length<=n->(hJ p h).2.length<=n+1:=λp hp=>by
  unfold hJ
  split
  ·show p.2.length<=_;omega
  ·simp;omega
 have R:∀p:Int×List Int,p.2.length<=n->(eU p).2.length<=n:=λp hp=>by
  obtain⟨v,l⟩:=p
  unfold eU
  cases l with
  |nil=>simp
  |cons a l=>simp at hp;show l.length<=n;omega
 cases r with
 | put y t=>
   obtain⟨hv,H⟩:=jL o x A G C b.2
   obtain⟨e,c3⟩:=xS o x A G C b.1 hv
   exact⟨λS Q q=>Ab H e q,c3.mono (Nat.le_succ n)⟩
 | unl t m=>
   obtain⟨hv,H⟩:=jL o x A G C b.1
   have B:jZ w s h (.unl t m)=if de w s h t=0 then{s with af:=s.af.set h (vs,fs.dropLast++ [{f with row:=m}])} else s:=by simp only[jZ,e2,fq A]
   rw[B]
   refine⟨λS Q q=>tV H A G (by omega) (by omega) q,?_⟩
   split
   · exact P.goes A G hp (by omega) (by have:=b.2;omega)
   · exact P
 | go m=>
   have B:jZ w s h (.go m)={s with af:=s.af.set h (vs,fs.dropLast++ [{f with row:=m}])}:=by simp only[jZ,e2,fq A]
   rw[B]
   exact⟨λS Q q=>Cc A G (by omega) (by omega) q,P.goes A G hp (by omega) (by have:m<=pr.length:=b;omega)⟩
 | do_ g W Z t=>
   obtain⟨hv,H⟩:=jL o x A G C b.2.2
   have ev:jZ w s h (.do_ g W Z t)=jZ w s h (.do_ g W Z t):=rfl
   generalize c1:de w s h t=v at hv H
   have b0:sc.gs=eg w.aj:=by
     rcases jd C with⟨c,a7,a2,a3,rfl⟩|⟨c,r,H,rfl⟩ <;>rfl
   have a5:=b.2.1
   rw[b0] at a5
   obtain⟨c4,r,d,a6⟩:=Dr o a5
   obtain⟨J,j,L⟩:=x.wroom d
   have I:=o.rm r (mQg d)
   have b5:=I.l3
   have b6:=L.br
   have B:jZ w s h (.do_ g W Z t)={s with af:=s.af.set h (vs,fs++ [⟨(cv (w.aj.map (·.name)) W:Nat),(cv (r.ae.map (·.1)) Z:Nat),0,v,0⟩]),aj:=s.aj.set (cv (w.aj.map (·.name)) W) (g5 J h)}:=by simp only[jZ,e1,kC d,eK j,c1,mT]
   rw[B]
   refine⟨λS Q q=>AA H A c4 d j a6 (by omega) (by omega) (by omega) (by omega) (by omega) (by omega) q,?_⟩
   have c2:=jl a6
   have a8:=c2.1
   rw[lQm] at a8
   obtain⟨⟨c5,a4⟩,a9⟩:∃p,r.ae[cv (r.ae.map (·.1)) Z]?=some p:=⟨_,gQe a8⟩
   have pf:progOf w h ⟨(cv (w.aj.map (·.name)) W:Nat),(cv (r.ae.map (·.1)) Z:Nat),0,v,0⟩=some a4:=zT rfl rfl d a9
   have hh:=hi.push (f':=⟨(cv (w.aj.map (·.name)) W:Nat),(cv (r.ae.map (·.1)) Z:Nat),0,v,0⟩) G ⟨pr,g,W,Z,t,hp,h1,X⟩ (by show((cv (w.aj.map (·.name)) W:Nat):Int)≠-1;omega) ⟨⟨a4,pf,by show(0:Int)<=0;omega,by show(0:Int)<=_;omega⟩,hv,by show(0:Int)<=0/\(0:Int)<=9;omega⟩
   exact(P.hand hw hh).room d L.come
 | wait y t=>
   obtain⟨i,r,J,N,d,j,L,I,U⟩:=F b.1
   obtain⟨hv,H⟩:=jL o x A G C b.2.2
   have u:=b.2.1
   rw[U] at u
   have b6:=I.l2
   have lb:=L.lb
   obtain⟨k1,k2⟩:=jl u
   rw[lQm] at k1
   rw[gQm] at k2
   obtain⟨⟨y',so⟩,k3,k4⟩:=oQm.mp k2
   have k4:y'=y:=k4
   subst k4
   obtain⟨Y,hl⟩:∃l,J.aa[cv (r.aa.map (·.1)) y']?=some l:=⟨_,gQe (by omega)⟩
   have ll:=L.bb Y (mQg hl)
   have ti:f.room.toNat=i:=by omega
   have B:jZ w s h (.wait y' t)={s with aj:=s.aj.set i (c8 {J with aa:=J.aa.set (cv (r.aa.map (·.1)) y') (zQ Y (if so="turns" then de w s h t else 0) h)})}:=by simp only[jZ,D2,mT,e2,ti,kC d,eK j,hl,k3,Option.getD_some]
   rw[B]
   refine⟨λS Q q=>wq A G N d j (by omega) lb (by omega) u k3 hl (by omega) H q,?_⟩
   exact P.room d (((L.mono (Nat.le_succ n)).line (by rw[AI];omega)).leave)
 | call y=>
   obtain⟨i,r,J,N,d,j,L,I,U⟩:=F b.1
   have u:=b.2
   rw[U] at u
   have b6:=I.l2
   have b7:=L.bl
   have ti:f.room.toNat=i:=by omega
   have B:jZ w s h (.call y)={s with aj:=s.aj.set i (oO (decide (r.ah="when free")) J (cv (r.aa.map (·.1)) y) h)}:=by simp only[jZ,mT,e2,ti,kC d,eK j]
   rw[B]
   refine⟨λS Q q=>xB A G N d j (by omega) L.lb (by omega) (by omega) u q,?_⟩
   exact P.room d L.call
 | all y=>
   obtain⟨i,r,J,N,d,j,L,I,U⟩:=F b.1
   have u:=b.2
   rw[U] at u
   have b6:=I.l2
   have ti:f.room.toNat=i:=by omega
   have B:jZ w s h (.all y)={s with aj:=s.aj.set i {J with aa:=J.aa.set (cv (r.aa.map (·.1)) y) []}}:=by simp only[jZ,mT,e2,ti,kC d,eK j]
   rw[B]
   refine⟨λS Q q=>zX A G N d j (by omega) L.lb (by omega) u q,?_⟩
   exact P.room d ((L.mono (Nat.le_succ n)).line (by simp))
 | tell t=>
   obtain⟨hv,H⟩:=jL o x A G C b.2
   have B:jZ w s h (.tell t)={s with af:=s.af.set h (vs,fs.dropLast++ [{f with told:=de w s h t}])}:=by simp only[jZ,e2,fq A]
   rw[B]
   exact⟨λS Q q=>xo H A G (by omega) (by omega) q,P.tells A G hv⟩
 | take y=>
   have u:=b.2
   rw[K b.1] at u
   obtain⟨p,e⟩:=k y u s.ai lp
   have pl:=x.ps p (mQg e)
   have B:jZ w s h (.take y)={s with ai:=s.ai.set (cv (w.ai.map (·.1)) y) (hJ p h)}:=by simp only[jZ,vK,tZ e]
   rw[B]
   exact⟨λS Q q=>xN u e (by omega) (by omega) (by omega) q,P.pass (M p pl)⟩
 | give y=>
   have u:=b.2
   rw[K b.1] at u
   obtain⟨p,e⟩:=k y u s.ai lp
   have pl:=x.ps p (mQg e)
   have B:jZ w s h (.give y)={s with ai:=s.ai.set (cv (w.ai.map (·.1)) y) (eU p)}:=by simp only[jZ,vK,tZ e]
   rw[B]
   exact⟨λS Q q=>wM u e (by omega) (by omega) q,P.pass (Nat.le_succ_of_le (R p pl))⟩
 | pass y z=>
   have u:=b.2.1
   have hz:=b.2.2
   rw[K b.1] at u hz
   obtain⟨p,e⟩:=k y u s.ai lp
   have pl:=x.ps p (mQg e)
   have x2:bT w n _:=x.pass (i:=cv (w.ai.map (·.1)) y) (R p pl)
   obtain⟨p2,a1⟩:=k z hz (s.ai.set (cv (w.ai.map (·.1)) y) (eU p)) (by simpa using lp)
   have b8:=x2.ps p2 (mQg a1)
   have B:jZ w s h (.pass y z)={s with ai:=(s.ai.set (cv (w.ai.map (·.1)) y) (eU p)).set (cv (w.ai.map (·.1)) z) (hJ p2 h)}:=by
     have e3:Ep (vK s (cv (w.ai.map (·.1)) y) (eU p)) (cv (w.ai.map (·.1)) z)=p2:=tZ a1
     simp only[jZ,tZ e]
     rw[e3]
     rfl
   rw[B]
   refine⟨λS Q q=>xQ u hz e (by omega) (by omega) (by omega) a1 q,(x2.mono (Nat.le_succ n)).pass (M p2 b8)⟩
 |say t=>exact⟨λS Q q=>zZ (sd:=.non) q,P⟩
end
section
variable{w:cC}{n h:Nat}{s:aN}{vs:List Int}{fs:List bH}{f:bH}{sc:Sc}
def bT.mays(o:iI w)(x:bT w n s)(r:n<=100):Gb w s:=by
 have G:=o.l1
 have y:=o.l2
 have v:=o.l4
 have F:=x.lr
 have C:=x.lp
 have A:=x.lh
 refine uz (λS Q q=>m6 r (by omega) (by omega) x.ps (λk j=> ?_) q) (λh u=> ?_) (by omega)
 ·obtain⟨i,g,e⟩:=QbQ j
  have a:s.aj[i]?=some k:=by rw[gQe g,e]
  have d:w.aj[i]?=some (w.aj[i]'(by omega)):=gQe (by omega)
  have b:=x.rm i _ k d a
  have:=(o.rm _ (mQg d)).l2
  have:=b.lb
  exact⟨b.br,b.bl,by omega,b.bb⟩
 ·obtain⟨⟨vs,fs⟩,a⟩:∃p,s.af[h]?=some p:=⟨_,gQe u⟩
  obtain⟨z,B,d,g⟩:=x.whand a
  obtain⟨f,t,m⟩:=g.last
  obtain⟨c,l,_⟩:=m.pr
  exact⟨vs,fs,f,c,a,t,l⟩
def ow(o:iI w)(x:bT w n s)(hn:n<=100)(hm:h∈m4 w s)(b:s.af[h]?=some (vs,fs))(p:fs.getLast? =some f):u0 w s h (dj w s h).1 (dj w s h).2/\bT w (n+1) (dj w s h).1:=by
 have e1:=i4 b
 have N:=ef b p
 obtain⟨ts,a4,hw,Y⟩:=x.whand b
 have fi:=Y.fr f (QcQ p)
 obtain⟨pr,d,R,a7⟩:=fi.pr
 have b1:=o.l1
 have b4:=o.l4
 have lr:=x.lr
 have lh:=x.lh
 have lf:=Y.lf
 have nb:¬(f.room= -1/\f.row=pr.length):=by
  rintro⟨c1,c2⟩
  have:=(List.mem_filter.mp hm).2
  rw[QCq] at this
  have hb:pk w s h=true:=by
   unfold pk qy
   rw[b]
   show(match fs.getLast? with|some f=>_|none=>_)=_
   rw[p]
   simp only[d,Option.getD_some,c1,c2,decide_true,Bool.and_true]
  rw[hb] at this
  exact absurd this.2 (by decide)
 by_cases c:f.room= -1
 ·
  have I:pr=a4:=by
   unfold progOf at d
   rw[Qhq c,hw] at d
   cases d;rfl
  subst I
  have K:f.row.toNat<pr.length:=by
   have:f.row≠pr.length:=λz=>nb ⟨c,z⟩
   omega
  have a:pr[f.row.toNat]?=some (pr[f.row.toNat]):=gQe K
  generalize pr[f.row.toNat]=r at a
  obtain⟨sc,G,J⟩:=Cd o d
  have l:=J r (mQg a)
  have X:FL w s h r (FS w s h r):=by
   cases r with
   |say t=>exact⟨_,rfl,(jL o x b p G l.2).2⟩
   |_=>rfl
  have C:dj w s h=(jZ w {s with af:=s.af.set h (vs,fs.dropLast++ [{f with row:=f.row+1}])} h r,FS w s h r):=by
   unfold dj iL
   rw[N,Quq (λz=>z.1 c),d]
   simp only
   rw[Quq (λz=>nb ⟨c,z⟩),a,fq b]
  rw[C]
  have L:=x.goes b p d (m:=f.row+1) (by omega) (by omega)
  have W:h<s.af.length:=(gQs.mp b).1
  obtain⟨M,A⟩:=yy (f:={f with row:=f.row+1}) (r:=r) (pr:=pr) o L hn (Qyq W) (by simp) d (by show 1<=f.row+1;omega) (by show pr[(f.row+1-1).toNat]?=_;rw[show f.row+1-1=f.row by omega];exact a)
  exact⟨vp b p (.inl c) d R a (by omega) (by omega) X M,A⟩
 ·
  rcases iB d with⟨c',_⟩|⟨i,j,r,dn,h1,h2,h3,h4⟩
  ·exact absurd c' c
  obtain⟨H,k,ri⟩:=x.wroom h3
  have br:=ri.br
  have ti:f.room.toNat=i:=by omega
  by_cases U:H.within=h
  ·have u:Here s h f:=.inr ⟨i,H,h1,k,U⟩
   by_cases Z:f.row=pr.length
   ·
    have P:=kE p
    have M:=Y.hd
    rw[P] at M
    obtain⟨F,B,hg⟩:=M.two c
    have a2:fs=F++ [B,f]:=by rw[P,hg];simp
    subst a2
    obtain⟨a3,a5⟩:=Y.pop
    obtain⟨a6,g,rn,a1,t,p1,p2,p3⟩:=a5
    have eo:uj s h={s with aj:=s.aj.set i (c8 H),af:=s.af.set h (vs,F++ [B])}:=by
     unfold uj
     rw[N,e1,ti,eK k]
     simp only[mT]
     rw[show F++ [B,f]=(F++ [B])++ [f] by simp,List.dropLast_concat]
    have ho:(uj s h).af[h]?=some (vs,F++ [B]):=by rw[eo];exact Qyq (gQs.mp b).1
    have eb:DJ w (uj s h) h=some (.do_ g rn a1 t):=by
     unfold DJ
     rw[ef ho (f:=B) (by simp),p1]
     exact p3
    have C:dj w s h=(xC w s h,none):=by
     unfold dj
     rw[N,ti,eK k,Quq (λz=>z.2 U),d]
     simp only
     rw[Qhq Z]
    have L:bT w n {s with aj:=s.aj.set i (c8 H),af:=s.af.set h (vs,F++ [B])}:=(x.hand hw a3).room h3 ri.leave
    obtain⟨sc,G,J⟩:=Cd o p1
    have l:=J _ (mQg p3)
    have W:h<s.af.length:=(gQs.mp b).1
    cases g with
    | none=>
      have ee:xC w s h={s with aj:=s.aj.set i (c8 H),af:=s.af.set h (vs,F++ [B])}:=by unfold xC;rw[eb];exact eo
      rw[C,ee]
      exact⟨vn b p u d Z λS Q q=>ny b h1 k (by omega) (by omega) p1 p2 p3 (λ_ e=>e.symm) q,L.mono (Nat.le_succ n)⟩
    | some y=>
      obtain⟨I,A⟩:=xS (y:=y) (v:=f.told) o L (Qyq W) (by simp) G (l.1 y rfl) fi.tv
      have ee:xC w s h=sD w {s with aj:=s.aj.set i (c8 H),af:=s.af.set h (vs,F++ [B])} h y f.told:=by unfold xC;rw[eb,eo,N]
      rw[C,ee]
      exact⟨vn b p u d Z λS Q q=>ny b h1 k (by omega) (by omega) p1 p2 p3 (λ_ e=>by rw[e];exact I) q,A.mono (Nat.le_succ n)⟩
   ·
    have K:f.row.toNat<pr.length:=by omega
    have a:pr[f.row.toNat]?=some (pr[f.row.toNat]):=gQe K
    generalize pr[f.row.toNat]=r' at a
    have l:=((o.rm _ (mQg h3)).pr _ (mQg h4)).1 r' (mQg a)
    have he:FL w s h r' none:=by
     cases r' with
     |say t=>exact absurd l.1 (show¬(false=true) by decide)
     |_=>rfl
    have L:=x.goes b p d (m:=f.row+1) (by omega) (by omega)
    have W:h<s.af.length:=(gQs.mp b).1
    have C:dj w s h=(jZ w {s with af:=s.af.set h (vs,fs.dropLast++ [{f with row:=f.row+1}])} h r',none):=by
     unfold dj iL
     rw[N,ti,eK k,Quq (λz=>z.2 U),d]
     simp only
     rw[Quq Z,a,fq b]
     refine congrArg (Prod.mk _) ?_
     cases r' with
     |say t=>exact absurd l.1 (show¬(false=true) by decide)
     |_=>rfl
    rw[C]
    obtain⟨M,A⟩:=yy (f:={f with row:=f.row+1}) (r:=r') (pr:=pr) o L hn (Qyq W) (by simp) d (by show 1<=f.row+1;omega) (by show pr[(f.row+1-1).toNat]?=_;rw[show f.row+1-1=f.row by omega];exact a)
    exact⟨vp b p u d R a (by omega) (by omega) he M,A⟩
  ·
   have C:dj w s h=({s with aj:=s.aj.set i (g5 H h)},none):=by
    unfold dj
    rw[N,ti,eK k,Qhq ⟨c,U⟩]
    rfl
   rw[C]
   exact⟨zW b p h1 k U (by omega) (by omega),(x.mono (Nat.le_succ n)).room h3 ri.come⟩
end
end W28
namespace DL
open PySem PySem.Spec L2
section
variable{Γ:cE}{S:aA}
def Cu{f:et}{Q:(List D×(aA->Prop))->aA->Prop}(h:E f Γ S λp a=>Q (fS 0 p.1,λb=>p.2.stays b p.1) a):E (yF f) Γ S Q:=by
 obtain⟨p,a,c,q⟩:=h
 exact⟨_,a,by unfold yF;rw[c];rfl,q⟩
def Eb{f:et}{Q:D->aA->Prop}(h:E f Γ S λp a=>p.2.isL=true/\∃bs,Fg p.1=some bs/\Q (.bl (bs.all id)) a):E (Ck f) Γ S Q:=by
 obtain⟨p,a,b,l,bs,c,q⟩:=h
 exact⟨_,a,by unfold Ck;rw[b];simp only[Qbq];rw[Qhq l,c];rfl,q⟩
def A5{i j:Int}{Q:D->Prop}(h:Ai i j)(q:Q (.int (i^j.toNat))):Op (ur S (.int i) (.int j)) Q:=⟨_,by simp only[ur,intD];rw[Qhq h],q⟩
def EC{i j:Int}{Q:D->Prop}(h:IntMulOk i j)(q:Q (.int (i*j))):Op (kB S (.int i) (.int j)) Q:=⟨_,by simp only[kB,intD];rw[Qhq h],q⟩
end
theorem o7:∀n:Nat,Fg (List.replicate n (.bl true))=some (List.replicate n true)
 |0=>rfl
 |n+1=>by simp only[QNq,Fg];rw[o7 n];rfl
end DL
namespace W28
open PySem PySem.Spec L2 DL
section
variable{S S0:aA}{Q:Res->aA->Prop}
def Pl:Nat->D->Prop
 |0,_=>False
 |_+1,.int _=>True
 |_+1,.str _=>True
 |n+1,.tup ds=>ds.length<=1000/\∀d∈ds,Pl n d
 |_+1,_=>False
theorem vi:∀ds:List D,qG ds ds=ds.map λd=>D.tup [d,d]
 | []=>rfl
 | d::ds=>by
   have:=vi ds
   simp only[qG,List.zipWith_cons_cons,QDq] at this⊢
   rw[this]
theorem yI:∀(n:Nat) (d:D) {S:aA} {Q:Res->aA->Prop},Pl n d->Q (.d (.bl true)) S->Fn (eQ n) [d,d] S Q
 |0,_,_,_,h,_=>h.elim
 | n+1,.int i,S,Q,_,q=>by
   refine bD ?_
   unfold gd
   refine bz (fA (cO (d:=.int i) (bP rfl ⟨rfl,rfl⟩) rfl ?_))
   refine aZ (λc=>by cases c) (λ_=>bW ?_)
   refine bz (fA (Be (cO (d:=.int i) (bP rfl ⟨rfl,rfl⟩) rfl ?_)))
   apply aZ (λc=>by cases c) (λ_=> ?_)
   refine As ?_
   refine aZ (λc=>by cases c) (λ_=>bW ?_)
   refine nB (t6 (vt (bP rfl ⟨_,rfl,true,rfl,?_⟩)))
   rw[Qhq rfl]
   refine t6 (EW (vt (bP rfl ⟨_,rfl,false,rfl,true,rfl,?_⟩)))
   rw[Qhq rfl]
   symm
   refine fZ ?_
   rw[Qeq rfl]
   exact bE (λk z=>(nomatch z)) rfl q
 | n+1,.str i,S,Q,_,q=>by
   refine bD ?_
   unfold gd
   refine bz (fA (cO (d:=.str i) (bP rfl ⟨rfl,rfl⟩) rfl ?_))
   refine aZ (λc=>by cases c) (λ_=>bW ?_)
   refine bz (fA (Be (cO (d:=.str i) (bP rfl ⟨rfl,rfl⟩) rfl ?_)))
   refine aZ (λ_=> ?_) (λc=>by cases c)
   refine aZ (λ_=> ?_) (λc=>by cases c)
   refine nB (t6 (Cs (vt (bP rfl ⟨_,rfl,vt (bP rfl ⟨_,rfl,.bl true,rfl,true,rfl,?_⟩)⟩))))
   rw[Qhq rfl]
   symm
   refine gE ?_
   rw[Qeq rfl]
   exact bE (λk z=>(nomatch z)) rfl q
 | n+1,.tup ds,S,Q,h,q=>by
   refine bD ?_
   unfold gd
   refine bz (fA (cO (d:=.tup ds) (bP rfl ⟨rfl,rfl⟩) rfl ?_))
   refine aZ (λ_=> ?_) (λc=>by cases c)
   refine bz (fA (Be (F0 (cO (d:=.tup ds) (bP rfl ⟨rfl,rfl⟩) rfl ?_))))
   apply aZ (λc=>by cases c) (λ_=> ?_)
   refine jX ?_
   rw[Qeq rfl]
   refine aZ (λc=>by cases c) (λ_=>bW ?_)
   refine nB (Eb (B7 ?_))
   apply ou (α:=D) (λe=>∃a b,e= [a,b]) (λd=>D.tup [d,d]) (λ_=>.bl true) (λ_=>true) ⟨none,none,rfl⟩ (o9 ?_)
   refine⟨⟨trivial,Qmq _⟩,ds,vi ds,⟨trivial,trivial⟩,h.1,λd g e f=> ?_,?_⟩
   · obtain⟨a,b,rfl⟩:=f
     refine dA rfl (au (aL (au (aL (aQ ?_)))))
     apply⟨rfl,⟨_,_,rfl⟩,pB ⟨rfl,rfl,λ_=> ?_⟩⟩
     exact yI n d (h.2 d g) ⟨rfl,rfl⟩
   · refine⟨rfl,List.replicate ds.length true,?_,?_⟩
     · rw[←o7]
       congr 1
       rw[List.filter_eq_self.mpr (λ_ _=>rfl),List.map_const']
     · have:(List.replicate ds.length true).all id=true:=by simp
       rw[this]
       exact bE (λk z=>(nomatch z)) rfl q
end
end W28
namespace DL
open PySem PySem.Spec L2
def Af{S:aA}{k:Nat}{ds:List D}{Q:List D×Tag->Prop}(a:S[k]?=some (.frz ds))(q:Q (ds,.fz k)):Op (pz S (.ref k)) Q:=⟨_,by simp only[pz,a],q⟩
def G6{S:aA}{k:Nat}{ds:List D}{i:Int}{d:D}{Q:D->Prop}(a:S[k]?=some (.frz ds))(h:lW ds i=some d)(q:Q d):Op (sG S (.ref k) (.int i)) Q:=⟨_,by simp only[sG,a];exact h,q⟩
def Hj{i:Int}{Q:D->Prop}(q:Q (.int (if i<0 then -i else i))):Op (C2 [.int i]) Q:=⟨_,rfl,q⟩
def vg{b:Bool}{Q:D->Prop}(q:Q (.int (if b then 1 else 0))):Op (intOfD [.bl b]) Q:=⟨_,rfl,q⟩
def pK{j:Nat}{n:Nat}{d:D}(h:(i3 0 (j:Int))[n]?=some d):d=.int n/\n<j:=by
 have a:n<j:=by
  have:=(gQs.mp h).1
  unfold i3 at this
  simpa using this
 unfold i3 at h
 rw[gQm,List.getElem?_range (by simpa using a)] at h
 cases h
 exact⟨by simp,a⟩
def vX{j:Nat}:(i3 0 (j:Int)).length=j:=by
 unfold i3
 simp
end DL
namespace W28
open PySem PySem.Spec L2 DL
section
variable{S:aA}{Q:Res->aA->Prop}
def FC{ns:List Int}{k:Nat}(h:S[0]?=some (.frz (ns.map D.int)))(q:∀a b:Int,Q (.l [.int a,.int b,.int 0]) S):Fn jM [.ref 0,.int k] S Q:=by
 refine bD ?_
 unfold lZ
 have g:∀f:Int,T (aD (bq 3 (bj kB (bj oh (av 2) (bj kB (bj ur (cF (.int 10)) (cF (.int 60))) (bj ur (cF (.int 10)) (cF (.int 60))))) (Ae intOfD (ax (bj Jp (av 2) (bj ur (cF (.int 10)) (cF (.int 18)))) aw))))
   (D3 (gg (ax (av 3) (ax (bj oh (bj bX (bj bX (av 2) (bj kB (cF (.int 104729)) (av 1))) (cF (.int 7))) (cF (.int 2305843009213693951))) (ax (cF (.int 0)) aw))))))
   [some (.ref 0),some (.int k),some (.int f),none] S (λo=>match o with
   |.nx _ e=>Op (settle S .non e) λp=>Q p.1 p.2|.rt d e=>Op (settle S d e) λp=>Q p.1 p.2|.rl l e=>Op (eC S l e) λp=>Q p.1 p.2|_=>False):=by
  intro f
  symm
  apply A5 ⟨by decide,by decide,by decide⟩ ?_
  apply A5 ⟨by decide,by decide,by decide⟩ ?_
  refine EC (IntMulOk.of_bits (by decide +kernel) (by decide +kernel)) ?_
  refine pe (show(0:Int)<10^(60:Int).toNat*10^(60:Int).toNat by decide +kernel) ?_
  generalize f%(10^(60:Int).toNat*10^(60:Int).toNat)=c1
  symm
  refine A5 ⟨by decide,by decide,by decide⟩ ?_
  generalize (10:Int)^(18:Int).toNat=c2
  symm
  refine vg ?_
  have i:Di c1 (if decide (c2<=f)=true then 1 else 0):=by
   right
   split <;>decide
  generalize (if decide (c2<=f)=true then(1:Int) else 0)=c3 at i⊢
  apply qY i ?_
  apply qY (.inl ⟨by decide,by decide⟩) ?_
  apply pe (by decide) ?_
  refine⟨by show 3<=_;decide,?_⟩
  exact Bj rfl (q _ _)
 symm
 apply Af h ?_
 rw[lQm]
 by_cases c:(k:Int)<ns.length
 ·rw[Qeq c,Qhq rfl]
  have j:k<ns.length:=by omega
  symm
  refine G6 h (aI (x:=.int ns[k]) (by rw[gQm,gQe j];rfl)) ?_
  symm
  refine Hj ?_
  exact g _
 ·rw[Qdq c,Quq (by decide)]
  refine bW ?_
  exact g 0
end
end W28
namespace DL
open PySem PySem.Spec L2
theorem zip_map{α a:Type}(f:α->D)(g:a->D):∀(xs:List α) (ys:List a),qG (xs.map f) (ys.map g)=(xs.zip ys).map λp=>D.tup [f p.1,g p.2]
 | [],_=>rfl
 |_::_,[]=>rfl
 | x::xs,y::ys=>by
   have:=zip_map f g xs ys
   simp only[qG,QDq,List.zipWith_cons_cons,List.zip_cons_cons] at this⊢
   rw[this]
end DL
namespace W28
open PySem PySem.Spec L2 DL
def mW(l:List Int)(h:Int):Nat:=(l.map V.int).countP λz=>lX z (.int h)
def dR{l:List Int}{h:Int}:mW l h=0↔h∉l:=by
 induction l with
 |nil=>simp[mW]
 | cons a l b=>
   unfold mW at b⊢
   rw[QDq,List.countP_cons]
   by_cases c:a=h
   · subst c
     simp[lX]
   · have d:¬h=a:=λz=>c z.symm
     have e:lX (.int a) (.int h)=false:=by simp[lX,c]
     rw[e]
     simp only[Qsq,not_or,d,not_false_eq_true,true_and]
     simpa using b
def xX(h:Nat)(p:(Str×Nat)×(Int×List Int)):List D:=List.replicate (mW p.2.2 h) (.tup [.str "pass",.str p.1.1])
def rG(h:Nat)(nm:Str)(p:(Str×Str)×List (Int×Int)):List D:=List.replicate (p.2.filter λq=>decide (q.2=(h:Int))).length (.tup [.str "bell",.str nm,.str p.1.1])
def nH(h:Nat)(p:Rm×dB):List D:=List.replicate (mW p.2.row h) (.tup [.str "row",.str p.1.name])++List.replicate (mW p.2.ag h) (.tup [.str "late",.str p.1.name])
def fm(h:Nat)(p:Rm×dB):List D:=nH h p++(p.1.aa.zip p.2.aa).flatMap (rG h p.1.name)
def di(w:cC)(s:aN)(h:Nat):List D:=(w.ai.zip s.ai).flatMap (xX h)++(w.aj.zip s.aj).flatMap (fm h)
def ox{n:Nat}{d:D}(h:bB 0 d=true):∀x∈List.replicate n d,bB 0 x=true:=λx a=>by rw[QkQ a];exact h
def zD(w:cC)(s:aN)(h:Nat):bo 0 (di w s h)=true:=by
 refine oA λd b=> ?_
 unfold di at b
 rcases mQa.mp b with b|b
 ·obtain⟨p,_,a⟩:=QOq.mp b
  exact ox rfl d a
 ·obtain⟨p,_,a⟩:=QOq.mp b
  unfold fm nH at a
  rcases mQa.mp a with a|a
  ·rcases mQa.mp a with a|a
   ·exact ox rfl d a
   ·exact ox rfl d a
  ·obtain⟨q,_,c⟩:=QOq.mp a
   exact ox rfl d c
section
variable{w:cC}{n:Nat}{s:aN}{S:aA}{Q:Res->aA->Prop}
def bT.zroom(x:bT w n s){j:Nat}{p:Rm×dB}(h:(w.aj.zip s.aj)[j]?=some p):w.aj[j]?=some p.1/\s.aj[j]?=some p.2/\g_ n p.1 p.2:=by
 rw[List.getElem?_zip_eq_some] at h
 exact⟨h.1,h.2,x.rm j _ _ h.1 h.2⟩
end
def kJ(w:cC)(h:Nat):Nat:=((w.af[h]?).map λp=>p.2.length).getD 0
def Gj(w:cC)(i:Int):Str:=((w.aj[i.toNat]?).map (·.name)).getD ""
def wit(s:aN)(i:Int):Int:=((s.aj[i.toNat]?).map (·.within)).getD (-1)
def rX(w:cC)(s:aN)(h:Nat)(f:bH):Str:=if f.room= -1 then(if f.row=(kJ w h:Int) then "done" else "out") else(if wit s f.room=(h:Int) then "within" else "called")
def lz(w:cC)(s:aN)(h:Nat)(f:bH):D:=if f.room= -1 then .tup [.str (rX w s h f)] else .tup [.str (rX w s h f),.str (Gj w f.room)]
def fW(w:cC)(s:aN)(h:Nat)(f:bH):D:=match di w s h with
 |d::_=>d
 | []=>lz w s h f
section
variable{w:cC}{n h:Nat}{s:aN}{S:aA}{Q:Res->aA->Prop}{vs:List Int}{fs:List bH}{f:bH}
def bT.at(x:bT w n s)(k:s.af[h]?=some (vs,fs))(p:fs.getLast? =some f):f.room= -1\/∃(i:Nat) (r:Rm) (b:dB),f.room=i/\w.aj[i]?=some r/\s.aj[i]?=some b/\Gj w f.room=r.name/\wit s f.room=b.within:=by
 obtain⟨t,y,q,o⟩:=x.whand k
 have m:=o.fr f (QcQ p)
 obtain⟨g,l,_⟩:=m.pr
 rcases iB l with⟨c,_⟩|⟨i,j,r,z,d,A,e,v⟩
 ·exact .inl c
 ·obtain⟨b,a,u⟩:=x.wroom e
  refine .inr ⟨i,r,b,d,e,a,?_,?_⟩
  ·unfold Gj
   rw[d,show((i:Int)).toNat=i by omega,e]
   rfl
  ·unfold wit
   rw[d,show((i:Int)).toNat=i by omega,a]
   rfl
def zA{d:D}(e:d∈di w s h):∃(a:Str) (g:List Str),d=.tup ((a::g).map D.str)/\a∈(["pass","row","late","bell"]:List Str)/\g.length<=2:=by
 unfold di at e
 rcases mQa.mp e with c|c
 ·obtain⟨p,_,b⟩:=QOq.mp c
  exact⟨"pass",[p.1.1],QkQ b,by simp,by simp⟩
 ·obtain⟨p,_,b⟩:=QOq.mp c
  unfold fm nH at b
  rcases mQa.mp b with b|b
  ·rcases mQa.mp b with b|b
   ·exact⟨"row",[p.1.name],QkQ b,by simp,by simp⟩
   ·exact⟨"late",[p.1.name],QkQ b,by simp,by simp⟩
  ·obtain⟨q,_,i⟩:=QOq.mp b
   exact⟨"bell",[p.1.name,q.1.1],QkQ i,by simp,by simp⟩
end
def headD(l:List D):D:=match l with
 |d::_=>d
 | []=>.non
def fI{α:Type}{f:α->List D}{l:List α}{n:Nat}{a:α}{d:D}{r:List D}(g:(l.take n).flatMap f= [])(b:l[n]?=some a)(hd:f a=d::r):∃t,l.flatMap f=d::t:=by
 have e:l=l.take n++a::l.drop (n+1):=by
  have c:=(gQs.mp b).1
  rw[gQe c] at b
  cases b
  rw[←QWq c,List.take_append_drop]
 rw[e,List.flatMap_append,g,QSq,hd]
 exact⟨_,rfl⟩
def lE{α:Type}{n:Nat}{d:α}(h:n≠0):∃t,List.replicate n d=d::t:=by
 cases n with
 |zero=>exact absurd rfl h
 |succ n=>exact⟨_,QNq⟩
def rf{h:Nat}{l:List (Int×Int)}:(l.filter λq=>decide (q.2=(h:Int))).length=0↔(h:Int)∉l.map (·.2):=by
 rw[List.length_eq_zero_iff,List.filter_eq_nil_iff]
 constructor
 ·intro g z
  obtain⟨q,a,e⟩:=Qkq.mp z
  exact g q a (Qeq e)
 ·intro g q a z
  exact g (Qkq.mpr ⟨q,a,QZq z⟩)
section
variable{w:cC}{n h:Nat}{s:aN}{S:aA}{Q:Res->aA->Prop}{vs:List Int}{fs:List bH}{f:bH}
def BF(o:iI w)(x:bT w n s)(hn:n<=100)(q:Q (.d (headD (di w s h))) S):Fn dE [w.d,s.d,.int h] S Q:=by
 have lr:=x.lr
 have lp:=x.lp
 have r:∀{d:D} {t:List D} {R:Res->aA->Prop},di w s h=d::t->(∀k,d≠.ref k)->bB 0 d=true->Op (settle S d S) λp=>Q p.1 p.2:=λ{d t R} e h1 h2=>by
  rw[e] at q
  exact bE h1 h2 q
 refine bD ?_
 unfold fe
 apply bz (iJ (o9 ?_))
 refine ar rfl ?_
 apply cD (ds:=w.ai.map uu) ?_
 refine ar rfl ?_
 refine cD (ds:=s.ai.map xE) ?_
 refine⟨⟨trivial,by simp only[lQm];omega⟩,?_⟩
 rw[zip_map]
 refine⟨λj l H=>(∃a b c d e f g i k,l= [some w.d,some s.d,some (.int h),a,b,c,d,e,f,g,i,k])/\H=S/\((w.ai.zip s.ai).take j).flatMap (xX h)= [],⟨⟨_,_,_,_,_,_,_,_,_,rfl⟩,rfl,rfl⟩,λ_ _ _ _=>⟨trivial,trivial⟩,?_,?_⟩
 ·rintro j d l H B ⟨⟨a,b,c,F,e,U,g,i,k,rfl⟩,rfl,h0⟩
  rw[gQm] at B
  obtain⟨p,y,rfl⟩:=oQm.mp B
  refine dA rfl (au (dA rfl (au (aL (au (aL (aQ ?_)))))))
  refine au (dA rfl (au (aL (au (aL (aQ ?_))))))
  refine aQ ?_
  apply fA (gK (xk ?_))
  refine cD (ds:=p.2.2.map D.int) ?_
  refine⟨_,_,rfl,dM _,?_⟩
  rw[jJ]
  show if decide ((h:Int)∈p.2.2)=true then _ else _
  by_cases v:(h:Int)∈p.2.2
  ·rw[Qeq v,Qhq rfl]
   symm
   refine⟨by show 2<=_;decide,?_⟩
   obtain⟨t,C⟩:=lE (n:=mW p.2.2 h) (d:=D.tup [.str "pass",.str p.1.1]) λz=>dR.mp z v
   obtain⟨I,u⟩:=fI h0 y (show xX h p=_::_ from C)
   exact r (R:=Q) (show di w s h=_::(I++_) by unfold di;rw[u];rfl) (λk z=>(nomatch z)) rfl
  ·rw[Qdq v,Quq (by decide)]
   refine bW ?_
   refine⟨⟨_,_,_,_,_,_,_,_,_,rfl⟩,rfl,?_⟩
   rw[fM y,h0]
   unfold xX
   rw[dR.mpr v]
   rfl
 rintro l H ⟨⟨a,b,c,F,e,U,g,i,k,rfl⟩,rfl,h0⟩
 rw[lQm,QEq] at h0
 have J:di w s h=(w.aj.zip s.aj).flatMap (fm h):=by unfold di;rw[h0];rfl
 apply bz (iJ (o9 ?_))
 refine ar rfl ?_
 apply cD (ds:=w.aj.map Rm.d) ?_
 refine ar rfl ?_
 refine cD (ds:=s.aj.map dB.d) ?_
 refine⟨⟨trivial,by simp only[lQm];omega⟩,?_⟩
 rw[zip_map]
 refine⟨λj l K=>(∃a b c d e f g i k,l= [some w.d,some s.d,some (.int h),a,b,c,d,e,f,g,i,k])/\K=H/\((w.aj.zip s.aj).take j).flatMap (fm h)= [],⟨⟨_,_,_,_,_,_,_,_,_,rfl⟩,rfl,rfl⟩,λ_ _ _ _=>⟨trivial,trivial⟩,?_,?_⟩
 ·rintro j d l K B ⟨⟨a,b,c,F,e,U,g,i,k,rfl⟩,rfl,h1⟩
  rw[gQm] at B
  obtain⟨p,y,rfl⟩:=oQm.mp B
  obtain⟨Z,a2,X⟩:=x.zroom y
  have lb:=X.lb
  refine dA rfl (au (aL (au (aL (aQ ?_)))))
  apply bz (fA (gK (xk ?_)))
  refine ar rfl ?_
  refine cD (ds:=p.2.row.map D.int) ?_
  refine⟨_,_,rfl,dM _,?_⟩
  rw[jJ]
  show if decide ((h:Int)∈p.2.row)=true then _ else _
  by_cases v:(h:Int)∈p.2.row
  ·rw[Qeq v,Qhq rfl]
   symm
   apply ar (d:=.str p.1.name) rfl ?_
   refine⟨by show 2<=_;decide,?_⟩
   obtain⟨t,C⟩:=lE (n:=mW p.2.row h) (d:=D.tup [.str "row",.str p.1.name]) λz=>dR.mp z v
   obtain⟨I,u⟩:=fI h1 y (show fm h p=_::_ by unfold fm nH;rw[C];rfl)
   exact r (R:=Q) (J.trans u) (λk z=>(nomatch z)) rfl
  rw[Qdq v,Quq (by decide)]
  refine bW ?_
  have Y:List.replicate (mW p.2.row h) (D.tup [.str "row",.str p.1.name])= []:=by rw[dR.mpr v];rfl
  apply bz (fA (gK (xk ?_)))
  refine ar rfl ?_
  refine cD (ds:=p.2.ag.map D.int) ?_
  refine⟨_,_,rfl,dM _,?_⟩
  rw[jJ]
  show if decide ((h:Int)∈p.2.ag)=true then _ else _
  by_cases M:(h:Int)∈p.2.ag
  ·rw[Qeq M,Qhq rfl]
   symm
   apply ar (d:=.str p.1.name) rfl ?_
   refine⟨by show 2<=_;decide,?_⟩
   obtain⟨t,C⟩:=lE (n:=mW p.2.ag h) (d:=D.tup [.str "late",.str p.1.name]) λz=>dR.mp z M
   obtain⟨I,u⟩:=fI h1 y (show fm h p=_::_ by unfold fm nH;rw[Y,C];rfl)
   exact r (R:=Q) (J.trans u) (λk z=>(nomatch z)) rfl
  rw[Qdq M,Quq (by decide)]
  refine bW ?_
  have z2:nH h p= []:=by unfold nH;rw[Y,dR.mpr M];rfl
  have G:fm h p=(p.1.aa.zip p.2.aa).flatMap (rG h p.1.name):=by unfold fm;rw[z2];rfl
  apply iJ (o9 ?_)
  refine ar rfl ?_
  apply cD (ds:=p.1.aa.map CQ) ?_
  refine ar rfl ?_
  refine cD (ds:=p.2.aa.map du) ?_
  refine⟨⟨trivial,by simp only[lQm];omega⟩,?_⟩
  rw[zip_map]
  refine⟨λm l P=>(∃a b c d g i k,l= [some w.d,some s.d,some (.int h),a,b,c,d,some p.1.d,some p.2.d,g,i,k])/\P=K/\((p.1.aa.zip p.2.aa).take m).flatMap (rG h p.1.name)= [],⟨⟨_,_,_,_,_,_,_,rfl⟩,rfl,rfl⟩,λ_ _ _ _=>⟨trivial,trivial⟩,?_,?_⟩
  ·rintro m d l P B ⟨⟨a,b,c,F,g,i,k,rfl⟩,rfl,h2⟩
   rw[gQm] at B
   obtain⟨A,W,rfl⟩:=oQm.mp B
   have a1:=X.bb A.2 (QeQ (show(A.1,A.2)∈_ from mQg W)).2
   refine dA rfl (au (dA rfl (au (aL (au (aL (aQ ?_)))))))
   refine au (aL (aQ ?_))
   apply fA (gK (xk ?_))
   refine nu (by omega) ?_
   dsimp only
   refine⟨_,_,rfl,dM _,?_⟩
   rw[jJ]
   show if decide ((h:Int)∈A.2.map (·.2))=true then _ else _
   by_cases L:(h:Int)∈A.2.map (·.2)
   ·rw[Qeq L,Qhq rfl]
    symm
    apply ar (d:=.str p.1.name) rfl ?_
    refine⟨by show 3<=_;decide,?_⟩
    obtain⟨t,C⟩:=lE (n:=(A.2.filter λq=>decide (q.2=(h:Int))).length) (d:=D.tup [.str "bell",.str p.1.name,.str A.1.1]) λz=>rf.mp z L
    obtain⟨t3,N⟩:=fI h2 W (show rG h p.1.name A=_::_ from C)
    obtain⟨I,u⟩:=fI h1 y (G.trans N)
    exact r (R:=Q) (J.trans u) (λk z=>(nomatch z)) rfl
   ·rw[Qdq L,Quq (by decide)]
    refine bW ?_
    refine⟨⟨_,_,_,_,_,_,_,rfl⟩,rfl,?_⟩
    rw[fM W,h2]
    unfold rG
    rw[rf.mpr L]
    rfl
  ·rintro l P ⟨⟨a,b,c,F,g,i,k,rfl⟩,rfl,h2⟩
   rw[lQm,QEq] at h2
   refine⟨⟨_,_,_,_,_,_,_,_,_,rfl⟩,rfl,?_⟩
   rw[fM y,h1,G,h2]
   rfl
 ·rintro l K ⟨⟨a,b,c,F,e,U,g,i,k,rfl⟩,rfl,h1⟩
  rw[lQm,QEq] at h1
  rw[J,h1] at q
  symm
  exact bE (λk z=>(nomatch z)) rfl q
def sh(o:iI w)(x:bT w n s)(I:n<=100)(e:s.af[h]?=some (vs,fs))(A:fs.getLast? =some f)(q:Q (.d (fW w s h f)) S):Fn kX [w.d,s.d,.int h] S Q:=by
 have t:=zD w s h
 have v:∀d∈di w s h,_:=λd K=>zA K
 obtain⟨L,j,y,M⟩:=x.whand e
 have p:kJ w h=j.length:=by unfold kJ;rw[y];rfl
 refine bD ?_
 unfold su
 symm
 apply BF o x I ?_
 refine As ?_
 unfold fW at q
 cases B:di w s h with
 | cons d l=>
   rw[B] at q t v
   obtain⟨a,N,rfl,_⟩:=v d (QBq ..)
   apply aZ (λ_=> ?_) (λc=>by cases c)
   exact bE (λk z=>(nomatch z)) (by simp only[bo,QCq] at t;exact t.1) q
 | nil=>
   rw[B] at q
   refine aZ (λc=>by cases c) (λ_=>bW ?_)
   have q:Q (.d (lz w s h f)) S:=q
   unfold lz rX at q
   symm
   apply bp e A ?_
   apply ar (d:=.int f.room) rfl ?_
   refine fZ ?_
   rcases x.at e A with c|⟨i,r,u,C,J,m,H,F⟩
   · rw[Qhq c,Qhq c,p] at q
     rw[Qeq c]
     refine aZ (λ_=> ?_) (λc=>by cases c)
     have G:progOf w h f=some j:=by unfold progOf;rw[Qhq c,y];rfl
     symm
     apply ar (d:=.int f.row) rfl ?_
     apply dD G ?_
     refine fZ ?_
     rw[lQm]
     by_cases b:f.row=(j.length:Int)
     · rw[Qhq b] at q
       rw[Qeq b]
       apply aZ (λ_=> ?_) (λc=>by cases c)
       refine⟨by show 1<=_;decide,?_⟩
       exact bE (λk z=>(nomatch z)) rfl q
     · rw[Quq b] at q
       rw[Qdq b]
       apply aZ (λc=>by cases c) (λ_=> ?_)
       refine⟨by show 1<=_;decide,?_⟩
       exact bE (λk z=>(nomatch z)) rfl q
   · have g:¬f.room= -1:=by omega
     rw[Quq g,Quq g,H,F] at q
     rw[Qdq g,C]
     apply aZ (λc=>by cases c) (λ_=>bW ?_)
     apply ar rfl ?_
     refine ar (d:=r.d) (aI (by rw[gQm,J];rfl)) ?_
     symm
     apply ar (d:=.str r.name) rfl ?_
     apply ar rfl ?_
     refine ar (d:=u.d) (aI (by rw[gQm,m];rfl)) ?_
     symm
     apply ar (d:=.int u.within) rfl ?_
     refine fZ ?_
     by_cases b:u.within=(h:Int)
     · rw[Qhq b] at q
       rw[Qeq b]
       apply aZ (λ_=> ?_) (λc=>by cases c)
       refine⟨by show 2<=_;decide,?_⟩
       exact bE (λk z=>(nomatch z)) rfl q
     · rw[Quq b] at q
       rw[Qdq b]
       apply aZ (λc=>by cases c) (λ_=> ?_)
       refine⟨by show 2<=_;decide,?_⟩
       exact bE (λk z=>(nomatch z)) rfl q
end
abbrev R8:=Str×Str×Bool
def lY(ds:List Nat)(p:R8):Rm:=⟨p.1,p.2.1,[],if p.2.2 then [("bell","row")] else [],[("x",ds.map λv=>.tell (.num v))]⟩
def DS(nm:Str):List Rw:= [.do_ none nm "x" (.num 3),.say (.num 1)]
def w8(a:List R8)(ds:List Nat)(nm:Str)(n:Nat):cC:=⟨a.map (lY ds),[],[],List.replicate n ([],DS nm)⟩
def nV(p:R8)(a:Int)(row:List Int):dB:=⟨[],a,row,[],if p.2.2 then [[]] else []⟩
abbrev bU(q:Nat):bH:=⟨-1,-1,q,0,0⟩
abbrev eF(i k:Nat)(t:Int):bH:=⟨i,0,k,3,t⟩
def dY(l:List Nat):List Int:=l.map λh:Nat=>(h:Int)
def qZ:List Nat->Int
 | []=> -1
 |h::_=>h
def dw(a:List R8)(i:Nat)(row:List Nat):List dB:=(a.map λp=>nV p (-1) []).set i (nV ((a[i]?).getD ("","",false)) (qZ row) (dY row.tail))
structure v8(rs:List R8)(i n:Nat)(row beh:List Nat)(k:Nat)(s:aN):Prop where
 ps:s.ai= []
 rm:s.aj=dw rs i row
 len:s.af.length=n
 lt:∀h∈row++beh,h<n
 nd:(row++beh).Nodup
 out:∀h,h<n->h∉row->h∉beh->s.af[h]?=some ([],[bU 0])
 first:∀h r,row=h::r->∃t,s.af[h]?=some ([],[bU 1,eF i k t])
 wait:∀h∈row.tail,s.af[h]?=some ([],[bU 1,eF i 0 0])
 bh:∀h∈beh,s.af[h]?=some ([],[bU 1])
section
variable{rs:List R8}{ds:List Nat}{p:R8}{i n k h q:Nat}{row beh:List Nat}{s:aN}{nm:Str}
def dz(a:rs[i]?=some p):(dw rs i row)[i]?=some (nV p (qZ row) (dY row.tail)):=by
 have b:=(gQs.mp a).1
 unfold dw
 rw[Qyq (by simpa using b),a]
 rfl
def rB{j:Nat}(a:j≠i):(dw rs i row)[j]?=(rs[j]?).map λp=>nV p (-1) []:=by
 unfold dw
 rw[QKq (Ne.symm a),gQm]
def qo{a:List Nat}(b:rs[i]?=some p):(dw rs i row).set i (nV p (qZ a) (dY a.tail))=dw rs i a:=by
 unfold dw
 rw[List.set_set,b]
 rfl
def wD:dw rs i []=rs.map λp=>nV p (-1) []:=by
 unfold dw
 apply List.ext_getElem?
 intro j
 by_cases c:j=i
 ·subst c
  cases e:rs[j]? with
  | none=>
    have:=List.getElem?_eq_none_iff.mp e
    rw[List.getElem?_eq_none_iff.mpr (by simpa using this),List.getElem?_eq_none_iff.mpr (by simpa using this)]
  | some p=>
    have a:=(gQs.mp e).1
    rw[Qyq (by simpa using a),gQm,e]
    rfl
 ·rw[QKq (Ne.symm c)]
def B3(m:rs[i]?=some p)(e:s.ai= [])(f:s.aj=dw rs i row):∀x,x∈held s↔x∈dY row.tail:=λx=>by
 have g:∀(p:R8) (a:Int) (l:List Int),fV (nV p a l)=l:=λp a l=>by
  unfold fV nV
  cases p.2.2 <;>simp
 unfold held
 rw[e,f]
 simp only[List.flatMap_nil,List.nil_append,QOq]
 constructor
 ·rintro⟨r,f,b⟩
  obtain⟨j,d⟩:=List.getElem?_of_mem f
  by_cases c:j=i
  ·subst c
   rw[dz m] at d
   cases d
   rw[g] at b
   exact b
  ·rw[rB c] at d
   obtain⟨o,_,rfl⟩:=oQm.mp d
   rw[g] at b
   cases b
 ·intro b
  exact⟨_,mQg (dz m),by rw[g];exact b⟩
def jg{l:List Nat}:(h:Int)∈dY l↔h∈l:=by
 unfold dY
 constructor
 ·intro z
  obtain⟨b,a,e⟩:=Qkq.mp z
  have:b=h:=by omega
  exact this▸a
 ·exact λz=>Qkq.mpr ⟨h,z,rfl⟩
def wy(a:h<n):(w8 rs ds nm n).af[h]?=some ([],DS nm):=by
 show(List.replicate n _)[h]?=_
 rw[List.getElem?_replicate,Qhq a]
def tm(a:h<n):progOf (w8 rs ds nm n) h (bU q)=some (DS nm):=by
 unfold progOf
 rw[Qhq (show(bU q).room= -1 from rfl),wy a]
 rfl
def BN{t:Int}(a:rs[i]?=some p):progOf (w8 rs ds nm n) h (eF i k t)=some (ds.map λv=>.tell (.num v)):=by
 unfold progOf
 rw[Quq (by show¬(i:Int)= -1;omega),Qhq ⟨by show(0:Int)<=i;omega,by show(0:Int)<=0;omega⟩]
 show((rs.map (lY ds))[((i:Int)).toNat]?).bind _=_
 rw[show((i:Int)).toNat=i by omega,gQm,a]
 rfl
def Ek(d:h<n)(g:s.af.length=n)(a:s.af[h]?=some ([],[bU q]))(f:q<2)(c:(h:Int)∉held s):h∈m4 (w8 rs ds nm n) s:=by
 unfold m4
 refine List.mem_filter.mpr ⟨List.mem_range.mpr (by omega),?_⟩
 have e:pk (w8 rs ds nm n) s h=false:=by
  have b:qy s h=some (bU q):=by unfold qy;rw[a];rfl
  unfold pk
  rw[b]
  show(decide ((bU q).room= -1)&&decide ((bU q).row=(((progOf (w8 rs ds nm n) h (bU q)).getD []).length:Int)))=false
  rw[tm d]
  show(true&&decide ((q:Int)=(2:Int)))=false
  rw[Qdq (by omega)]
  rfl
 rw[e,Qdq c]
 rfl
def Ed{t:Int}(f:h<n)(d:s.af.length=n)(a:s.af[h]?=some ([],[bU 1,eF i k t]))(c:(h:Int)∉held s):h∈m4 (w8 rs ds nm n) s:=by
 unfold m4
 refine List.mem_filter.mpr ⟨List.mem_range.mpr (by omega),?_⟩
 have e:pk (w8 rs ds nm n) s h=false:=by
  have b:qy s h=some (eF i k t):=by unfold qy;rw[a];rfl
  unfold pk
  rw[b]
  show(decide ((i:Int)= -1)&&_)=false
  rw[Qdq (by omega)]
  rfl
 rw[e,Qdq c]
 rfl
end
structure GT(rs:List R8)(i n:Nat)(todo:List Nat)(s:aN):Prop where
 ps:s.ai= []
 rm:s.aj=dw rs i []
 len:s.af.length=n
 lt:∀h∈todo,h<n
 nd:todo.Nodup
 bh:∀h∈todo,s.af[h]?=some ([],[bU 1])
section
variable{rs:List R8}{ds:List Nat}{p:R8}{i n k h q:Nat}{row beh:List Nat}{s:aN}{nm:Str}
def Fk{l:List Nat}{x:Nat}(b:h∉l)(a:x∈l):h≠x:=λz=>by subst z;exact b a
def qV{a:List (List Int×List bH)}{x y:List Int×List bH}(b:a[h]?=some y):(a.set h x)[h]?=some x:=Qyq (gQs.mp b).1
def names8:(w8 rs ds nm n).aj.map (·.name)=rs.map (·.1):=by
 show(rs.map (lY ds)).map _=_
 rw[QPq]
 rfl
def Bs(a:p=p):g5 (nV p (qZ row) (dY row.tail)) h=nV p (qZ (row++ [h])) (dY (row++ [h]).tail):=by
 unfold g5
 cases row with
 |nil=>rw[Qhq (show(nV p (qZ []) _).within= -1 from rfl)];rfl
 | cons a r=>
   rw[Quq (by show¬(a:Int)= -1;omega)]
   show(⟨[],_,dY r++ [(h:Int)],[],_⟩:dB)=⟨[],_,dY (r++ [h]),[],_⟩
   rw[show dY (r++ [h])=dY r++ [(h:Int)] by simp[dY]]
   rfl
def zp{r:List Nat}:c8 (nV p h (dY r))=nV p (qZ r) (dY r.tail):=by
 cases r with
 |nil=>rfl
 |cons a r=>rfl
def G_(j:rs[i]?=some p)(m:cv (rs.map (·.1)) nm=i)(a:v8 rs i n row beh 0 s)(l:h<n)(f:h∉row)(v:h∉beh):
  ∃C,dj (w8 rs ds nm n) s h=(C,none)/\v8 rs i n (row++ [h]) beh 0 C/\h∈m4 (w8 rs ds nm n) s/\s.af[h]?=some ([],[bU 0]):=by
 have d:=a.out h l f v
 have b:(h:Int)∉held s:=λz=>f (List.mem_of_mem_tail (jg.mp ((B3 j a.ps a.rm _).mp z)))
 have w:fN s h=bU 0:=ef d rfl
 have M:iL s h={s with af:=s.af.set h ([],[bU 1])}:=by unfold iL;rw[w,fq d];rfl
 have G:zE {s with af:=s.af.set h ([],[bU 1])} h=([],[bU 1]):=i4 (qV d)
 have F:fN {s with af:=s.af.set h ([],[bU 1])} h=bU 1:=ef (qV d) rfl
 have K:de (w8 rs ds nm n) {s with af:=s.af.set h ([],[bU 1])} h (.num 3)=3:=by
  unfold de
  rw[F,Qhq (show(bU 1).room= -1 from rfl)]
  rfl
 have L:r_ {s with af:=s.af.set h ([],[bU 1])} i=nV p (qZ row) (dY row.tail):=eK (by show s.aj[i]?=_;rw[a.rm,dz j])
 have N:Bh (w8 rs ds nm n) i=lY ds p:=kC (by show(rs.map (lY ds))[i]?=_;rw[gQm,j];rfl)
 have I:cv ((lY ds p).ae.map (·.1)) "x"=0:=rfl
 have e:dj (w8 rs ds nm n) s h=(⟨dw rs i (row++ [h]),s.ai,s.ak,s.af.set h ([],[bU 1,eF i 0 0])⟩,none):=by
  unfold dj
  rw[w,Quq (λz=>z.1 rfl),tm l]
  show(if (((0:Nat):Int)=((DS nm).length:Int)) then _ else _)=_
  rw[Quq (by show¬((0:Nat):Int)=((2:Nat):Int);decide)]
  show(jZ _ (iL s h) h (.do_ none nm "x" (.num 3)),none)=_
  rw[M]
  simp only[jZ,G,K,names8,m,L,N,I,mT,List.set_set,Bs]
  show((⟨(s.aj).set i _,_,_,_⟩:aN),none)=_
  rw[a.rm,qo j]
  rfl
 refine⟨_,e,⟨a.ps,rfl,by simpa using a.len,λx b=> ?_,?_,λx b B H=> ?_,λx r A=> ?_,λx b=> ?_,λx b=> ?_⟩,Ek l a.len d (by decide) b,d⟩
 ·rw[Qvq] at b
  rcases mQa.mp b with g|g
  ·exact a.lt x (mQa.mpr (.inl g))
  ·rcases Qsq.mp g with rfl|g
   ·exact l
   ·exact a.lt x (mQa.mpr (.inr g))
 ·have c:=a.nd
  rw[Qvq]
  rw[List.nodup_append] at c⊢
  refine⟨c.1,List.nodup_cons.mpr ⟨v,c.2.1⟩,λx b y u=> ?_⟩
  rcases Qsq.mp u with rfl|u
  ·exact λz=>f (by rw[←z];assumption)
  ·exact c.2.2 x ‹_› y u
 ·rw[QKq (λz=>B (by rw[z];simp))]
  exact a.out x b (λz=>B (mQa.mpr (.inl z))) H
 ·cases row with
  | nil=>
    cases A
    exact⟨0,qV d⟩
  | cons y o=>
    cases A
    obtain⟨t,J⟩:=a.first x o rfl
    exact⟨t,by rw[QKq (λz=>f (by rw[z];simp))];exact J⟩
 ·cases row with
  |nil=>cases b
  | cons y o=>
    have b:x∈o++ [h]:=b
    rcases mQa.mp b with g|g
    · rw[QKq (Fk f (Qpq _ g))]
      exact a.wait x g
    · rw[Qfq.mp g]
      exact qV d
 ·rw[QKq (Fk v b)]
  exact a.bh x b
def pQ{r:List Nat}(c:rs[i]?=some p)(a:v8 rs i n (h::r) beh k s):(h:Int)∉held s:=λz=>by
 have:=jg.mp ((B3 c a.ps a.rm _).mp z)
 have b:=a.nd
 rw[List.cons_append,List.nodup_cons] at b
 exact b.1 (mQa.mpr (.inl this))
def GJ{r:List Nat}(f:rs[i]?=some p)(a:v8 rs i n (h::r) beh k s)(F:k<ds.length):
  ∃m t,dj (w8 rs ds nm n) s h=(m,none)/\v8 rs i n (h::r) beh (k+1) m/\h∈m4 (w8 rs ds nm n) s/\s.af[h]?=some ([],[bU 1,eF i k t]):=by
 obtain⟨t,d⟩:=a.first h r rfl
 have y:h<n:=a.lt h (by simp)
 have j:fN s h=eF i k t:=ef d rfl
 have o:r_ s i=nV p h (dY r):=eK (by rw[a.rm,dz f];rfl)
 have B:iL s h={s with af:=s.af.set h ([],[bU 1,eF i (k+1) t])}:=by
  unfold iL
  rw[j,fq d]
  rfl
 have g:fN {s with af:=s.af.set h ([],[bU 1,eF i (k+1) t])} h=eF i (k+1) t:=ef (qV d) rfl
 obtain⟨v,C⟩:∃v,ds[k]?=some v:=⟨_,gQe F⟩
 have w:de (w8 rs ds nm n) {s with af:=s.af.set h ([],[bU 1,eF i (k+1) t])} h (.num v)=v:=by
  unfold de
  rw[g,Quq (show¬(i:Int)= -1 by omega)]
  rfl
 have e:dj (w8 rs ds nm n) s h=({s with af:=s.af.set h ([],[bU 1,eF i (k+1) v])},none):=by
  unfold dj
  rw[j,BN f]
  show(if (i:Int)≠-1/\(r_ s ((i:Int)).toNat).within≠h then _ else if ((k:Int)=((ds.map λv=>Rw.tell (.num v)).length:Int)) then _ else match (ds.map λv=>Rw.tell (.num v))[((k:Int)).toNat]? with|none=>_|some r=>_)=_
  rw[show((i:Int)).toNat=i by omega,o,Quq (λz=>z.2 rfl),Quq (by rw[lQm];omega),show((k:Int)).toNat=k by omega,gQm,C]
  show(jZ _ (iL s h) h (.tell (.num v)),none)=_
  rw[B]
  simp only[jZ,w,g]
  rw[fq (qV d),List.set_set]
  rfl
 refine⟨_,t,e,⟨a.ps,a.rm,by simpa using a.len,a.lt,a.nd,λx c l u=> ?_,λx G A=> ?_,λx c=> ?_,λx c=> ?_⟩,Ed y a.len d (pQ f a),d⟩
 ·rw[QKq (λz=>l (by rw[z];simp))]
  exact a.out x c l u
 ·cases A
  exact⟨v,qV d⟩
 ·have b:=a.nd
  rw[List.cons_append,List.nodup_cons] at b
  rw[QKq (Fk b.1 (mQa.mpr (.inl c)))]
  exact a.wait x c
 ·have b:=a.nd
  rw[List.cons_append,List.nodup_cons] at b
  rw[QKq (Fk b.1 (mQa.mpr (.inr c)))]
  exact a.bh x c
def Jd{r:List Nat}(f:rs[i]?=some p)(a:v8 rs i n (h::r) beh ds.length s):
  ∃u t,dj (w8 rs ds nm n) s h=(u,none)/\v8 rs i n r (beh++ [h]) 0 u/\h∈m4 (w8 rs ds nm n) s/\s.af[h]?=some ([],[bU 1,eF i ds.length t]):=by
 obtain⟨t,d⟩:=a.first h r rfl
 have o:h<n:=a.lt h (by simp)
 have b:=a.nd
 rw[List.cons_append,List.nodup_cons] at b
 have m:fN s h=eF i ds.length t:=ef d rfl
 have l:r_ s i=nV p h (dY r):=eK (by rw[a.rm,dz f];rfl)
 have A:uj s h=⟨dw rs i r,s.ai,s.ak,s.af.set h ([],[bU 1])⟩:=by
  unfold uj
  rw[m,i4 d]
  show(⟨(s.aj).set ((i:Int)).toNat (c8 (r_ s ((i:Int)).toNat)),_,_,_⟩:aN)=_
  rw[show((i:Int)).toNat=i by omega,l,zp,a.rm,qo f]
  rfl
 have w:fN (⟨dw rs i r,s.ai,s.ak,s.af.set h ([],[bU 1])⟩:aN) h=bU 1:=ef (qV d) rfl
 have e:dj (w8 rs ds nm n) s h=(⟨dw rs i r,s.ai,s.ak,s.af.set h ([],[bU 1])⟩,none):=by
  unfold dj
  rw[m,BN f]
  show(if (i:Int)≠-1/\(r_ s ((i:Int)).toNat).within≠h then _ else if ((ds.length:Int)=((ds.map λv=>Rw.tell (.num v)).length:Int)) then _ else match (ds.map λv=>Rw.tell (.num v))[((ds.length:Int)).toNat]? with|none=>_|some r=>_)=_
  rw[show((i:Int)).toNat=i by omega,l,Quq (λz=>z.2 rfl),Qhq (by rw[lQm])]
  unfold xC DJ
  rw[A,w,tm o]
  rfl
 refine⟨_,t,e,⟨a.ps,rfl,by simpa using a.len,λx c=> ?_,?_,λx c F j=> ?_,λx G B=> ?_,λx c=> ?_,λx c=> ?_⟩,Ed o a.len d (pQ f a),d⟩
 ·refine a.lt x ?_
  simp only[mQa,Qsq,QXq,or_false] at c⊢
  rcases c with g|g|g
  ·exact .inl (.inr g)
  ·exact .inr g
  ·exact .inl (.inl g)
 ·rw[←Qvq]
  refine List.nodup_append.mpr ⟨b.2,by simp,λx c y C z=> ?_⟩
  rw[Qfq.mp C] at z
  exact b.1 (z▸c)
 ·rw[QKq (λz=>j (by rw[z];simp))]
  refine a.out x c (λz=> ?_) λz=>j (mQa.mpr (.inl z))
  rcases Qsq.mp z with rfl|z
  ·exact j (by simp)
  ·exact F z
 ·subst B
  refine⟨0,?_⟩
  rw[QKq (λz=>b.1 (by rw[z];simp))]
  exact a.wait x (by simp)
 ·have c:x∈r:=List.mem_of_mem_tail c
  rw[QKq (Fk b.1 (mQa.mpr (.inl c)))]
  exact a.wait x c
 ·rcases mQa.mp c with g|g
  ·rw[QKq (Fk b.1 (mQa.mpr (.inr g)))]
   exact a.bh x g
  ·rw[Qfq.mp g]
   exact qV d
def JB{l:List Nat}(o:rs[i]?=some p)(a:GT rs i n (h::l) s):
  ∃g,dj (w8 rs ds nm n) s h=(g,some 1)/\GT rs i n l g/\h∈m4 (w8 rs ds nm n) s/\s.af[h]?=some ([],[bU 1])/\g.af[h]?=some ([],[bU 2]):=by
 have c:=a.bh h (by simp)
 have j:h<n:=a.lt h (by simp)
 have b:(h:Int)∉held s:=λz=>by
  have:=jg.mp ((B3 o a.ps a.rm _).mp z)
  cases this
 have f:fN s h=bU 1:=ef c rfl
 have r:iL s h={s with af:=s.af.set h ([],[bU 2])}:=by unfold iL;rw[f,fq c];rfl
 have m:de (w8 rs ds nm n) s h (.num 1)=1:=by
  unfold de
  rw[f,Qhq (show(bU 1).room= -1 from rfl)]
  rfl
 have e:dj (w8 rs ds nm n) s h=({s with af:=s.af.set h ([],[bU 2])},some 1):=by
  unfold dj
  rw[f,Quq (λz=>z.1 rfl),tm j]
  show(if (((1:Nat):Int)=((DS nm).length:Int)) then _ else _)=_
  rw[Quq (by show¬((1:Nat):Int)=((2:Nat):Int);decide)]
  show(jZ _ (iL s h) h (.say (.num 1)),some (de _ s h (.num 1)))=_
  rw[r,m]
  rfl
 have d:=List.nodup_cons.mp a.nd
 exact⟨_,e,⟨a.ps,a.rm,by simpa using a.len,λx b=>a.lt x (Qpq _ b),d.2,λx b=>by
  rw[QKq (Fk d.1 b)]
  exact a.bh x (Qpq _ b)⟩,Ek j a.len c (by decide) b,c,qV c⟩
def v8.en(a:v8 rs i n [] beh k s):GT rs i n beh s:=⟨a.ps,a.rm,a.len,λh b=>a.lt h (by simpa using b),by simpa using a.nd,a.bh⟩
def Bp(u:rs[i]?=some p)(w:s.ai= [])(A:s.aj=dw rs i row):(h∈row.tail->∃t,di (w8 rs ds nm n) s h=.tup [.str "row",.str p.1]::t)/\(h∉row.tail->di (w8 rs ds nm n) s h= []):=by
 have v:∀(p:R8) (a:Int) (l:List Int),fm h (lY ds p,nV p a l)=List.replicate (mW l h) (.tup [.str "row",.str p.1]):=λp a l=>by
  unfold fm nH lY nV
  cases p.2.2 <;>simp[mW,rG]
 have B:∀(j:Nat) (x:Rm×dB),((w8 rs ds nm n).aj.zip s.aj)[j]?=some x->(j=i/\x=(lY ds p,nV p (qZ row) (dY row.tail)))\/∃f,x=(lY ds f,nV f (-1) []):=λj x g=>by
  rw[List.getElem?_zip_eq_some] at g
  obtain⟨r,o⟩:=g
  have r:(rs.map (lY ds))[j]?=some x.1:=r
  rw[gQm] at r
  obtain⟨f,b,e⟩:=oQm.mp r
  rw[A] at o
  by_cases c:j=i
  ·subst c
   rw[u] at b
   cases b
   rw[dz u] at o
   exact .inl ⟨rfl,Prod.ext e.symm (QdQ o).symm⟩
  ·rw[rB c,b] at o
   exact .inr ⟨f,Prod.ext e.symm (QdQ o).symm⟩
 have H:((w8 rs ds nm n).aj.zip s.aj)[i]?=some (lY ds p,nV p (qZ row) (dY row.tail)):=by
  rw[List.getElem?_zip_eq_some]
  refine⟨?_,by rw[A,dz u]⟩
  show(rs.map (lY ds))[i]?=_
  rw[gQm,u]
  rfl
 have F:di (w8 rs ds nm n) s h=((w8 rs ds nm n).aj.zip s.aj).flatMap (fm h):=by
  unfold di
  rw[w]
  simp
 rw[F]
 constructor
 ·intro y
  have C:(((w8 rs ds nm n).aj.zip s.aj).take i).flatMap (fm h)= []:=by
   rw[List.flatMap_eq_nil_iff]
   intro x g
   obtain⟨j,m⟩:=List.getElem?_of_mem g
   rw[List.getElem?_take] at m
   split at m
   ·rcases B j x m with⟨rfl,_⟩|⟨f,rfl⟩
    ·omega
    ·rw[v];rfl
   ·cases m
  obtain⟨t,G⟩:=lE (n:=mW (dY row.tail) h) (d:=D.tup [.str "row",.str p.1]) λz=>dR.mp z (jg.mpr y)
  exact fI C H (show fm h _=_::t by rw[v];exact G)
 ·intro y
  rw[List.flatMap_eq_nil_iff]
  intro x g
  obtain⟨j,m⟩:=List.getElem?_of_mem g
  rcases B j x m with⟨_,rfl⟩|⟨f,rfl⟩
  ·rw[v,dR.mpr λz=>y (jg.mp z)]
   rfl
  ·rw[v];rfl
def qE(row:List Nat)(nm:Str)(h:Nat):D:=if h∈row.tail then .tup [.str "row",.str nm] else if (h:Int)=qZ row then .tup [.str "within",.str nm] else .tup [.str "out"]
def F8(g:rs[i]?=some p)(a:v8 rs i n row beh k s)(j:h<n):∃fs f,s.af[h]?=some ([],fs)/\fs.getLast? =some f/\fW (w8 rs ds nm n) s h f=qE row p.1 h:=by
 have m:=Bp (h:=h) (ds:=ds) (n:=n) (nm:=nm) g a.ps a.rm
 have b:∀q,q<2->lz (w8 rs ds nm n) s h (bU q)=.tup [.str "out"]:=λq A=>by
  unfold lz rX
  rw[Qhq (show(bU q).room= -1 from rfl),Qhq (show(bU q).room= -1 from rfl)]
  have:kJ (w8 rs ds nm n) h=2:=by unfold kJ;rw[wy j];rfl
  rw[this,Quq (by show¬(q:Int)=((2:Nat):Int);omega)]
 by_cases c:h∈row.tail
 ·obtain⟨t,d⟩:=m.1 c
  refine⟨_,_,a.wait h c,rfl,?_⟩
  unfold fW qE
  rw[d,Qhq c]
 ·have d:=m.2 c
  cases row with
  | nil=>
    by_cases e:h∈beh
    · refine⟨_,_,a.bh h e,rfl,?_⟩
      unfold fW qE
      rw[d,Quq c,Quq (by show¬(h:Int)= -1;omega)]
      exact b 1 (by decide)
    · refine⟨_,_,a.out h j (by simp) e,rfl,?_⟩
      unfold fW qE
      rw[d,Quq c,Quq (by show¬(h:Int)= -1;omega)]
      exact b 0 (by decide)
  | cons y r=>
    have c:h∉r:=c
    by_cases l:h=y
    · subst l
      obtain⟨t,x⟩:=a.first h r rfl
      refine⟨_,_,x,rfl,?_⟩
      unfold fW qE
      rw[d,Quq (show¬h∈(h::r).tail from c),Qhq (show(h:Int)=qZ (h::r) from rfl)]
      show lz _ _ _ (eF i k t)=_
      unfold lz rX
      rw[Quq (show¬(eF i k t).room= -1 by show¬(i:Int)= -1;omega),Quq (show¬(eF i k t).room= -1 by show¬(i:Int)= -1;omega)]
      have v:wit s (i:Int)=h:=by
        unfold wit
        rw[show((i:Int)).toNat=i by omega,a.rm,dz g]
        rfl
      have u:Gj (w8 rs ds nm n) (i:Int)=p.1:=by
        unfold Gj
        rw[show((i:Int)).toNat=i by omega]
        show(((rs.map (lY ds))[i]?).map (·.name)).getD ("":Str)=_
        rw[gQm,g]
        rfl
      show D.tup [.str (if wit s (i:Int)=(h:Int) then "within" else "called"),.str (Gj _ (i:Int))]=_
      rw[v,u,Qhq rfl]
    · have w:h∉y::r:=λz=>(Qsq.mp z).elim l c
      have o:¬(h:Int)=qZ (y::r):=by show¬(h:Int)=(y:Int);omega
      by_cases e:h∈beh
      · refine⟨_,_,a.bh h e,rfl,?_⟩
        unfold fW qE
        rw[d,Quq (show¬h∈(y::r).tail from c),Quq o]
        exact b 1 (by decide)
      · refine⟨_,_,a.out h j w e,rfl,?_⟩
        unfold fW qE
        rw[d,Quq (show¬h∈(y::r).tail from c),Quq o]
        exact b 0 (by decide)
def Hl(d:rs[i]?=some p){l:List Nat}(a:GT rs i n l s)(c:h<n)(e:s.af[h]?=some ([],[bU 2])):fW (w8 rs ds nm n) s h (bU 2)=.tup [.str "done"]:=by
 have b:=(Bp (row:= []) (h:=h) (ds:=ds) (n:=n) (nm:=nm) d a.ps a.rm).2 (λz=>nomatch z)
 unfold fW
 rw[b]
 show lz _ _ _ _=_
 unfold lz rX
 rw[Qhq (show(bU 2).room= -1 from rfl),Qhq (show(bU 2).room= -1 from rfl)]
 have:kJ (w8 rs ds nm n) h=2:=by unfold kJ;rw[wy c];rfl
 rw[this,Qhq rfl]
end
end W28
namespace DL
open PySem PySem.Spec L2
theorem D7{α:Type}(d:α):∀n:Nat,(List.replicate n [d]).flatten=List.replicate n d
 |0=>rfl
 |n+1=>by rw[QNq,QNq,List.flatten_cons,D7 d n];rfl
def Cg{S:aA}{d:D}{n:Nat}{Q:D->Prop}(a:n<=9)(q:Q (.tup (List.replicate n d))):Op (sU S (.tup [d]) (.int n)) Q:=by
 refine⟨_,?_,q⟩
 unfold sU
 rw[show(List.replicate n d)=(List.replicate ((n:Int)).toNat [d]).flatten by rw[show((n:Int)).toNat=n by omega,D7]]
 exact Qhq ⟨by omega,by omega,by simp,nQl (aH (by simp;omega))⟩
def Az{b:cE}{S:aA}{f:et}{lo hi:DB}{Q:List D->aA->Prop}(h:E f b S λp c=>E lo b c λl S2=>E hi b S2 λu a=>(p.2.isL=true/\p.2.stays a p.1)/\Q (eO p.1 l u) a):E (Gi f lo hi) b S Q:=by
 obtain⟨p,c,d,l,S2,g,u,a,i,e,q⟩:=h
 exact⟨_,a,by unfold Gi;rw[d];simp only[Qbq];rw[g];simp only[Qbq];rw[i];simp only[Qbq];rw[Qhq e],q⟩
end DL
namespace W28
open PySem PySem.Spec L2 DL
def Dw:List Str:= ["a","bb","c","d","e"]
structure Gf(rs:List R8)(ds:List Nat)(i:Nat)(p:R8):Prop where
 nd:(rs.map (·.1)).Nodup
 l1:rs.length<=3
 nm:∀q∈rs,q.1∈Dw
 mn:∀q∈rs,q.2.1="at once" \/q.2.1="when free"
 at_:rs[i]?=some p
 d1:ds.length<=4
 dv:∀v∈ds,v<=9
def Gf.ok{f:List R8}{ds:List Nat}{i n:Nat}{p:R8}(a:Gf f ds i p)(o:0<n)(m:n<=4):iI (w8 f ds p.1 n):=by
 have c:∀q∈f,((q.1,("x":Str)):Str×Str)∈eg (f.map (lY ds)):=λq k=>QOq.mpr ⟨lY ds q,Qkq.mpr ⟨q,k,rfl⟩,Qkq.mpr ⟨_,Qfq.mpr rfl,rfl⟩⟩
 have t:=a.l1
 refine⟨by rw[names8];exact a.nd,by show(f.map _).length<=3;rw[lQm];exact t,Nat.zero_le _,Nat.zero_le _,by show(List.replicate _ _).length<=4;rw[QIq];exact m,by show 0<(List.replicate _ _).length;rw[QIq];exact o,λp e=>(nomatch e),λp e=>(nomatch e),λr g=> ?_,λh l=> ?_⟩
 ·obtain⟨q,k,rfl⟩:=Qkq.mp (show r∈f.map (lY ds) from g)
  refine⟨a.mn q k,λp e=>(nomatch e),Nat.zero_le _,?_,by show 1<=6;decide,λb j=> ?_,λd u=> ?_⟩
  ·show(if q.2.2 then _ else _:List (Str×Str)).length<=6
   split <;>decide
  ·have j:b∈(if q.2.2 then [(("bell":Str),("row":Str))] else []):=j
   split at j
   ·rw[Qfq.mp j];exact .inl rfl
   ·cases j
  ·rw[Qfq.mp (show d∈[_] from u)]
   refine⟨λr g=> ?_,by show(ds.map _).length<=12;rw[lQm];have:=a.d1;omega⟩
   obtain⟨v,w,rfl⟩:=Qkq.mp (show r∈ds.map _ from g)
   exact⟨rfl,a.dv v w,by show 1<=4;decide⟩
 ·have l:h∈List.replicate n (([]:List (Str×Nat)),DS p.1):=l
  rw[QkQ l]
  refine⟨λp e=>(nomatch e),Nat.zero_le _,by show 2<=9;decide,by show 0<2;decide,λr g=> ?_⟩
  simp only[DS,Qsq,QXq,or_false] at g
  rcases g with rfl|rfl
  ·exact⟨λx s=>(nomatch s),c p (mQg a.at_),by show 3<=9;decide,by show 1<=4;decide⟩
  ·exact⟨rfl,by show 1<=9;decide,by decide⟩
def xu{ns:List Str}{j:Nat}{x:Str}(nd:ns.Nodup)(h:ns[j]?=some x):cv ns x=j:=by
 have:=jl (mQg h)
 have a:=(gQs.mp h).1
 exact(List.getElem_inj (h₀:=this.1) (h₁:=a) nd).mp (by
  have b:=this.2
  rw[gQe this.1] at b
  rw[gQe a] at h
  exact(QdQ b).trans (QdQ h).symm)
def IZ{a b:Nat}(d:(a:Int)<3)(c:(b:Int)<3):∃ns:List Str,eO (eO (Dw.map D.str) (some (a:Int)) none) none (some (1+(b:Int)))=ns.map D.str/\ns.Nodup/\0<ns.length/\ns.length<=3/\∀x∈ns,x∈Dw:=by
 rcases(by omega:a=0\/a=1\/a=2) with rfl|rfl|rfl <;>rcases(by omega:b=0\/b=1\/b=2) with rfl|rfl|rfl
 ·exact⟨["a"],rfl,by decide +kernel,by decide,by decide,by decide +kernel⟩
 ·exact⟨["a","bb"],rfl,by decide +kernel,by decide,by decide,by decide +kernel⟩
 ·exact⟨["a","bb","c"],rfl,by decide +kernel,by decide,by decide,by decide +kernel⟩
 ·exact⟨["bb"],rfl,by decide +kernel,by decide,by decide,by decide +kernel⟩
 ·exact⟨["bb","c"],rfl,by decide +kernel,by decide,by decide,by decide +kernel⟩
 ·exact⟨["bb","c","d"],rfl,by decide +kernel,by decide,by decide,by decide +kernel⟩
 ·exact⟨["c"],rfl,by decide +kernel,by decide,by decide,by decide +kernel⟩
 ·exact⟨["c","d"],rfl,by decide +kernel,by decide,by decide,by decide +kernel⟩
 ·exact⟨["c","d","e"],rfl,by decide +kernel,by decide,by decide,by decide +kernel⟩
def vI(v:Nat):D:=.tup [.str "tell",.int v]
section
variable{S S0:aA}{Q:Res->aA->Prop}{k:Nat}
def Ff{a c:Str}{v:Nat}(h:(v:Int)<2):∃x:Str,(x=a\/x=c)/\lW ([.str a,.str c]:List D) (v:Int)=some (.str x):=by
 rcases(by omega:v=0\/v=1) with rfl|rfl
 ·exact⟨a,.inl rfl,rfl⟩
 ·exact⟨c,.inr rfl,rfl⟩
def zL{n:Nat}(x:Ex k S0 S)(hn:2<=n)(b5:n<=4)
  (h:∀(rs:List R8) (ds:List Nat) (i:Nat) (p:R8) (g:aA),Gf rs ds i p->Ex k S0 g->Q (.d (.tup [(w8 rs ds p.1 n).d,.str p.1,.int ds.length])) g):
  Fn gr [.ref k,.int n] S Q:=by
 have y:Ex k S S:=by obtain⟨a,b,c,hh⟩:=x.pot;exact Ex.refl hh
 have kl:=x.lt
 refine bD ?_
 unfold i6
 symm
 apply Az ?_
 apply Az ?_
 refine⟨by decide,?_⟩
 apply bC ?_
 refine fw y (by decide) (by decide) λv1 S1 b2 e1 b6 l1=> ?_
 dsimp only
 refine⟨_,rfl,bI ⟨⟨rfl,trivial⟩,?_⟩⟩
 apply bI (bC ?_)
 apply fw e1 (by decide) (by decide) λv2 A a1 e2 b4 l2=> ?_
 refine⟨_,rfl,⟨rfl,trivial⟩,?_⟩
 obtain⟨o,b3,b1,a4,b7,W⟩:=IZ b2 a1
 show T _ _ (A++ [O.lst (eO (eO (Dw.map D.str) (some (v1:Int)) none) none (some (1+(v2:Int))))]) _
 rw[b3]
 have J:A.length=S.length:=by omega
 have e3:Ex k S (A++ [O.lst (o.map D.str)]):=e2.app
 have hN:(A++ [O.lst (o.map D.str)])[A.length]?=some (.lst (o.map D.str)):=bN
 have l3:(A++ [O.lst (o.map D.str)]).length=S.length+1:=by simp[J]
 rw[J] at hN
 show T _ [some (D.ref k),some (.int n),some (.ref A.length),none,none,none,none,none,none] _ _
 rw[J]
 generalize (A++ [O.lst (o.map D.str)])=S3 at e3 hN l3⊢
 symm
 apply fw e3 (by decide) (by decide) λP S4 c2 e4 X l4=> ?_
 have a9:=X.keep _ _ (by omega:S.length≠k) hN
 rw[show(1:Int)+(P:Int)=((1+P:Nat):Int) by omega]
 apply pE (Au ?_)
 refine⟨((1+P:Nat):Int),rfl,by omega,?_⟩
 refine⟨λm f g H=>(∃a,f= [a,some (.ref k)])/\∃ds:List Nat,H=ds.map vI/\ds.length=m/\(∀v∈ds,v<=9)/\Ex k S g/\g.length=S4.length/\g[S.length]?=some (.lst (o.map D.str)),⟨⟨none,rfl⟩,[],rfl,rfl,λ_ h=>(nomatch h),e4,rfl,a9⟩,λ_ _ _ _ _=>trivial,?_,?_⟩
 ·rintro m d f g H w ⟨⟨a,rfl⟩,ds,rfl,hlen,h9,ex,lS,hN'⟩
  obtain⟨rfl,hm⟩:=pK w
  apply aL ?_
  rw[Qhq rfl]
  symm
  apply fw ex (by decide) (by decide) λv C hv Z a3 l5=> ?_
  refine⟨by show 2<=_;decide,?_⟩
  refine⟨aH (by rw[lQm];omega),⟨_,rfl⟩,ds++ [v],by simp[vI],by simp[hlen],λz R=> ?_,Z,by omega,a3.keep _ _ (by omega) hN'⟩
  rcases mQa.mp R with R|R
  ·exact h9 z R
  ·rw[Qfq.mp R];omega
 rintro f C H ⟨-,ds,rfl,hlen,h9,Z,l5,hN5⟩
 rw[vX] at hlen
 symm
 repeat (refine⟨nQl (aH (by simp)),?_⟩;symm)
 have I:(C++ [O.lst []])[C.length]?=some (.lst []):=bN
 have K:(C++ [O.lst []])[S.length]?=some (.lst (o.map D.str)):=dr hN5
 have e6:Ex k S (C++ [O.lst []]):=Z.app
 have a8:C.length=S.length+1:=by omega
 generalize (C++ [O.lst []])=S6 at I K e6⊢
 generalize C.length=lr at I a8⊢
 refine iJ (sN ?_)
 refine nM (bP rfl (eI K ?_))
 refine⟨λj f g=>∃(l:List R8) (a6 Y:Option D),f= [some (.ref k),some (.int n),some (.ref S.length),some (.int (1+P:Nat)),some (.tup [.str "x",.tup (ds.map vI)]),some (.ref lr),a6,Y,none]/\l.map (·.1)=o.take j/\l.length=j/\(∀q∈l,q.2.1="at once" \/q.2.1="when free")/\g[lr]?=some (.lst (l.map λq=>(lY ds q).d))/\g[S.length]?=some (.lst (o.map D.str))/\Ex k S g,⟨[],_,_,rfl,rfl,rfl,λ_ h=>(nomatch h),I,K,e6⟩,λ_ _ _ ⟨_,_,_,_,_,_,_,_,h,_⟩=>h,?_,?_⟩
 ·rintro j d f g w ⟨l,a6,Y,rfl,e,t,hmn,hR,hN',ex⟩
  rw[gQm] at w
  obtain⟨s,hs,rfl⟩:=oQm.mp w
  have hj:=(gQs.mp hs).1
  apply aL ?_
  refine⟨by show 2<=_;decide,?_⟩
  symm
  have lS:=ex.len
  refine fw (ex.app (G:= [O.lst [.str "at once",.str "when free"]])) (by decide) (by decide) λv S7 hv e7 r l7=> ?_
  dsimp only
  obtain⟨U,hm,ha⟩:=Ff (a:="at once") (c:="when free") (v:=v) hv
  have c1:lr<g.length:=(gQs.mp hR).1
  apply hX (r.keep _ _ (by omega) bN) ha ?_
  have u:=r.keep _ _ (by omega:lr≠k) (dr hR)
  have a2:=r.keep _ _ (by omega:S.length≠k) (dr hN')
  apply BM ?_
  apply⟨_,_,rfl,u,?_⟩
  repeat (refine⟨nQl (aH (by simp)),?_⟩;symm)
  refine fw e7 (by decide) (by decide) λB S8 b8 e8 N l8=> ?_
  dsimp only
  apply Cg (by omega) ?_
  repeat (refine⟨nQl (aH (by simp)),?_⟩;symm)
  have M:=N.keep _ _ (by omega:lr≠k) u
  have a5:=N.keep _ _ (by omega:S.length≠k) a2
  refine⟨_,M,wQ (aH (by rw[lQm];omega)) ?_⟩
  refine⟨l++ [(s,U,decide (B=1))],_,_,rfl,?_,by simp[t],λq F=> ?_,?_,iE (by omega) a5,e8.put (by omega) kl⟩
  ·rw[Qzq,e,QYq,hs]
   rfl
  ·rcases mQa.mp F with F|F
   ·exact hmn q F
   ·rw[Qfq.mp F];exact hm
  ·rw[gH M,Qzq]
   have:(lY ds (s,U,decide (B=1))).d=.tup [.str s,.str U,.tup [],.tup (List.replicate B (.tup [.str "bell",.str "row"])),.tup [.tup [.str "x",.tup (ds.map vI)]]]:=by
    unfold lY Rm.d
    have e1:(if decide (B=1) then [(("bell":Str),("row":Str))] else []).map CQ=List.replicate B (.tup [.str "bell",.str "row"]):=by
     rcases(by omega:B=0\/B=1) with rfl|rfl <;>rfl
    have e2:(ds.map λv=>Rw.tell (.num v)).map Rw.d=ds.map vI:=by rw[QPq];rfl
    show D.tup [.str s,.str U,.tup [],.tup ((if decide (B=1) then [(("bell":Str),("row":Str))] else []).map CQ),.tup [.tup [.str "x",.tup ((ds.map λv=>Rw.tell (.num v)).map Rw.d)]]]=_
    rw[e1,e2]
   rw[QDq,List.map_nil,this]
 ·rintro f g ⟨l,a6,Y,rfl,e,t,hmn,hR,hN',ex⟩
  have t:l.length=(o.map D.str).length:=t
  rw[lQm] at t
  have e:l.map (·.1)=o.take (o.map D.str).length:=e
  rw[lQm,QEq] at e
  symm
  refine DF (xs:=o.map D.str) ex (by omega) hN' (by simpa using a4) (by simp;omega) (λd w=> ?_) (λd w=> ?_) λc0 S7 b0 e7 r l7=> ?_
  ·obtain⟨s,_,rfl⟩:=Qkq.mp w
   exact⟨λk z=>(nomatch z),rfl⟩
  ·obtain⟨s,_,rfl⟩:=Qkq.mp w
   rfl
  obtain⟨nm,L,rfl⟩:=Qkq.mp b0
  symm
  repeat (refine⟨nQl (aH (by simp)),?_⟩;symm)
  have u:=r.keep _ _ (by omega:lr≠k) hR
  apply eI u ⟨rfl,?_⟩
  repeat (refine⟨nQl (aH (by simp)),?_⟩;symm)
  apply Cg (by omega) ?_
  repeat (refine⟨nQl (aH (by simp)),?_⟩;symm)
  rw[←e] at L
  obtain⟨p,hp,rfl⟩:=Qkq.mp L
  obtain⟨i,hi⟩:=List.getElem?_of_mem hp
  have wo:Gf l ds i p:=⟨by rw[e];exact b1,by omega,λq F=>W _ (by rw[←e];exact Qkq.mpr ⟨q,F,rfl⟩),hmn,hi,by omega,h9⟩
  have ew:(w8 l ds p.1 n).d=.tup [.tup (l.map λq=>(lY ds q).d),.tup [],.tup [],.tup (List.replicate n (.tup [.tup [],.tup [.tup [.str "do",.non,.str p.1,.str "x",.int 3],.tup [.str "say",.int 1]]]))]:=by
   unfold cC.d w8
   show D.tup [.tup ((l.map (lY ds)).map Rm.d),.tup [],.tup [],.tup ((List.replicate n (([]:List (Str×Nat)),DS p.1)).map lJ)]=_
   rw[QPq,QlQ]
   rfl
  refine D_ e7 kl (λk z=>(nomatch z)) ?_ λa b c=> ?_
  ·rw[←ew]
   simp only[bB,bo,Bool.and_true,QCq]
   exact lC (cC.low _)
  ·rw[←ew,show((1+P:Nat):Int)=(ds.length:Nat) by rw[hlen]]
   exact h l ds i p _ wo x.set
end
end W28
namespace DL
open PySem PySem.Spec L2
section
variable{Γ:cE}{S:aA}
def Hm{a:Bool}{x y:D}{p r:PyData}{Q:D->Prop}(c:iR x=some p)(d:iR y=some r)(b:p.depth<=60)(q:Q (.bl (if a then !PyData.eqv p r else PyData.eqv p r))):Op (BW a S x y) Q:=⟨_,by unfold BW;rw[c,d];simp only[Qbq];rw[Qhq b],q⟩
def xx{d:D}{p:PyData}{a:Bool}{Q:D->Prop}(h:iR d=some p)(hd:p.depth<=60)(q:Q (.bl (!a))):Op (BW a S d d) Q:=by
 refine Hm h h hd ?_
 rw[SeqAt.eqv_refl p (lT h)]
 cases a <;>exact q
def Ec{f g h:aW}{Q:Out->Prop}(w:E h Γ S λd b=>E f Γ b λx S2=>E g Γ S2 λy a=>∃k l z,x=.ref k/\y=.int z/\a[k]?=some (.dct l)/\l.length<sizeLine/\Q (.nx Γ (a.set k (.dct (putD l (.inl z) d))))):T (El f g h) Γ S Q:=by
 obtain⟨d,b,c,x,S2,e,y,a,i,k,l,z,rfl,rfl,h1,h2,q⟩:=w
 exact⟨_,by unfold El;rw[c];simp only[Qbq];rw[e];simp only[Qbq];rw[i];simp only[Qbq,h1,k9];rw[Qhq h2],q⟩
def IR{f:aW}{Q:(List D×(aA->Prop))->aA->Prop}(h:E f Γ S λx a=>∃k l,x=.ref k/\a[k]?=some (.dct l)/\Q (l.map (λp=>kD p.1),λb=>b[k]?=some (.fdc l)) (a.set k (.fdc l))):E (IG f) Γ S Q:=by
 obtain⟨x,a,c,k,l,rfl,h1,q⟩:=h
 exact⟨_,_,by unfold IG;rw[c];simp only[Qbq,h1],q⟩
def G8{f g:aW}{Q:D->aA->Prop}(h:E f Γ S λx a=>E g Γ a λy S2=>∃k l z v,x=.ref k/\y=.int z/\S2[k]?=some (.fdc l)/\jj l (.inl z)=some v/\Q v S2):E (II f g) Γ S Q:=by
 obtain⟨x,a,b,y,S2,c,k,l,z,v,rfl,rfl,h1,h2,q⟩:=h
 exact⟨_,_,by unfold II;rw[b];simp only[Qbq];rw[c];simp only[Qbq,h1,k9];rw[h2];rfl,q⟩
end
end DL
namespace W28
open PySem PySem.Spec L2 DL
def FI{a:cE}{S:aA}{f:et}{g:aW}{Q:D->aA->Prop}(h:E f a S λp b=>E g a b λy S2=>∃(ns:List Str) (x:Str) (j:Nat),p.1=ns.map D.str/\p.2.isL=true/\p.2.stays S2 p.1/\y=.str x/\kL (.str x) (ns.map V.str)=some j/\Q (.int j) S2):E (zm f g) a S Q:=by
 obtain⟨⟨e,t⟩,b,c,y,S2,d,ns,x,j,rfl,h1,h2,rfl,h3,q⟩:=h
 refine⟨.int j,S2,?_,q⟩
 unfold zm
 rw[c]
 simp only[Qbq]
 rw[Qhq h1,d]
 simp only[Qbq]
 rw[Qhq h2]
 simp only[rL,Qbq]
 rw[iw]
 simp only[Qbq]
 rw[h3]
 rfl
theorem v7:∀(l:List Nat) (n j:Nat) {d:D},(fS n (l.map aY))[j]?=some d->∃h,l[j]?=some h/\d=.tup [.int (n+j:Nat),.int h]
 | [],_,_,_,e=>by simp[fS] at e
 | a::l,n,0,_,e=>by
   simp[fS] at e
   exact⟨a,rfl,by rw[←e];rfl⟩
 | a::l,n,j+1,d,e=>by
   obtain⟨h,b,c⟩:=v7 l (n+1) j (d:=d) (by simpa [fS] using e)
   exact⟨h,b,by rw[c,show n+1+j=n+(j+1) by omega]⟩
theorem uM:∀(l:List D) (n:Nat),(fS n l).length=l.length
 | [],_=>rfl
 |a::l,n=>by simp[fS,uM l (n+1)]
def jv(f:Nat->D)(a:List Nat):List (Key×D):=a.map λh:Nat=>(Sum.inl ((h:Nat):Int),f h)
def uB{f:Nat->D}{a:List Nat}{h:Nat}(g:h∉a):putD (jv f a) (.inl (h:Int)) (f h)=jv f (a++ [h]):=by
 unfold putD
 have:¬(jv f a).any (λb=>decide (b.1=.inl (h:Int)))=true:=λz=>by
  obtain⟨b,i,e⟩:=List.any_eq_true.mp z
  obtain⟨c,d,rfl⟩:=Qkq.mp i
  have e:=QZq e
  have:c=h:=by
   have:=Sum.inl.inj e
   omega
  subst this
  exact g d
 rw[Quq this]
 unfold jv
 simp
theorem vf{f:Nat->D}{h:Nat}:∀{b:List Nat},h∈b->jj (jv f b) (.inl (h:Int))=some (f h)
 | a::l,hm=>by
   by_cases c:a=h
   · subst c
     unfold jj jv
     rw[QDq,List.find?_cons_of_pos (by simp)]
     rfl
   · have:=vf (f:=f) ((Qsq.mp hm).resolve_left (Ne.symm c))
     unfold jj jv at this⊢
     rw[QDq,List.find?_cons_of_neg (by
       intro z
       have:=Sum.inl.inj (QZq z)
       exact c (by omega))]
     exact this
section
variable{rs:List R8}{ds:List Nat}{p:R8}{i n k m:Nat}{row beh out:List Nat}{s:aN}{S:aA}{Q:Res->aA->Prop}{lo lr lb:Nat}
theorem J2:∀l:List Nat,jS (l.map aY)=some (l.map λh:Nat=>PyData.int h)
 | []=>rfl
 | a::l=>by
   show(iR (aY a)).bind _=_
   rw[J2 l]
   rfl
theorem HR:∀l:List Nat,PyData.depthAll (l.map λh:Nat=>PyData.int h)<=1
 | []=>by simp[PyData.depthAll]
 | a::l=>by
   have:=HR l
   simp[PyData.depthAll,PyData.depth] at this⊢
   omega
def mK(Z:Gf rs ds i p)(b2:0<n)(b4:n<=4)(x:bT (w8 rs ds p.1 n) m s)(hm:m<=100)(a:v8 rs i n row beh k s)(v:∀h∈out,h<n/\h∉row/\h∉beh)(b3:out.Nodup)
  (ho:S[lo]?=some (.lst (out.map aY))) (B:S[lr]?=some (.lst (row.map aY))) (hb:S[lb]?=some (.lst (beh.map aY))) (q:Q (.d (.bl true)) S):
  Fn dW [(w8 rs ds p.1 n).d,s.d,.str p.1,.tup [.ref lo,.ref lr,.ref lb]] S Q:=by
 have o:=Z.ok b2 b4
 have hp:=Z.at_
 have r:=a.nd
 rw[List.nodup_append] at r
 have R:∀l:List Nat,l.Nodup->(∀h∈l,h<n)->l.length<=4:=λl h1 h2=>by
  have:=List.Nodup.length_le_of_subset h1 (l₂:=List.range n) (λh g=>List.mem_range.mpr (h2 h g))
  rw[QVq] at this
  omega
 have A:(out++beh++row).Nodup:=by
  refine List.nodup_append.mpr ⟨List.nodup_append.mpr ⟨b3,r.2.1,λx K y hy z=>(v x K).2.2 (z▸hy)⟩,r.1,λx K y hy z=> ?_⟩
  rcases mQa.mp K with K|K
  ·exact(v x K).2.1 (z▸hy)
  ·exact r.2.2 y hy x K z.symm
 have a1:∀h∈out++beh++row,h<n:=λh g=>by
  rcases mQa.mp g with g|g
  ·rcases mQa.mp g with g|g
   ·exact(v h g).1
   ·exact a.lt h (mQa.mpr (.inr g))
  ·exact a.lt h (mQa.mpr (.inl g))
 have l4:=R _ A a1
 simp only[lQa] at l4
 refine bD ?_
 unfold jk
 symm
 refine dA rfl (au (aL (au (aL (au (aL (aQ ?_)))))))
 refine bz (B8 (Hu ?_))
 have C:∀{j:Nat} {G:O},S[j]?=some G->(S++ [O.dct []])[j]?=some G:=λh=>dr h
 refine bz (iJ (sN (B7 (D8 ?_))))
 refine nM (bP rfl (eI (C ho) ?_))
 refine nM (bP rfl (eI (C hb) ?_))
 refine⟨⟨rfl,rfl,C ho,nQl (aH (by simp;omega))⟩,?_⟩
 rw[←Qzq]
 refine⟨λj e u=>(∃L,e= [some (w8 rs ds p.1 n).d,some s.d,some (.str p.1),some (.tup [.ref lo,.ref lr,.ref lb]),some (.ref lo),some (.ref lr),some (.ref lb),some (.ref S.length),L,none,none])/\u=S++ [O.dct (jv (qE row p.1) ((out++beh).take j))],⟨⟨none,rfl⟩,by rw[List.take_zero];rfl⟩,λ_ _ _ _=>trivial,?_,?_⟩
 ·rintro j d e u H ⟨⟨L,rfl⟩,rfl⟩
  rw[gQm] at H
  obtain⟨h,g,rfl⟩:=oQm.mp H
  refine aL ?_
  refine Ec (HJ (mZ (Ga (rO ⟨by show 1<=_;decide,?_⟩))))
  refine bP rfl (bP rfl ⟨_,_,_,rfl,rfl,bN,aH (by simp[jv];omega),?_⟩)
  refine⟨⟨_,rfl⟩,?_⟩
  have X:=mQg g
  have e0:qE row p.1 h=.tup [.str "out"]:=by
   have B:h∉row:=by
    rcases mQa.mp X with z|z
    ·exact(v h z).2.1
    ·exact λw=>r.2.2 h w h z rfl
   unfold qE
   rw[Quq λz=>B (List.mem_of_mem_tail z),Quq]
   cases row with
   |nil=>show¬(h:Int)= -1;omega
   | cons y l=>
     have:h≠y:=λz=>B (by rw[z];simp)
     show¬(h:Int)=(y:Int)
     omega
  have I:h∉(out++beh).take j:=λz=>by
   have P:=(gQs.mp g).1
   have nd:=(List.nodup_append.mp A).1
   rw[←List.take_append_drop j (out++beh)] at nd
   rw[gQe P] at g
   cases g
   exact(List.nodup_append.mp nd).2.2 _ z _ (by rw[QWq P];exact QBq ..) rfl
  rw[←e0,uB I,QYq,g]
  simp
 rintro e u ⟨⟨L,rfl⟩,rfl⟩
 rw[lQm,QEq]
 have C:∀{j:Nat} {G oc:O},S[j]?=some G->(S++ [oc])[j]?=some G:=λh=>dr h
 refine bz (iJ (Cu ?_))
 refine nM (bP rfl (eI (C B) ?_))
 refine⟨λj e u=>(∃L a9,e= [some (w8 rs ds p.1 n).d,some s.d,some (.str p.1),some (.tup [.ref lo,.ref lr,.ref lb]),some (.ref lo),some (.ref lr),some (.ref lb),some (.ref S.length),L,a9,none])/\oB S u/\u[S.length]?=some (.dct (jv (qE row p.1) (out++beh++row.take j))),⟨⟨_,_,rfl⟩,oB.refl.app,by rw[List.take_zero,List.append_nil];exact bN⟩,λj e u h=> ?_,?_,?_⟩
 ·show u[lr]?=_
  rw[h.2.1.eq lr (gQs.mp B).1]
  exact B
 ·rintro j d e u H ⟨⟨L,a9,rfl⟩,bh,N⟩
  obtain⟨h,g,rfl⟩:=v7 row 0 j H
  rw[Nat.zero_add]
  have P:=(gQs.mp g).1
  refine dA rfl (au (aL (au (aL (aQ ?_)))))
  have bl:=bh.len
  apply Ec ?_
  refine⟨by show 2<=_;decide,?_⟩
  symm
  refine vg ?_
  obtain⟨M,b0,e0⟩:∃M:Str,lW ([.str "within",.str "row"]:List D) (if decide ((j:Int)>0)=true then(1:Int) else 0)=some (.str M)/\qE row p.1 h=.tup [.str M,.str p.1]:=by
   cases row with
   |nil=>cases P
   | cons y l=>
     cases j with
     | zero=>
       refine⟨"within",rfl,?_⟩
       cases g
       unfold qE
       rw[Quq (show¬h∈(h::l).tail from λz=>(List.nodup_cons.mp r.1).1 z),Qhq (show(h:Int)=qZ (h::l) from rfl)]
     | succ j=>
       refine⟨"row",by rw[Qeq (by omega)];rfl,?_⟩
       have:h∈l:=mQg g
       unfold qE
       rw[Qhq (show h∈(y::l).tail from this)]
  apply hX bN b0 ?_
  refine⟨by show 2<=_;decide,?_⟩
  symm
  have U:(u++ [O.lst [.str "within",.str "row"]])[S.length]?=some (.dct (jv (qE row p.1) (out++beh++row.take j))):=dr N
  refine⟨_,_,_,rfl,rfl,U,aH (by simp[jv];omega),?_⟩
  refine⟨⟨_,_,rfl⟩,bh.app.put (Qmq _),?_⟩
  rw[gH U,←e0]
  have I:h∉out++beh++row.take j:=λz=>by
   rcases mQa.mp z with z|z
   ·exact(List.nodup_append.mp A).2.2 h z h (mQg g) rfl
   ·have nd:=r.1
    rw[←List.take_append_drop j row] at nd
    rw[gQe P] at g
    cases g
    exact(List.nodup_append.mp nd).2.2 _ z _ (by rw[QWq P];exact QBq ..) rfl
  have Y:=uB (f:=qE row p.1) I
  rw[show jv (qE row p.1) (out++beh++List.take (j+1) row)=jv (qE row p.1) (out++beh++row.take j++ [h]) by rw[QYq,g,←Qvq];rfl,←Y]
 rintro e u ⟨⟨L,a9,rfl⟩,bh,N⟩
 have N:u[S.length]?=some (.dct (jv (qE row p.1) (out++beh++row.take (fS 0 (row.map aY)).length))):=N
 rw[uM,lQm,QEq] at N
 have bl:=bh.len
 have C:∀{j:Nat} {G:O},S[j]?=some G->u[j]?=some G:=λ{j G} h=>by rw[bh.eq j (gQs.mp h).1];exact h
 refine bz (B8 (FI (B7 ?_)))
 refine mD (α:=R8) (λe=>∃b,e= [b]) (λq=>(lY ds q).d) (λq=>.str q.1) ⟨none,rfl⟩ ?_
 refine nM (Cs (bP rfl (Ga (ar rfl (cD ?_)))))
 refine⟨rs,by show(rs.map (lY ds)).map Rm.d=_;rw[QPq];rfl,trivial,by have:=Z.l1;omega,λq hq e J=> ?_,?_⟩
 ·obtain⟨b,rfl⟩:=J
  apply aL ⟨rfl,⟨_,rfl⟩,?_⟩
  refine ar rfl ⟨rfl,rfl⟩
 obtain⟨j,a4,b1⟩:=oy (x:=p.1) (ns:=rs.map (·.1)) (Qkq.mpr ⟨p,mQg hp,rfl⟩)
 have a5:j=i:=by
  have h1:cv (rs.map (·.1)) p.1=j:=xu Z.nd b1
  have h2:cv (rs.map (·.1)) p.1=i:=xu Z.nd (by rw[gQm,hp];rfl)
  omega
 subst a5
 refine bP rfl ⟨rs.map (·.1),p.1,j,by rw[QPq];rfl,rfl,trivial,rfl,a4,?_⟩
 have a7:s.aj[j]?=some (nV p (qZ row) (dY row.tail)):=by rw[a.rm,dz hp]
 apply bz (fA (gK (Cs (iA ?_))))
 apply ar rfl ?_
 refine ar (d:=(nV p (qZ row) (dY row.tail)).d) (aI (by rw[gQm,a7];rfl)) ?_
 refine bC (Ga ⟨_,rfl,bC (Ga ⟨_,rfl,?_⟩)⟩)
 refine⟨_,rfl,?_⟩
 show E _ _ _ λy S2=>Op (BW true S2 (.tup [.int (qZ row),bS (dY row.tail)]) y) _
 symm
 apply D8 ?_
 refine eI (C B) ?_
 refine B7 (sF (mZ (nh (Ga ⟨1,rfl,rO ⟨by show 1<=_;decide,?_⟩⟩))))
 refine⟨⟨rfl,rfl,C B,nQl (aH (by simp;omega))⟩,?_⟩
 symm
 apply hX bN (d:=.int (qZ row)) (by cases row with|nil=>rfl|cons y l=>exact aI (j:=0) rfl) ?_
 apply Az ?_
 refine eI (dr (C B)) ?_
 refine bC (Ga ⟨_,rfl,bI ⟨⟨rfl,dr (C B)⟩,?_⟩⟩)
 have W:eO (row.map aY) (some (1:Int)) none=(dY row.tail).map D.int:=by
  have Y:eO (row.map aY) (some (1:Int)) none=row.tail.map aY:=by
   cases row with
   |nil=>rfl
   | cons y l=>
     have:=fX (xs:=(y::l).map aY) (i:=1) (by simp)
     rw[show((1:Nat):Int)=(1:Int) from rfl] at this
     rw[this]
     rfl
  rw[Y]
  unfold dY
  rw[QPq]
  rfl
 show E _ _ _ λds S2=>_
 rw[W]
 symm
 refine⟨by show 2<=_;decide,?_⟩
 have a6:iR (.tup [.int (qZ row),bS (dY row.tail)])=some (.tuple [.int (qZ row),.tuple (row.tail.map λh:Nat=>PyData.int h)]):=by
  have Y:(dY row.tail).map D.int=row.tail.map aY:=by unfold dY;rw[QPq];rfl
  have e2:iR (bS (dY row.tail))=some (.tuple (row.tail.map λh:Nat=>PyData.int h)):=by
   show(jS _).map _=_
   rw[Y,J2]
   rfl
  show((iR _).bind λp=>(((iR _).bind λp=>(jS []).map (p::·))).map (p::·)).map _=_
  rw[e2]
  rfl
 refine xx a6 (by
  have:=HR row.tail
  generalize (row.tail.map λh:Nat=>PyData.int h)=t at this⊢
  simp[PyData.depth,PyData.depthAll]
  omega) ?_
 refine aZ (λc=>by cases c) (λ_=>bW ?_)
 refine nB (Eb (B7 ?_))
 have F:(u++ [O.lst (row.map aY++ [.int (-1)])])[S.length]?=some (.dct (jv (qE row p.1) (out++beh++row))):=dr N
 have a3:oB S (u++ [O.lst (row.map aY++ [.int (-1)])]):=bh.app
 show E _ _ (u++ [O.lst (row.map aY++ [.int (-1)])]) _
 generalize (u++ [O.lst (row.map aY++ [.int (-1)])])=S3 at F a3⊢
 refine ou (α:=Nat) (λe=>∃b,e= [b,some (w8 rs ds p.1 n).d,some s.d,some (.ref S.length)]) aY (λ_=>.bl true) (λ_=>true) ⟨none,rfl⟩ ?_
 refine IR (bP rfl ⟨_,_,rfl,F,?_⟩)
 refine⟨out++beh++row,by unfold jv;rw[QPq];rfl,gH F,by simp;omega,λh g e J=> ?_,?_⟩
 ·obtain⟨b,rfl⟩:=J
  refine aL ⟨rfl,⟨_,rfl⟩,?_⟩
  refine pB ⟨rfl,rfl,λ_=> ?_⟩
  apply Bn (mZ (Bn ?_))
  obtain⟨fs,f,h1,h2,h3⟩:=F8 (ds:=ds) (nm:=p.1) hp a (a1 h g)
  refine sh o x hm h1 h2 ?_
  rw[h3]
  dsimp only
  refine mZ (G8 (bP rfl (bP rfl ⟨_,_,_,_,rfl,rfl,gH F,vf g,?_⟩)))
  refine rO ?_
  refine yI 10 (qE row p.1 h) ?_ ⟨rfl,rfl⟩
  have a2:∀M:Str,Pl 10 (.tup [.str M,.str p.1]):=λM=>⟨by simp,λd H=>by
   simp only[Qsq,QXq,or_false] at H
   rcases H with rfl|rfl <;>trivial⟩
  unfold qE
  split
  ·exact a2 _
  ·split
   ·exact a2 _
   ·exact⟨by simp,λd H=>by rw[Qfq.mp H];trivial⟩
 ·refine⟨rfl,?_⟩
  rw[List.filter_eq_self.mpr (λ_ _=>rfl),List.map_const']
  refine⟨_,o7 _,?_⟩
  have:(List.replicate (out++beh++row).length true).all id=true:=by simp
  rw[this]
  exact A9 (a3.put (Qmq _)) (λk z=>(nomatch z)) rfl q
end
end W28
namespace DL
open PySem PySem.Spec L2
def F7{c:cE}{S:aA}{i j:Nat}{f:fc}{Q:Out->Prop}(h:E f c S λds d=>∃a b,ds= [a,b]/\Q (.nx ((c.set i (some a)).set j (some b)) d)):T (wu i j f) c S Q:=by
 obtain⟨ds,d,e,a,b,rfl,q⟩:=h
 exact⟨_,by unfold wu;rw[e];rfl,q⟩
def Dt{b:cE}{S:aA}{f:aW}{Q:List D->aA->Prop}(h:E f b S λd a=>∃j,d=.int j/\(-1000<=j/\j<=1000)/\Q (i3 0 j) a):E (yJ f) b S Q:=by
 obtain⟨d,a,c,j,rfl,hj,q⟩:=h
 exact⟨_,a,by unfold yJ;rw[c];simp only[Qbq];rw[Qhq hj],q⟩
end DL
namespace W28
open PySem PySem.Spec L2 DL
def yE{l:List Nat}{j h:Nat}{Q:List D×D->Prop}(b:l[j]?=some h)(c:l.length<=900)(q:Q ((l.eraseIdx j).map aY,aY h)):Op (j6 (l.map aY) [.int j]) Q:=by
 have a:=(gQs.mp b).1
 refine Jn ?_ q
 simp only[j6]
 rw[Qhq ⟨by omega,by omega⟩,lQm,HC a (by omega)]
 simp only[Qbq,gQm,b,Option.map_some]
 congr 2
 apply List.ext_getElem?
 intro i
 simp only[List.getElem?_eraseIdx,gQm]
 split <;>rfl
def AB{l:List Nat}{a b h:Nat}(nd:l.Nodup)(c:l[a]?=some h)(i:l[b]?=some h):a=b:=by
 obtain⟨f,e⟩:=gQs.mp c
 obtain⟨g,d⟩:=gQs.mp i
 exact(List.getElem_inj (h₀:=f) (h₁:=g) nd).mp (e.trans d.symm)
def Cv{n:Nat}:i3 0 (n:Int)=(List.range n).map aY:=by
 unfold i3
 rw[show((n:Int)-0).toNat=n by omega]
 refine List.map_congr_left λi _=> ?_
 show D.int (0+(i:Int))=D.int i
 rw[Int.zero_add]
section
variable{rs:List R8}{ds:List Nat}{p:R8}{i n k h m:Nat}{row beh:List Nat}{s:aN}
def Fl(c:Gf rs ds i p):v8 rs i n [] [] 0 (cR (w8 rs ds p.1 n)):=by
 refine⟨rfl,?_,?_,λh a=>(nomatch a),by simp,λh b _ _=> ?_,λh r e=>(nomatch e),λh a=>(nomatch a),λh a=>(nomatch a)⟩
 ·rw[wD]
  show(rs.map (lY ds)).map cI=_
  rw[QPq]
  refine List.map_congr_left λq _=> ?_
  show cI (lY ds q)=nV q (-1) []
  unfold cI lY nV
  cases q.2.2 <;>rfl
 ·show((List.replicate n _).map _).length=n
  simp
 ·show((List.replicate n (([]:List (Str×Nat)),DS p.1)).map _)[h]?=_
  rw[gQm,List.getElem?_replicate,Qhq b]
  rfl
end
def B9:∀ns:List Int,ns.length<=63->∃C,DE [.ref 0] [.frz (ns.map D.int)]=some (.d (.bl true),C):=by
 intro ns f5
 suffices h:Fn DE [.ref 0] [.frz (ns.map D.int)] λr _=>r=.d (.bl true) by
  obtain⟨r,C,e,rfl⟩:=h
  exact⟨C,e⟩
 refine bD ?_
 unfold HG
 refine bz (iJ ?_)
 apply Au ?_
 apply Af rfl ?_
 apply AQ ?_
 refine DX ?_
 obtain⟨m,hm,f2⟩:∃m:Nat,(if (if (8:Int)<((ns.map D.int).length:Nat) then(8:Int) else((ns.map D.int).length:Nat))>(1:Int) then(if (8:Int)<((ns.map D.int).length:Nat) then(8:Int) else((ns.map D.int).length:Nat)) else 1)=(m:Int)/\m<=8:=by
  refine⟨(if (if (8:Int)<((ns.map D.int).length:Nat) then(8:Int) else((ns.map D.int).length:Nat))>(1:Int) then(if (8:Int)<((ns.map D.int).length:Nat) then(8:Int) else((ns.map D.int).length:Nat)) else 1).toNat,?_,?_⟩ <;>(repeat' split) <;>omega
 refine⟨m,congrArg D.int hm,by omega,?_⟩
 refine⟨λn q C=>(∃a1 a2 a3 a4 a5 a6 a7 a8 a9 w y A,q= [some (.ref 0),a1,a2,a3,a4,a5,a6,a7,a8,a9,w,y,A])/\C[0]?=some (.frz (ns.map D.int)),⟨⟨_,_,_,_,_,_,_,_,_,_,_,_,rfl⟩,rfl⟩,λ_ _ _ _=>trivial,?_,?_⟩
 ·rintro n0 d q S hd ⟨⟨a1,a2,a3,a4,a5,a6,a7,a8,a9,w,y,A,rfl⟩,hS⟩
  obtain⟨rfl,_⟩:=pK hd
  apply aL ?_
  apply FC hS λpa pb=> ?_
  have N:Ex S.length (S++ [l9 pa pb 0]) (S++ [l9 pa pb 0]):=Ex.refl bN
  have d3:(S++ [l9 pa pb 0])[0]?=some (.frz (ns.map D.int)):=dr hS
  have h0:0≠S.length:=by
   have:=(gQs.mp hS).1
   omega
  show Fn bA [.ref S.length,.int 3] (S++ [l9 pa pb 0]) _
  generalize S.length=kp at N h0⊢
  generalize S++ [l9 pa pb 0]=S1 at N d3⊢
  have b3:=N.lt
  apply fw N (by decide) (by decide) λv S2 hv e2 d5 l2=> ?_
  rw[show(2:Int)+(v:Int)=((2+v:Nat):Int) by omega]
  refine zL e2 (by omega) (by omega) λJ ds i p I wo e3=> ?_
  generalize hn:2+v=n
  have b2:0<n:=by omega
  have b1:n<=4:=by omega
  refine dA rfl (au (aL (au (aL (au (aL (aQ ?_)))))))
  have ok:=wo.ok b2 b1
  have hp:=wo.at_
  have d4:cv (J.map (·.1)) p.1=i:=xu wo.nd (by rw[gQm,hp];rfl)
  have Y:∀l:List Nat,l.Nodup->(∀h∈l,h<n)->l.length<=4:=λl h1 h2=>by
   have:=List.Nodup.length_le_of_subset h1 (l₂:=List.range n) (λh H=>List.mem_range.mpr (h2 h H))
   rw[QVq] at this
   omega
  symm
  apply Dt ?_
  apply ar rfl ?_
  have d8:((w8 J ds p.1 n).af.map lJ).length=n:=by show((List.replicate n _).map _).length=n;simp
  refine⟨((n:Nat):Int),congrArg (λz:Nat=>D.int z) d8,by omega,?_⟩
  rw[Cv]
  symm
  refine F7 (mZ (DW (sF (rO ⟨by show 0<=_;decide,mZ (DW (sF (rO ⟨by show 0<=_;decide,rO ⟨_,_,rfl,?_⟩⟩)))⟩))))
  have l3:=e3.len
  have d9:kp<I.length:=by omega
  have e4:Ex kp S1 (I++ [O.lst ((List.range n).map aY)]++ [O.lst []]++ [O.lst []]):=e3.app.app.app
  have b6:(I++ [O.lst ((List.range n).map aY)]++ [O.lst []]++ [O.lst []])[I.length]?=some (.lst ((List.range n).map aY)):=dr (dr bN)
  have c2:(I++ [O.lst ((List.range n).map aY)]++ [O.lst []]++ [O.lst []])[I.length+1]?=some (.lst (([]:List Nat).map aY)):=dr (by have:=bN (S:=I++ [O.lst ((List.range n).map aY)]) (o:=O.lst []);simpa using this)
  have c3:(I++ [O.lst ((List.range n).map aY)]++ [O.lst []]++ [O.lst []])[I.length+2]?=some (.lst (([]:List Nat).map aY)):=by have:=bN (S:=I++ [O.lst ((List.range n).map aY)]++ [O.lst []]) (o:=O.lst []);simpa using this
  show T _ [some (.ref 0),some (.int n0),some (.ref kp),some (w8 J ds p.1 n).d,some (.str p.1),some (.int ds.length),some (.ref I.length),some (.ref (I++ [O.lst ((List.range n).map aY)]).length),some (.ref (I++ [O.lst ((List.range n).map aY)]++ [O.lst []]).length),a9,w,y,A] _ _
  rw[show(I++ [O.lst ((List.range n).map aY)]++ [O.lst []]).length=I.length+2 by simp,show(I++ [O.lst ((List.range n).map aY)]).length=I.length+1 by simp]
  generalize I++ [O.lst ((List.range n).map aY)]++ [O.lst []]++ [O.lst []]=S4 at e4 b6 c2 c3⊢
  generalize I.length=lo at l3 d9 b6 c2 c3⊢
  clear e3 e2 d5 l2 hS
  symm
  refine Bd ok ?_
  dsimp only
  refine bz (FR (λm' q C=>∃(out b:List Nat) (s:aN) (mm:Nat),q= [some (.ref 0),some (.int n0),some (.ref kp),some (w8 J ds p.1 n).d,some (.str p.1),some (.int ds.length),some (.ref lo),some (.ref (lo+1)),some (.ref (lo+2)),some s.d,w,y,A]/\out.length=m'/\out.Nodup/\(∀h∈out,h<n/\h∉b)/\v8 J i n b [] 0 s/\bT (w8 J ds p.1 n) mm s/\mm=1+b.length/\C[lo]?=some (.lst (out.map aY))/\C[lo+1]?=some (.lst (b.map aY))/\C[lo+2]?=some (.lst (([]:List Nat).map aY))/\Ex kp S1 C) ?_ 5 n _ _ (by omega) ⟨List.range n,[],cR (w8 J ds p.1 n),1,rfl,QVq,List.nodup_range,λh H=>⟨List.mem_range.mp H,λz=>(nomatch z)⟩,Fl wo,zv ok,rfl,b6,c2,c3,e4⟩)
  ·rintro m' q C ⟨out,b,s,mm,rfl,rfl,hond,hout,F,xs,rfl,hO,hR,hB,ex⟩
   have c0:b.length<=4:=Y b (by have:=F.nd;rwa [List.append_nil] at this) (λh H=>F.lt h (by simpa using H))
   have e9:out.length<=4:=Y out hond λh H=>(hout h H).1
   refine gK (yx (nM (bP rfl (eI hO ⟨⟨rfl,hO⟩,?_⟩))))
   refine aZ (λc=> ?_) (λc=> ?_)
   ·have f3:0<out.length:=by
     cases out with
     |nil=>cases c
     |cons a l=>simp
    apply⟨out.length-1,by omega,?_⟩
    apply BM ?_
    apply⟨_,_,rfl,hR,?_⟩
    apply BM ?_
    apply⟨_,_,rfl,hO,?_⟩
    apply eI hO ?_
    refine fw ex (by simp only[lQm];omega) (by simp only[lQm];omega) λj S6 hj e6 b8 l6=> ?_
    symm
    have c5:j<out.length:=by simpa using hj
    have c4:=b8.keep _ _ (show lo≠kp by omega) hO
    have e5:=b8.keep _ _ (show lo+1≠kp by omega) hR
    have d6:=b8.keep _ _ (show lo+2≠kp by omega) hB
    obtain⟨h,H⟩:∃h,out[j]?=some h:=⟨_,gQe c5⟩
    refine⟨_,c4,yE H (by omega) ?_⟩
    have Z:=gH (o':=.lst ((out.eraseIdx j).map aY)) c4
    have U:=iE (k:=lo) (o':=.lst ((out.eraseIdx j).map aY)) (show lo+1≠lo by omega) e5
    have R:=iE (k:=lo) (o':=.lst ((out.eraseIdx j).map aY)) (show lo+2≠lo by omega) d6
    have e7:Ex kp S1 (S6.set lo (.lst ((out.eraseIdx j).map aY))):=e6.put (by omega) b3
    generalize S6.set lo (.lst ((out.eraseIdx j).map aY))=S7 at Z U R e7⊢
    symm
    refine⟨_,U,wQ (aH (by rw[lQm];omega)) ?_⟩
    have b0:=iE (k:=lo+1) (o':=.lst (b.map aY++ [aY h])) (show lo≠lo+1 by omega) Z
    have K:=gH (o':=.lst (b.map aY++ [aY h])) U
    have W:=iE (k:=lo+1) (o':=.lst (b.map aY++ [aY h])) (show lo+2≠lo+1 by omega) R
    have e8:Ex kp S1 (S7.set (lo+1) (.lst (b.map aY++ [aY h]))):=e7.put (by omega) b3
    generalize S7.set (lo+1) (.lst (b.map aY++ [aY h]))=S8 at b0 K W e8⊢
    have c1:b.map aY++ [aY h]=(b++ [h]).map aY:=by simp
    rw[c1] at K
    have b5:=mQg H
    obtain⟨s',es,P,g,M⟩:=G_ (ds:=ds) hp d4 F (hout h b5).1 (hout h b5).2 (λz=>(nomatch z))
    obtain⟨B,Q⟩:=ow ok xs (by omega) g M rfl
    rw[es] at B Q
    symm
    refine nh (Ga ⟨1,rfl,?_⟩)
    refine hX K (d:=aY h) (pW (by rw[Qzq];simp)) ?_
    symm
    apply iz (xs.mays ok (by omega)) g B ?_
    apply ar (d:=s'.d) rfl ?_
    refine⟨by show 3<=_;decide,?_⟩
    have X:(out.eraseIdx j).Nodup:=hond.sublist (List.eraseIdx_sublist ..)
    have L:∀x∈out.eraseIdx j,x<n/\x∉b++ [h]/\x∉([]:List Nat):=λx hx=>by
     have d2:=List.mem_of_mem_eraseIdx hx
     refine⟨(hout x d2).1,λz=> ?_,λz=>(nomatch z)⟩
     rcases mQa.mp z with z|z
     ·exact(hout x d2).2 z
     ·rw[Qfq.mp z] at hx
      obtain⟨i',e'⟩:=List.getElem?_of_mem hx
      rw[List.getElem?_eraseIdx] at e'
      split at e'
      ·have:=AB hond e' H
       omega
      ·have:=AB hond e' H
       omega
    symm
    refine mK wo b2 b1 Q (by omega) P L X b0 K W ?_
    dsimp only
    refine qh ?_
    refine aZ (λc=>by cases c) (λ_=>bW ?_)
    exact⟨_,_,_,_,rfl,by rw[List.length_eraseIdx,Qhq c5],X,λx hx=>⟨(L x hx).1,(L x hx).2.1⟩,P,Q,by simp;omega,b0,K,W,e8⟩
   ·have e1:out= []:=by
     cases out with
     |nil=>rfl
     |cons a l=>cases c
    subst e1
    have c0:b.length<=4:=c0
    refine bz (FR (λm' q C=>∃(b u:List Nat) (s:aN) (mm:Nat) (w:Option D),q= [some (.ref 0),some (.int n0),some (.ref kp),some (w8 J ds p.1 n).d,some (.str p.1),some (.int ds.length),some (.ref lo),some (.ref (lo+1)),some (.ref (lo+2)),some s.d,w,y,A]/\b.length=m'/\v8 J i n b u 0 s/\bT (w8 J ds p.1 n) mm s/\mm<=5+5*u.length/\C[lo]?=some (.lst (([]:List Nat).map aY))/\C[lo+1]?=some (.lst (b.map aY))/\C[lo+2]?=some (.lst (u.map aY))/\Ex kp S1 C) ?_ 5 b.length _ _ (by omega) ⟨b,[],s,_,_,rfl,rfl,F,xs,by simp;omega,hO,hR,hB,ex⟩)
    clear hO hR hB ex xs F c0 e9 hond hout
    rintro m' q C ⟨b,u,s,mm,w,rfl,rfl,F,xs,hmm,hO,hR,hB,ex⟩
    have e0:b.length+u.length<=4:=by
     have:=Y _ F.nd F.lt
     rwa [lQa] at this
    refine gK (yx (nM (bP rfl (eI hR ⟨⟨rfl,hR⟩,?_⟩))))
    refine aZ (λc=> ?_) (λc=> ?_)
    ·cases b with
     |nil=>cases c
     | cons h r=>
       refine⟨r.length,rfl,?_⟩
       have f1:=wo.d1
       simp only[Qnq] at e0
       apply bz (iJ (Au ?_))
       rw[show(ds.length:Int)+1=((ds.length+1:Nat):Int) by omega]
       refine⟨((ds.length+1:Nat):Int),rfl,by omega,?_⟩
       refine⟨λj q G=>G=C/\∃(s:aN) (w:Option D),q= [some (.ref 0),some (.int n0),some (.ref kp),some (w8 J ds p.1 n).d,some (.str p.1),some (.int ds.length),some (.ref lo),some (.ref (lo+1)),some (.ref (lo+2)),some s.d,w,y,A]/\bT (w8 J ds p.1 n) (mm+j) s/\(j<=ds.length->v8 J i n (h::r) u j s)/\(j=ds.length+1->v8 J i n r (u++ [h]) 0 s),⟨rfl,s,w,rfl,xs,λ_=>F,λz=>by omega⟩,λ_ _ _ _=>trivial,?_,?_⟩
       · rintro j d q G hd ⟨rfl,s,w,rfl,xs,F,_⟩
         obtain⟨rfl,hj⟩:=pK hd
         have F:=F (by omega)
         apply aL ?_
         refine⟨by show 3<=_;decide,?_⟩
         symm
         refine mK (out:= []) wo b2 b1 xs (by omega) F (λh H=>(nomatch H)) (by simp) hO hR hB ?_
         dsimp only
         refine qh ?_
         apply aZ (λc=>by cases c) (λ_=>bW ?_)
         apply hX hR (d:=aY h) (aI (j:=0) rfl) ?_
         by_cases cj:j<ds.length
         · obtain⟨s',t,es,P,g,M⟩:=GJ (ds:=ds) (nm:=p.1) hp F cj
           obtain⟨B,Q⟩:=ow ok xs (by omega) g M rfl
           rw[es] at B Q
           apply iz (xs.mays ok (by omega)) g B ?_
           refine ar (d:=s'.d) rfl ?_
           exact⟨rfl,s',_,rfl,Q,λ_=>P,λz=>by omega⟩
         · have f0:j=ds.length:=by omega
           subst f0
           obtain⟨s',t,es,P,g,M⟩:=Jd (ds:=ds) (nm:=p.1) hp F
           obtain⟨B,Q⟩:=ow ok xs (by omega) g M rfl
           rw[es] at B Q
           apply iz (xs.mays ok (by omega)) g B ?_
           refine ar (d:=s'.d) rfl ?_
           exact⟨rfl,s',_,rfl,Q,λz=>by omega,λ_=>P⟩
       · rintro q G ⟨rfl,s,w,rfl,xs,_,F⟩
         rw[vX] at F xs
         have F:=F rfl
         symm
         apply BM ?_
         apply⟨_,_,rfl,hB,?_⟩
         apply BM ?_
         apply⟨_,_,rfl,hR,?_⟩
         refine⟨_,hR,yE (j:=0) rfl (by simp;omega) ?_⟩
         have Z:=iE (k:=lo+1) (o':=.lst (r.map aY)) (show lo≠lo+1 by omega) hO
         have U:=gH (o':=.lst (r.map aY)) hR
         have R:=iE (k:=lo+1) (o':=.lst (r.map aY)) (show lo+2≠lo+1 by omega) hB
         have e7:Ex kp S1 (G.set (lo+1) (.lst (r.map aY))):=ex.put (by omega) b3
         show E aw _ (G.set (lo+1) (.lst (r.map aY))) _
         generalize G.set (lo+1) (.lst (r.map aY))=S7 at Z U R e7⊢
         symm
         refine⟨_,R,wQ (aH (by rw[lQm];omega)) ?_⟩
         have b0:=iE (k:=lo+2) (o':=.lst (u.map aY++ [aY h])) (show lo≠lo+2 by omega) Z
         have K:=iE (k:=lo+2) (o':=.lst (u.map aY++ [aY h])) (show lo+1≠lo+2 by omega) U
         have W:=gH (o':=.lst (u.map aY++ [aY h])) R
         have c1:u.map aY++ [aY h]=(u++ [h]).map aY:=by simp
         exact⟨r,u++ [h],s,_,_,rfl,rfl,F,xs,by simp;omega,b0,K,by rw[←c1];exact W,e7.put (by omega) b3⟩
    ·have d7:b= []:=by
      cases b with
      |nil=>rfl
      |cons a l=>cases c
     subst d7
     have f4:u.length<=4:=by omega
     symm
     refine⟨by show 3<=_;decide,?_⟩
     symm
     refine mK (out:= []) wo b2 b1 xs (by omega) F (λh H=>(nomatch H)) (by simp) hO hR hB ?_
     dsimp only
     refine qh ?_
     refine aZ (λc=>by cases c) (λ_=>bW ?_)
     refine iJ (sN (nM (bP rfl (eI hB ?_))))
     refine⟨λj q G=>G=C/\∃(s:aN) (y A:Option D),q= [some (.ref 0),some (.int n0),some (.ref kp),some (w8 J ds p.1 n).d,some (.str p.1),some (.int ds.length),some (.ref lo),some (.ref (lo+1)),some (.ref (lo+2)),some s.d,w,y,A]/\bT (w8 J ds p.1 n) (mm+j) s/\GT J i n (u.drop j) s,⟨rfl,s,_,_,rfl,xs,F.en⟩,λ_ _ _ h=>by rw[h.1];exact hB,?_,?_⟩
     ·rintro j d q G hd ⟨rfl,s,y,A,rfl,xs,en⟩
      rw[gQm] at hd
      obtain⟨h,H,rfl⟩:=oQm.mp hd
      have hj:=(gQs.mp H).1
      have b7:u.drop j=h::u.drop (j+1):=by
       rw[gQe hj] at H
       rw[QWq hj,QdQ H]
      rw[b7] at en
      obtain⟨s',es,c6,g,M,b4⟩:=JB (ds:=ds) (nm:=p.1) hp en
      obtain⟨B,Q⟩:=ow ok xs (by omega) g M rfl
      rw[es] at B Q
      apply aL ?_
      refine iz (xs.mays ok (by omega)) g B ?_
      apply dA rfl (au (aL (au (aL (aQ ?_)))))
      refine⟨by show 2<=_;decide,?_⟩
      show Op (BW true _ (.tup [.int h,.int 1]) (.tup [.int h,.int 1])) _
      refine xx (p:=.tuple [.int h,.int 1]) rfl (by simp[PyData.depth,PyData.depthAll]) ?_
      apply aZ (λc=>by cases c) (λ_=> ?_)
      refine sh (f:=bU 2) ok Q (by omega) b4 rfl ?_
      rw[Hl (ds:=ds) (nm:=p.1) hp c6 (en.lt h (by simp)) b4]
      symm
      refine⟨by show 1<=_;decide,?_⟩
      refine xx (p:=.tuple [.str "done"]) (by simp only[iR,jS];rw[Qhq (by decide +kernel)];rfl) (by simp[PyData.depth,PyData.depthAll]) ?_
      refine aZ (λc=>by cases c) (λ_=>bW ?_)
      exact⟨rfl,s',_,_,rfl,Q,c6⟩
     ·rintro q G ⟨rfl,s,y,A,rfl,_,_⟩
      exact⟨⟨_,_,_,_,_,_,_,_,_,_,_,_,rfl⟩,ex.keep _ _ h0 d3⟩
 ·rintro q C ⟨⟨a1,a2,a3,a4,a5,a6,a7,a8,a9,w,y,A,rfl⟩,hS⟩
  symm
  have hl:=(gQs.mp hS).1
  refine fH (S2:= [.frz (ns.map D.int)]) ⟨by show 1<=C.length;omega,λk o hk e=> ?_⟩ ?_ (λk z=>(nomatch z)) rfl rfl
  ·have hk:k<1:=hk
   have:k=0:=by omega
   subst this
   rw[hS] at e
   exact .inl e
  ·cases C with
   |nil=>simp at hl
   | cons a l=>
     simp at hS
     subst hS
     rfl
end W28
open PySem PySem.W PyProof.Rows L2 DL
theorem PySem.Challenge.cw_calledroom_k18_a_row_of_hands_holds : PySem.Challenge.rw_calledroom_k18_a_row_of_hands.Holds := by
  w_on; o_law; k_head; (case hw => w_witness2)
  k_fill
  refine DL.GO (l := PySem.Challenge.rw_calledroom_k18_a_row_of_hands) (k := 14) rfl rfl ⟨rfl, by decide, by decide⟩ (λw h Y => PySem.W.kIn_of Y) (λw => ?nl) ?F
  case nl => rfl
  case F =>
    intro w mg fa h KX G hmg
    refine' W28.all_mk KX G hmg ?_ ?_ ?_ ?_ ?_ ?_ ?_ ?_ ?_ ?_ ?_ ?_ ?_ ?_ ?_ ?_ ?_ ?_ ?_ ?_ ?_ ?_ ?_ ?_ ?_ ?_ ?_ ?_ ?_ ?_ ?_ ?_ ?_ ?_ ?_ ?_ ?_ ?_ ?_ ?_ ?_ ?_ ?_ ?_ ?_ ?_ ?_ ?_ ?_ ?_ ?_ ?_ ?_ ?_ ?_ ?_ ?_ ?_ ?_ ?_ ?_ ?_ ?_ ?_ ?_ ?_ ?_ ?_ ?_ ?_ ?_ ?_ ?_ ?_ ?_ ?_ ?_ ?_ W28.B9
    any_goals first | exact DL.aS.of (by k_is) (by k_is) (by k_is) (by k_is) | k_is
